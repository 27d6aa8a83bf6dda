import Derived.Test.YtjnglocdoljgkaaGreatSw9
import Derived.Deep.LoopGhost
namespace Go.Proofs.YtjnglocdoljgkaaGreat
open Go.ChangeShapes Go.WideShapes Go.ChangeAt Go.RowKit
set_option linter.unusedVariables false
open Go.Value renaming slice → Z,int → Ac
open Option renaming some → K,none → M
open Go renaming Value → J,World → Y,Calls → Ae,TypeId → Af
open Go.RowKit renaming Hid → Aa,Below → Ad
open Go.IntKind renaming i64 → Ab
set_option maxHeartbeats 8000000
set_option maxRecDepth 100000
variable {w u f g:Y}{xs:List MI}{F:List (MB×J)}{l L B:List Nat}{i x:Nat}{a A:Array J}{e V' s:J}{t:Af}{P Q:Nat->Bool}{I:Nat->Int}
theorem DO(s:J)(xs:List Int)(v:Int)(w:Y)(G:xs.length<=1048576)(h:Rd w 1 s xs (xs.flatMap Ah)):
 Ae Tryz.prog 121 #[s,Ac Ab v] w λe I=>AC e (v∈xs)/\I=w:=by
 have f:=Ap h;obtain⟨L,c1,rfl⟩:=h.fu;clear h;generalize z:xs.length=n at G f⊢;have l:=Ap z;clear z;go_enter Tryz.func121,Tryz.ntmps121;go_wp2;go_loopw [5] (λi wr=>∃k:Nat,k<=n/\i=Ac Ab k/\Aa (∀j,j<k->¬xs[j]?=K v)/\wr=w) (λi _=>n-(intOf i).toNat)
 case atStart=>exact⟨0,oM,rfl, λj a=>oM,rfl⟩
 obtain⟨k,N,rfl,p,rfl⟩:=hrel;by_cases D:k<n
 . obtain⟨x,b⟩:∃x,xs[k]?=K x:=⟨_,an (by rw[l.o];exact D)⟩;rcases f.o.2 with⟨e0,_⟩|⟨g,o,c,y,A⟩
   . omega
   simp only[jc,lO]at y;obtain⟨rfl,rfl⟩:=y;have H:=Rd.elem Ao A k x b 0 _ rfl;rw[lr,kZ]at H;have t:=Ap b;clear A b;by_cases B:x=v
   . subst B;go_wp2;go_ret;exact⟨.ik (i8 t.o),rfl⟩
   go_wp2;go_roundw;case rel=>
    refine⟨k+1,oM,by go_num, λj a=> ?_,trivial⟩;by_cases e:j=k
    . subst e;rw[t.o];exact λe=>B (kN e)
    exact p.o j oM
   case measure=>exact oI
 have C:k=n:=oM;subst C;go_wp2;go_ret;refine⟨.no λF=> ?_,rfl⟩;obtain⟨j,a⟩:=lw F;exact p.o j (by have:=(iV.1 a).1;rw[l.o]at this;exact this) a
def Wl(ts:List MT)(a b n:Int):Prop:=(n=-1/\DK ts a b=M)\/∃(k:Nat) (c:MT),n=(k:Int)/\ts[k]?=K c/\DK ts a b=K c
theorem KW(v:VP)(p:MP)(l s:Int)(w:Y)(hs:p.small)(h:Cz w v p):
 Ae Tryz.prog 144 #[.agg #[v.r,v.k,v.f,v.t],Ac Ab l,Ac Ab s] w λe w'=>(∃n,e=.returned (Ac Ab n)/\Wl p.dr l s n)/\Ad w w w':=by
 obtain⟨H,vk,G,vt⟩:=v;have R:=Ap h.dr;have hn:=hs.dr;obtain⟨B,c1,C⟩:∃a c,vt=Z a p.dr c:=h.dr.fu;subst C;clear h hs;have g:Aa (Ad w w (w.alloc (.cells #[H,vk,G,Z B p.dr c1] 28))/\DU (w.alloc (.cells #[H,vk,G,Z B p.dr c1] 28)) w H vk G (Z B p.dr c1)):=⟨Ag _ _,DU.new _ _ _ _ _ _⟩
 generalize W:p.dr.length=n at hn R g⊢;have S:=Ap W;clear W;go_enter Tryz.func144,Tryz.ntmps144;go_wp2;go_loopw [7] (λi wr=>∃k:Nat,k<=n/\i=Ac Ab k/\Aa (∀j c,j<k->p.dr[j]?=K c->¬(c.func=l/\c.head=s))/\Aa (Ad w w wr/\DU wr w H vk G (Z B n c1))) (λi _=>n-(intOf i).toNat)
 case atStart=>exact⟨0,oM,rfl, λj c y=>oM,g⟩
 clear g;obtain⟨k,hk,rfl,I,g⟩:=hrel;obtain⟨p0,p1,p2,p3⟩:=g.o.2;by_cases ae:k<n
 . obtain⟨x,D⟩:∃x,p.dr[k]?=K x:=⟨_,an (by rw[S.o];exact ae)⟩;rcases R.o.2 with⟨e0,_⟩|⟨b,o,c,C,N⟩
   . omega
   simp only[jc,lO]at C;obtain⟨rfl,rfl⟩:=C;have O:=Rd.elem MT.gH N k x D 0 _ rfl;have Q:=Rd.elem MT.gH N k x D 1 _ rfl;rw[<-g.o.1.cell (jC O),kZ]at O;rw[<-g.o.1.cell (jC Q)]at Q;have L:=Ap D;clear N D;by_cases q:x.func=l/\x.head=s
   . obtain⟨A,F⟩:=q;have HC:=Ap (Oc L.o ⟨A,F⟩ λj c y z=>I.o j c y z);rw[A]at O;rw[F]at Q;clear A F;go_wp2;go_ret;exact⟨⟨_,rfl,.inr ⟨k,x,rfl,L.o,HC.o⟩⟩,g.o.1⟩
   have T:Aa (∀j c,j<k+1->p.dr[j]?=K c->¬(c.func=l/\c.head=s)):= λj c y z=>by
    by_cases e:j=k
    . subst e;rw[L.o]at z;(cases z);exact q
    exact I.o j c oM z
   by_cases A:x.func=l
   . (have F:¬x.head=s:= λe=>q ⟨A,e⟩);clear q;go_wp2;go_roundw;(case rel=>exact⟨k+1,oM,by go_num,T.o,g.o⟩);exact oI
   clear q;go_wp2;go_roundw;(case rel=>exact⟨k+1,oM,by go_num,T.o,g.o⟩);exact oI
 have a8:k=n:=oM;subst a8;go_wp2;go_ret;exact⟨⟨_,rfl,.inl ⟨by go_num,Ob λj c y=>I.o j c (by have:=(iV.1 y).1;rw[S.o]at this;exact this) y⟩⟩,g.o.1⟩
def GT(xs:List MI)(p:Int):Int:=((Cs xs xs).idxOf p.toNat:Int)
def Kc(xs:List MI)(x:MB×J):MB×J:=(⟨x.1.gK,x.1.last,x.1.next.map (GT xs)⟩,x.2)
theorem Tr(xs:List MI)(f:AH xs)(D:List (MB×J))(h:D.map Prod.fst=JD xs):(D.map (Kc xs)).map Prod.fst=At xs:=by
 have j:(D.map (Kc xs)).map Prod.fst=(D.map Prod.fst).map λb=>⟨b.gK,b.last,b.next.map (GT xs)⟩:=by rw[ni,ni];rfl
 rw[j,h];unfold JD At;rw[ni];apply nF;intro m g;obtain⟨b,k⟩:=lw g;obtain⟨e,a,l⟩:=Je xs xs f.1 m g;obtain⟨x,i⟩:∃x,xs[e]?=K x:=⟨_,an l⟩;have n:=JE xs b e x m f k a i;simp only[Function.comp,Sx,DY];rw[a,kM,lD,i];simp only[nT];rw[n];rfl
theorem Pb(xs:List MI)(j:AH xs)(m:MB)(k:m∈JD xs)(p:Int)(a:p∈m.next):0<=p/\p.toNat∈Cs xs xs:=by
 unfold JD at k;obtain⟨n,l,rfl⟩:=lK.1 k;obtain⟨b,g⟩:=lw l;obtain⟨e,h,i⟩:=Je xs xs j.1 n l;obtain⟨x,f⟩:∃x,xs[e]?=K x:=⟨_,an i⟩;simp only[Sx]at a;rw[h,kM,lD,f]at a;simp only[nT,AO]at a;rcases kS.1 a with h1|h1
 . split at h1
   . rename_i q;simp only[lA,lW,mZ]at h1;subst h1;rw[Cp]at g;refine⟨oM,?_⟩;rw[kM];exact KA _ _ _ _ _ g h q.2
   cases h1
 split at h1
 . rename_i q;simp only[lA,lW,mZ]at h1;subst h1;obtain⟨c0,c1⟩:=j.2.2 e x f q.1;have c3:(x.c.toNat:Int)=x.c:=nE c0;exact⟨c0,(Cf _ _ _).2 ⟨oM,Hb xs _ e _ x i f (by simp[Fq,q.1,c3])⟩⟩
 cases h1
theorem Vk(L:List Nat)(q:Nat):(L.map Int.ofNat).idxOf (q:Int)=L.idxOf q:=by
 induction L with
 |nil=>rfl
 | cons y r a=>
   rw[mo,oh,oh,a];by_cases h:y=q
   . subst h;simp
   (have h1:(Int.ofNat y==(q:Int))=false:=by rw[nD];intro e;exact h (by have b:(y:Int)=(q:Int):=e;omega));(have h2:(y==q)=false:=by simpa using h);rw[h1,h2]
structure JW(w u:Y)(xs:List MI)(gl cl bl:Nat)(F:List (MB×J)):Prop where
 row:u.ownsRow w 58 3 (sG bl (Cs xs xs).length (Cs xs xs).length) (Cs xs xs).length (F.flatMap Ct)
 gW:CU u w ((sG gl (Cs xs xs).length cl,(Cs xs xs).map Int.ofNat)::DP F)
 gG:Ad w w u
theorem JW.bM{e cl b:Nat}(h:JW w u xs e cl b F)(a:Ad u u f):JW w f xs e cl b F:=⟨Am h.row a lR,h.gW.bM a,Ai h.gG lR a⟩
theorem JW.drew{b cl a:Nat}(h:JW w u xs b cl a F)(k:Nat):JW w (u.drewN k) xs b cl a F:=⟨⟨h.row.1,h.row.2⟩,⟨λr e=>⟨(h.gW.own r e).1,(h.gW.own r e).2⟩,h.gW.sep⟩,⟨h.gG.os,h.gG.tape,h.gG.output,h.gG.size,h.gG.block⟩⟩
theorem JW.set{j cl m b e n:Nat}{E G:List (MB×J)}{f l:Int}{a k:List Int}{z:Int}(h:JW w u xs j cl m (E++(⟨f,l,a⟩,sG b n e)::G))(q: ↑a=n)(s:(a.flatMap Ah).set i (iZ z)=k.flatMap Ah)(r:k.length= ↑a):JW w (u.setCell ⟨b,i,M⟩ (iZ z)) xs j cl m (E++(⟨f,l,k⟩,sG b n e)::G):=by
 have g:=h.gW.own (sG b n e,a) (by simp[DP]);simp only[]at g;rw[q]at g;have h1:=(g.stored i (iZ z)).1;rw[s]at h1;refine⟨?_,?_,h.gG.setCell (AD g).1 _⟩
 . have:=BW h.row g dC i (iZ z);simpa[Ct]using this
 have p:=h.gW;rw[show(((sG j (Cs xs xs).length cl,(Cs xs xs).map Int.ofNat):J×List Int)::DP (E++((⟨f,l,a⟩:MB),(sG b n e:J))::G))=(((sG j (Cs xs xs).length cl,(Cs xs xs).map Int.ofNat):J×List Int)::DP E)++((sG b n e:J),a)::DP G from by simp[DP]]at p;have:=CU.put (c':=k) p r (by rw[q];exact h1) (Fl ⟨rfl,rfl,rfl,Nat.le_refl _, λ_ _ _=>rfl⟩ i (iZ z));simpa[DP]using this
theorem JW.search{a cl m:Nat}(h:JW w u xs a cl i F)(g:(Cs xs xs).length=m)(s:m<=1024)(p:Int)(r:0<=p)(j:p.toNat∈Cs xs xs):
 Ae Tryz.prog 96 #[sG a m cl,iZ p] u λe l=>(∃b,e=.returned (.tuple #[iZ (GT xs p),.bool b]))/\∃q,l=u.drewN q:=by
 have f:=Rd.gM (h.gW.own _ ln);simp only[kW]at f;have k:=QV a cl ((Cs xs xs).map Int.ofNat) p u (by rw[kW,g];omega) (nP.2 ((CC xs _).imp (λh=>by simpa using h))) (by rw[kW];exact f) (lK.2 ⟨p.toNat,j,oT⟩);have e:((Cs xs xs).map Int.ofNat).idxOf p=(Cs xs xs).idxOf p.toNat:=by have n:p=(p.toNat:Int):=oM;rw[<-Vk];congr 1
 rw[kW,g,e]at k;exact k
theorem SR(xs:List MI)(a:List Int)(i:Nat)(p:Int)(h:a[i]?=K p):(((a.map (GT xs)).take i++a.drop i).flatMap Ah).set i (iZ (GT xs p))=((a.map (GT xs)).take (i+1)++a.drop (i+1)).flatMap Ah:=by
 obtain⟨b,e⟩:=iV.1 h;rw[mv b,e,lJ,kX];have f:((List.take i (a.map (GT xs))).flatMap Ah).length=i:=by rw[Au Ah 1 Ao,lj,kW];omega
 rw[show Ah p++List.flatMap Ah (List.drop (i+1) a)=[Value.int Ab p]++List.flatMap Ah (List.drop (i+1) a)from rfl,W6 _ _ _ _ i f,lH (by simpa using b),lJ,lJ];simp[Ah,e]
theorem EP(h:x<=1048576):CO (x:Int):=by simp[CO,Lit.wf,IntKind.min,IntKind.max,IntKind.signed,IntKind.bits];omega
theorem Ur(w:Y)(g o c n l p s t j:Nat)(E:Nat->List Nat)(hn:n<=1024)(hE:∀b,b<n->∀x∈E b,x<n)(aA:∀b,(E b).length<=2048)(h:FR w g o n E):
 ∀(m:Nat) (S O:List Nat) (b:Nat) (V:J) (u:Y),A4 S n=m->b<n->PO w u n l p s t j (Z (K ⟨g,o,M⟩) n c) V S O->(b∉S-> ↑O+A4 S n<=n)->
 Ae Tryz.prog 132 #[Ac Ab (b:Int),.pointer (K ⟨p,0,M⟩),.pointer (K ⟨s,0,M⟩),.pointer (K ⟨t,0,M⟩),.pointer (K ⟨j,0,M⟩)] u λe u'=>e=.returned (.tuple #[])/\∃V' S' f,Vs E S O [b] S' f/\PO w u' n l p s t j (Z (K ⟨g,o,M⟩) n c) V' S' f/\f.length+A4 S' n<=O.length+A4 S n:=by
 obtain⟨k0,hk,aM,aP,aQ⟩:=lU Bt;have H:=Ap (ji h (ji hE aA));clear h hE aA;intro m;induction m using Nat.strongRecOn with
 | ind m ih=>
   intro S O b V u hm T a8 aq;have IH:Aa (∀m',m'<m->∀(S O:List Nat) (b:Nat) (V:J) (u:Y),A4 S n=m'->b<n->PO w u n l p s t j (Z (K ⟨g,o,M⟩) n c) V S O->(b∉S-> ↑O+A4 S n<=n)->
    Ae Tryz.prog 132 #[Ac Ab (b:Int),.pointer p,.pointer s,.pointer t,.pointer j] u λe u'=>e=.returned (.tuple #[])/\∃V' S' f,Vs E S O [b] S' f/\PO w u' n l p s t j (Z (K ⟨g,o,M⟩) n c) V' S' f/\ ↑f+A4 S' n<= ↑O+A4 S n):=ih
   have HP:=Ap a8;obtain⟨ae,D,hs,ao,hD⟩:=a8.set;have F:=Ap (ji hs (ji ao hD));have am:=hD b;have s0:u.cell? p=K (.map (K l)):=a8.sb.cell 0;have aW:(b:Int)<(n:Int):=oM;clear ih a8 hs hD;go_enter Tryz.func132,Tryz.ntmps132;go_wp2_with fail;refine(Ri l ae D (b:Int) u (EP oM) F.o.1).mono ?_;rintro e A ⟨rfl,b1⟩;rw[am];have C:=Ap (ji (HP.o.bM b1) (F.o.1.bM b1));clear b1 s0 am;cases hc:S.contains b
   . (have W:b∉S:=by simpa using hc);have aD:=Ep S n b T W;have L:=Ap (ji aD (ji hm (aq W)));clear aD hm aq;have s0:A.cell? p=K (.map (K l)):=C.o.1.sb.cell 0;have B:Aa ((A.alloc (.cells #[Ac Ab (b:Int)] 2)).cell? A=K (Ac Ab (b:Int))/\Bo (A.alloc (.cells #[Ac Ab (b:Int)] 2)) l ae D/\PO w (A.alloc (.cells #[Ac Ab (b:Int)] 2)) n l p s t j (Z (K ⟨g,o,M⟩) n c) V S O/\¬ ↑A=l):=⟨(Ar.new A #[Ac Ab (b:Int)] 2).cell 0,C.o.2.bM (Ag _ _),C.o.1.bM (Ag _ _),by have:=nu C.o.2;omega⟩
     go_wp2_with fail;refine(Ec l ae A 1 D (b:Int) _ (EP oM) (by have:=F.o.2.1;omega) B.o.1 B.o.2.2.2 B.o.2.1).mono ?_;rintro e u2 ⟨rfl,s2,g2⟩;have G:=Ap (B.o.2.2.1.add B.o.2.1 F.o.2.1 F.o.2.2 T W s2 g2);clear s2 g2 s0 B C F HP ao;obtain⟨a,ca,R,g1⟩:=H.o.1 b T;have HG:=Ap (ji R g1);(replace R:=Ak G.o.gG R);have e0:u2.cell? s=K (Z (K ⟨g,o,M⟩) n c):=G.o.eb.cell 0;have aS:=H.o.2.2 b;clear g1;go_wp2;go_loopw [20] (λi wr=>∃(S' f:List Nat) (V':J) (k:Nat),i=Ac Ab k/\k<=(E b).length/\Aa (Vs E (b::S) O ((E b).take k) S' f/\PO w wr n l p s t j (Z (K ⟨g,o,M⟩) n c) V' S' f/\ ↑f+A4 S' n+1<= ↑O+A4 S n)) (λi _=>(E b).length-(intOf i).toNat)
     (case atStart=>exact⟨b::S,O,V,0,rfl,oM,by simpa using Vs.nil (b::S) O,G.o,by have:=L.o;omega⟩);clear G R e0;obtain⟨S',f,V',k,rfl,aX,z⟩:=hrel;by_cases aH:k<(E b).length
     . have aY:(k:Int)<((E b).length:Int):=oM;obtain⟨y,hy⟩:∃y,(E b)[k]?=K y:=⟨_,an aH⟩;have aR:y<n:=H.o.2.1 b T y (i8 hy);obtain⟨ga,oa,rfl,_,y0⟩:=HG.o.2.at_ hy;(replace y0:=Ak z.o.2.1.gG y0);have f0:wr.cell? t=K (.func (.func 132) #[] #[.pointer p,.pointer s,.pointer t,.pointer j]):=z.o.2.1.wb.cell 0;(have HT:Aa ((E b).take (k+1)=(E b).take k++[y]):=by obtain⟨hl,rfl⟩:=iV.1 hy;exact lH hl);have au:=z.o.1.more;have aJ:=Hk n au;have HC:=Ap (IH.o (A4 S' n) (by have:=L.o;omega) S' f y V' wr rfl aR z.o.2.1 (λ_=>by have:=z.o.2.2;have:=L.o;omega));clear hy au aJ;go_wp2_with fail;refine HC.o.mono ?_;rintro e u3 ⟨rfl,V3,Q,N,aE,aw,aG⟩;have HN:Aa (Vs E (b::S) O ((E b).take (k+1)) Q N/\PO w u3 n l p s t j (Z (K ⟨g,o,M⟩) n c) V3 Q N/\ ↑N+A4 Q n+1<= ↑O+A4 S n):=by refine⟨?_,aw,by have:=z.o.2.2;omega⟩;rw[HT.o];exact z.o.1.gX aE
       clear aE aw aG y0 f0 HC;go_wp2;go_roundw;(case rel=>exact⟨Q,N,V3,k+1,by go_num,oM,HN⟩);exact oI
     obtain rfl:k=(E b).length:=oM;obtain⟨aV,cV,rfl⟩:=Az z.o.2.1.list;have aT:=L.o;have aU:=z.o.2.2;(go_upto_region 7 with fail);refine An (λu=>Aa (PO w u n l p s t j (Z (K ⟨g,o,M⟩) n c) (Z aV f cV) S' f)) z.o.2.1 ?_;intro U I;have l0:U.cell? j=K (Z aV f cV):=I.o.lb.cell 0;go_wp2_with (at_builtin;refine wpList_append_lies _ rfl _ _ 36 rfl w 2 k0 (Ac Ab 0) 1 8 Tryz.underlying36 hk aM aP aQ rfl dC _ f (nv f) rfl (I.o.al (.cells #[Ac Ab (b:Int)] 2)).1 U 1 1 [Ac Ab (b:Int)] rfl rfl (BP U (b:Int)) (λu hu=>by simp at hu;subst hu;rfl) oM (by simp[maxLen];omega) oM (I.o.al (.cells #[Ac Ab (b:Int)] 2)).2 _ rfl ?_;intro g5 aj w5 hown hgrow hat aI;obtain⟨ah,l5⟩:=I.o.gX hown hgrow oM;have aF:Aa (PO w (w5.setCell j (Z g5 (f.length+1) aj)) n l p s t j (Z (K ⟨g,o,M⟩) n c) (Z g5 (f.length+1) aj) S' (f++[b])):=l5;have t5:w5.cell? j=K (Z aV f cV):=ah.cell 0;have z5:=ah.frozen 0;clear hown hgrow hat aI ah l5);go_end0;refine⟨rfl,_,S',f++[b],?_,aF.o,by rw[kJ,kQ];omega⟩;have:=z.o.1;rw[lu lR]at this;exact .new W this (.nil _ _)
   go_wp2_with fail;exact kY (v:=.tuple #[]) (by simp[results,Tryz.results132,go_sem]) rfl ⟨rfl,V,S,O,.old (by simpa using hc) (.nil _ _),C.o.1,Nat.le_refl _⟩
def I5(D:Nat->Nat->Bool)(d j:Nat):Nat:=((List.range j).filter λk=>D k d).length
theorem P9(D:Nat->Nat->Bool)(d j:Nat):I5 D d (j+1)=I5 D d j+if D j d=true then 1 else 0:=by unfold I5;rw[m9,mr,kJ];cases h:D j d<;>simp[h]
theorem Tj(D:Nat->Nat->Bool)(d j:Nat):I5 D d j<=j:=by have:=mc (λk=>D k d) (List.range j);simpa[I5]using this
theorem LA{q:Prop}(h:q:=by
 go_wp2;go_roundw;case rel=>exact⟨d+1,best,most,by omega,by trivial,by trivial,by go_num,hm1,hm2,HN,by trivial⟩
 simp[intOf];omega):q:=h
theorem Qr(g s n b:Nat)(D:Nat->Nat->Bool)(w:Y)(Q:n<=1048576)(t:b<n)(h:GW w g n (λb d=>D d b)):
 Ae Tryz.prog 39 #[Z g n s,Ac Ab (b:Int)] w λe A=>∃best most,e=.returned (Ac Ab best)/\CF D n b n best most/\A=w:=by
 have H:Aa (GW w g n (λb d=>D d b)):=h;obtain⟨rb,R,m⟩:=h b t;have r:Aa (∀d,d<n->w.cell? ⟨rb,d,M⟩=K (.bool (D d b))):=m;have G:(b:Int)<(n:Int):=oM;clear h m;go_enter Tryz.func39,Tryz.ntmps39;go_wp2;go_loopw [5,6,7] (λx y i wr=>∃(d:Nat) (best most:Int),d<=n/\x=Ac Ab best/\y=Ac Ab most/\i=Ac Ab d∧-1<=most/\most<=1048576/\Aa (CF D n b d best most)/\wr=w) (λ_ _ i _=>n-(intOf i).toNat)
 case atStart=>exact⟨0,-1,-1,oM,rfl,rfl,rfl,oM,oM,CF.start D n b,rfl⟩
 obtain⟨d,best,most,I,rfl,rfl,rfl,hm1,hm2,f,rfl⟩:=hrel;by_cases l:d<n
 . have P:(d:Int)<(n:Int):=oM;by_cases e:d=b
   . subst e;have HN:Aa (CF D n d (d+1) best most):=f.o.skip (λq=>q.1 rfl);exact LA
   have E:((d:Int)==(b:Int))=false:=oT;have F:¬(d:Int)=(b:Int):=oM;have c0:=r.o d l;cases hD:D d b
   . rw[hD]at c0;have HN:Aa (CF D n b (d+1) best most):=f.o.skip (λq=>by rw[hD]at q;cases q.2);exact LA
   rw[hD]at c0;obtain⟨rd,C,j⟩:=H.o d l;have p:Aa (∀k,k<n->wr.cell? ⟨rd,k,M⟩=K (.bool (D k d))):=j;clear j;go_wp2;go_loopw [8,9] (λx i B=>∃k:Nat,k<=n/\x=Ac Ab (I5 D d k:Int)/\i=Ac Ab k/\B=wr) (λ_ i _=>n-(intOf i).toNat)
   (case atStart=>exact⟨0,oM,rfl,rfl,rfl⟩);obtain⟨k,L,rfl,rfl,rfl⟩:=hrel;have N:=Tj D d k;by_cases z:k<n
   . have O:(k:Int)<(n:Int):=oM;have c1:=p.o k z;have a:=P9 D d k;cases hDk:D k d
     . rw[hDk]at c1 a;simp only[nw,if_false,kZ]at a;go_wp2;go_roundw;(case rel=>exact⟨k+1,oM,by rw[a],by go_num,by trivial⟩);exact oI
     rw[hDk]at c1 a;simp only[if_true]at a;go_wp2;go_roundw;(case rel=>exact⟨k+1,oM,by rw[a];go_num,by go_num,by trivial⟩);exact oI
   obtain rfl:k=n:=oM;have u:Ni D k d=I5 D d k:=rfl;by_cases v:most<(I5 D d k:Int)
   . have HN:Aa (CF D k b (d+1) (d:Int) (I5 D d k:Int)):=f.o.more e hD v;go_wp2;go_roundw;(case rel=>exact⟨d+1,_,_,oM,rfl,rfl,by go_num,oM,oM,HN,by trivial⟩);exact oI
   have HN:Aa (CF D k b (d+1) best most):=f.o.less (by rw[u];omega);exact LA
 obtain rfl:d=n:=oM;go_wp2;go_ret;exact⟨best,most,rfl,f.o,rfl⟩
structure GX(w:Y)(base:Nat)(V:J)(F:List (MB×J)):Prop where
 row:w.ownsRow base 58 3 V F (F.flatMap Ct)
 gW:CU w base (DP F)
theorem wrap_small{e:Nat}(h:e<=1048576):IntKind.i64.wrap (e:Int)=(e:Int):=by simp[IntKind.wrap,IntKind.bits,IntKind.signed];omega
theorem P6{X B k g n c:Nat}{e:Af}{xs:List J}(h:Ar u X a t)(i:u.ownsRow B e k (sG g n c) n xs)(f:t≠e):¬X=g:= λb=>by subst b;obtain⟨_,j,h2⟩:=AD i;unfold Ar at h;rw[h]at h2;simp only[kK,mh]at h2;exact f h2.2.1
theorem OX(n:Nat):(madeCells (Value.agg #[iZ 0,iZ 0,sN]).cells (n*3)).toList=(List.replicate n z3).flatten:=by rw[Ej Ku z3 [] n (.agg #[iZ 0,iZ 0,sN]) 3 rfl rfl oM];simp[CJ]
theorem KJ(s:J)(xs:List MI)(w:Y)(hn:xs.length<=1048576)(h:Rd w 4 s xs (xs.flatMap MI.cells)):
 Ae Tryz.prog 58 #[s] w λe w'=>∃V F,e=.returned V/\GX w' w V F/\((¬AH xs/\F=[])\/AH xs/\F.map Prod.fst=At xs)/\Ad w w w':=by
 obtain⟨i0,hi,bj,bp,bq⟩:=lU V7;have H:Aa (Rd w 4 s xs (xs.flatMap MI.cells)):=h;obtain⟨a1,c1,rfl⟩:=h.fu;clear h;have aA:Aa (∀u:Y,GX u w sN []):= λu=>⟨lq _ _ _ _,⟨λr hr=>(by cases hr),List.Pairwise.nil⟩⟩
 by_cases q0:xs.length=0
 . (have C:Aa (¬AH xs):= λe=>by have:=e.1;omega);rw[q0];go_enter Tryz.func58,Tryz.ntmps58;go_wp2;go_ret;exact⟨_,[],rfl,aA.o _,.inl ⟨C.o,rfl⟩,lQ _ _⟩
 by_cases q1:1024<xs.length
 . (have C:Aa (¬AH xs):= λe=>by have:=e.2.1;omega);have br:((xs:Int)==0)=false:=nD.2 oM;have bt:(1024:Int)<(xs:Int):=oM;go_enter Tryz.func58,Tryz.ntmps58;go_wp2;go_ret;exact⟨_,[],rfl,aA.o _,.inl ⟨C.o,rfl⟩,lQ _ _⟩
 have br:((xs:Int)==0)=false:=nD.2 oM;have bJ:¬(xs:Int)=0:=oM;have bt:¬(1024:Int)<(xs:Int):=oM;go_enter Tryz.func58,Tryz.ntmps58;go_wp2_with fail;refine(K9 (Z a1 xs c1) xs _ hn H.o).mono ?_;rintro e u1 ⟨⟨b1,rfl,aq⟩,ao⟩;cases b1
 . (have C:Aa (¬AH xs):= λe=>absurd (aq.2 e.2.2) ms);have HB:Aa (Ad w w u1):=ao;clear aq ao;go_wp2;go_ret;exact⟨_,[],rfl,aA.o _,.inl ⟨C.o,rfl⟩,HB.o⟩
 have HG:Aa (AH xs):=⟨oM,oM,aq.1 rfl⟩;have HB:Aa (Ad w w u1):=ao;clear aq ao;go_wp2_with fail;refine(LY (Z a1 xs c1) xs _ HG.o (H.o.bM HB.o lR)).mono ?_;rintro e u2 ⟨L,cl,rfl,aQ,b2⟩;have aP:(Cs xs xs).length<=1024:=kT (mc _ _) oT;have aZ:0<(Cs xs xs).length:=nV.2 (IA xs _ oM);have ae:=Ap (ji (Ba aQ HB.o.size) (Ai HB.o lR b2));clear aQ b2;generalize hM:(Cs xs xs).length=m at aP aZ ae⊢;have z:Aa ((Cs xs xs).length=m):=hM;clear hM;go_wp2_with (at_make;refine mX _ rfl _ _ 42 rfl w 58 i0 (.agg #[iZ 0,iZ 0,sN]) 3 Tryz.underlying42 hi bj bp Ab Ab _ _ m rfl rfl rfl rfl (by rw[bq];omega) oX ae.o.2.size ?_;intro w3 hown hgrow;rw[OX]at hown);have au:Aa (IW w w3 xs L cl u2 m []):=by
  have aI:Ad u2 u2 w3:=(lQ _ _).grown hgrow lR (λk hk=>by cases hk);refine⟨?_,⟨?_,?_⟩,?_,Ai ae.o.2 lR aI⟩
  . rw[z.o];simpa using hown
  . intro r hr;simp only[DP,List.map_nil,lA,lW,mZ]at hr;subst hr;rw[z.o];simp only[kW,z.o];exact Am ae.o.1 aI lR
  . simp[DP]
  rw[nU (by rw[Hg,z.o];exact Nat.le_refl _)];rfl
 clear hown hgrow ae;generalize u2.heap.size=N at au⊢;go_wp2;go_loopw [5,6] (λv i wr=>∃(j q:Nat) (D:List (MB×J)),j<=m/\v=iZ q/\i=iZ ((j:Int)-1)/\Aa ((Cs xs xs++[xs.length])[j]?=K q/\IW w wr xs L cl N j D)) (λ_ i _=>(intOf i+1).toNat)
 case atStart=>exact⟨m,xs,[],Nat.le_refl _,rfl,rfl,⟨by rw[lN (by rw[z.o];exact Nat.le_refl _),z.o];simp,au.o⟩⟩
 clear au;obtain⟨j,q,D,hj,rfl,rfl,B⟩:=hrel;cases j with
 | succ b=>
   rw[show(((b+1:Nat):Int)-1)=(b:Int)from oM];obtain⟨a,ha⟩:∃a,(Cs xs xs)[b]?=K a:=⟨_,an (by rw[z.o];omega)⟩;have aJ:=N8 _ _ _ _ _ ha B.o.1;obtain⟨e,he,aX⟩:=Je xs xs oM _ (by rw[Cp];exact i8 aJ);simp only[]at he;obtain⟨x,hx⟩:∃x,xs[e]?=K x:=⟨_,an aX⟩;have HX:=Ap (ji ha (ji he hx));have bf:(q:Int)=(e:Int)+1:=oM;have bC:(e:Int)+1-1=(e:Int):=oM;have aE:=B.o.2.lead;rw[z.o]at aE;have l0:=aE.cellAt b oM;rw[Dy,lG,lG,ha]at l0;simp only[nW]at l0;have aG:wr.cell? ⟨L,b,M⟩=K (iZ (a:Int)):=l0;have l1:=Ak (Aj wr) aG;have T:=B.o.2.row;rw[z.o,Pt]at T;have HR:Aa (wr.ownsRow w 58 3 (sG N m m) m ((List.replicate b z3).flatten++(z3++D.flatMap Ct))):=T;have R1:Aa (Rd wr 4 (Z a1 xs c1) xs (xs.flatMap MI.cells)):=H.o.bM B.o.2.gG lR;have PF:Aa (∀u:Y,Rd u 4 (Z a1 xs c1) xs (xs.flatMap MI.cells)->Ae Tryz.prog 78 #[Z a1 xs c1,iZ (e:Int)] u λe1 w'=>∃r,e1=.returned r/\w'.ownsRow u 2 1 r (AO xs x e).length ((AO xs x e).flatMap Ah)/\Ad u u w'):= λu hu=>Hj _ xs x e u HG.o.2.1 HG.o.2.2 HX.o.2.2 hu
   clear ha he hx aJ aE T l0;have bB:(b:Int)<(m:Int):=oM;have bH:IntKind.i64.wrap (e:Int)=(e:Int):=wrap_small oM;rw[bf];go_wp2_with fail;go_region_law (first
    |(go_simp;go_at_call 78;refine(PF.o _ (R1.o.bM (Aj _) lR)).mono ?_;rintro e1 u5 ⟨r,rfl,aH,b5⟩;obtain⟨ar,cr,rfl⟩:=(Rd.gM aH).fu;have B5:Aa (Ad wr wr u5):=FX b5 lR;have O5:Aa (u5.ownsRow wr 2 1 (Z ar (AO xs x e).length cr) (AO xs x e).length ((AO xs x e).flatMap Ah)):=aH;have l2:=Ak B5.o aG;have a8:=Am HR.o B5.o lR;have Q:=a8.cellAt (b*3) oM;have R:=a8.cellAt (b*3+1) oM;have S:=a8.cellAt (b*3+2) oM;have f0:=a8.frozenAt (b*3);have f1:=a8.frozenAt (b*3+1);have f2:=a8.frozenAt (b*3+2);rw[lN (by rw[QZ];omega),QZ]at Q R S;rw[ng]at Q;rw[nI]at R S;simp only[z3,lF,jt,kI]at Q R S;clear aH b5 a8))
   all_goals
    refine A3 (λu=>Aa (IW w u xs L cl N b ((⟨(a:Int),(e:Int),AO xs x e⟩,Z ar (AO xs x e).length cr)::D))) (B.o.2.next B5.o O5.o HX.o.1 B.o.1 HX.o.2.1 HX.o.2.2) ?_;intro U7 C;have l7:=C.o.lead.cellAt b (by rw[z.o];omega);rw[Dy,lG,lG,HX.o.1]at l7;simp only[nW]at l7;have bI:U7.cell? ⟨L,b,M⟩=K (iZ (a:Int)):=l7;clear l7 aG l1 l2 Q R S f0 f1 f2;(have HQ:Aa ((Cs xs xs++[xs.length])[b]?=K a):=by show _=_;rw[ld (by rw[z.o];omega)];exact HX.o.1);go_wp2;go_roundw;(case rel=>exact⟨b,a,_,oM,rfl,by go_num,⟨HQ.o,C.o⟩⟩);simp[intOf]
 | zero =>
   rw[show(((0:Nat):Int)-1)=-1 from rfl];have aw:Aa (JW w wr xs L cl N D/\D.map Prod.fst=JD xs/\ ↑D=m):=by refine⟨⟨by simpa using B.o.2.row,B.o.2.gW,B.o.2.gG⟩,by simpa using B.o.2.done,?_⟩;have:=congrArg List.length B.o.2.done;rw[kW,List.drop_zero,Hg,z.o]at this;exact this
   have HD:Aa (D.map Prod.fst=JD xs/\ ↑D=m):=aw.o.2
   have HP:Aa (∀x∈D,∀p∈x.1.next,0<=p/\p.toNat∈Cs xs xs):= λx hx p hp=>Pb xs HG.o x.1 (by rw[<-HD.o.1];exact oY hx) p hp
   (have aS:Aa (∀x∈D,x.1.next.length<=2):=by intro x hx;have hm:=oY (f:=Prod.fst) hx;rw[HD.o.1]at hm;unfold JD at hm;obtain⟨m0,_,e0⟩:=lK.1 hm;rw[<-e0];simp only[Sx,AO];split<;>split<;>simp);clear B hj;go_wp2;go_loopw [60] (λi wr=>∃E G:List (MB×J),Aa (D=E++G)/\ ↑E<=m/\i=iZ (E:Nat)/\Aa (JW w wr xs L cl N (E.map (Kc xs)++G))) (λi _=>m-(intOf i).toNat)
   (case atStart=>exact⟨[],D,rfl,sP,rfl,aw.o.1⟩);clear aw;obtain⟨E,G,aj,hE,rfl,HJ⟩:=hrel;have aM: ↑E+ ↑G=m:=by have:=HD.o.2;rw[aj.o,kJ]at this;exact this
   cases G with
   | nil=>
     have aW: ↑E=m:=by simpa using aM
     have HF:Aa (GX wr w (sG N m m) (E.map (Kc xs))/\(E.map (Kc xs)).map Prod.fst=At xs):=by
      (have aU:D=E:=by rw[aj.o];simp);refine⟨⟨?_,?_⟩,?_⟩
      . have:=HJ.o.row;rw[z.o]at this;rw[kW,aW];simpa using this
      . have:=HJ.o.gW;exact⟨λr hr=>this.own r (by simp at hr⊢;exact .inr hr),(by have h2:=this.sep;simp only[nA]at h2;exact(mH.1 h2).2)⟩
      exact Tr xs HG.o E (by rw[<-aU];exact HD.o.1)
     have aR:Aa (Ad w w wr):=HJ.o.gG;go_wp2;go_ret;exact⟨_,_,rfl,HF.o.1,.inr ⟨HG.o,HF.o.2⟩,aR.o⟩
   | cons y G'=>
     obtain⟨⟨f,l,t⟩,v⟩:=y;have bz: ↑E<m:=by simp only[lh]at aM;omega
     have bu:(E:Int)<(m:Int):=oM;(have aF:((⟨f,l,t⟩,v):MB×J)∈D:=by rw[aj.o];simp);have aT:Aa (∀p∈t,0<=p/\p.toNat∈Cs xs xs):=HP.o _ aF
     have bG:t.length<=2:=aS.o _ aF;have A:=HJ.o.gW.own (v,t) (by simp[DP]);simp only[]at A;obtain⟨av,I,rfl⟩:∃a c,v=Z a t c:=(Rd.gM A).fu;have T:=HJ.o.row;rw[z.o,lJ,kX]at T;have hA:((E.map (Kc xs)).flatMap Ct).length= ↑E*3:=by rw[Au Ct 3 Bh,kW]
     have Q:=T.cellAt (E.length*3) oM;have R:=T.cellAt (E.length*3+1) oM;have S:=T.cellAt (E.length*3+2) oM;rw[lN oM,hA]at Q R S;rw[ng]at Q;rw[nI]at R S;simp only[Ct,lF,jt,kI]at Q R S;clear T hA aF;obtain⟨wo,bg⟩:∃W,W=wr:=⟨_,rfl⟩;subst bg;(go_upto_region 14 with fail);refine An (λu=>Aa (JW w u xs L cl N (E.map (Kc xs)++(⟨f,l,t⟩,Z av t I)::G')/\Ar u wo #[iZ f,iZ l,Z av t I] 58)) ⟨HJ.o.bM (Ag _ _),Ar.new _ _ _⟩ ?_
     intro U1 am;clear Q R S;have b2:=am.o.2.cell 2;simp only[kL,jt,kI]at b2;go_wp2;go_loopw [67] (λi wr=>∃k:Nat,k<= ↑t/\i=iZ k/\Aa (JW w wr xs L cl N (E.map (Kc xs)++(⟨f,l,(t.map (GT xs)).take k++t.drop k⟩,Z av t I)::G')/\Ar wr wo #[iZ f,iZ l,Z av t I] 58)) (λi _=> ↑t-(intOf i).toNat)
     (case atStart=>exact⟨0,oM,rfl,⟨by have h0:=am.o.1;simpa using h0,am.o.2⟩⟩);clear am b2;obtain⟨k,hk,rfl,HK⟩:=hrel;by_cases aY:k< ↑t
     . obtain⟨p,hp⟩:∃p,t[k]?=K p:=⟨_,an aY⟩;have aD:((t.map (GT xs)).take k++t.drop k).length=t.length:=oT;have A:=HK.o.1.gW.own (Z av t I,(t.map (GT xs)).take k++t.drop k) (by simp[DP]);simp only[aD]at A;obtain⟨O,rfl⟩:∃O,av=K ⟨O,0,M⟩:=by
        rcases Bz A with⟨_,h0⟩|⟨g,c,h0⟩
        . omega
        simp only[jc]at h0;exact⟨g,h0.1⟩
       have HC:Aa (t[k]?=K p/\((t.map (GT xs)).take k++t.drop k).length=t.length/\0<=p/\p.toNat∈Cs xs xs.length):=⟨hp,aD,aT.o p (i8 hp)⟩
       have c0:=A.cellAt k oM;rw[Dy,lG,lN oT]at c0;rw[show k-(List.take k (t.map (GT xs))).length=0 from oT,ny,kZ,hp]at c0;simp only[nW]at c0;clear hp aD A;have bF:(k:Int)<(t:Int):=oM;go_wp2_with fail;refine(HK.o.1.search z.o aP p HC.o.2.2.1 HC.o.2.2.2).mono ?_;rintro e1 u3 ⟨⟨bb,rfl⟩,qq,hq⟩;have ah:Aa (JW w u3 xs L cl N (E.map (Kc xs)++(⟨f,l,(t.map (GT xs)).take k++t.drop k⟩,sG O t I)::G')/\Ar u3 wo #[iZ f,iZ l,sG O t I] 58):=by rw[hq];exact⟨HK.o.1.drew qq,HK.o.2⟩
       clear hq c0 HK;have A:=ah.o.1.gW.own (sG O t I,(t.map (GT xs)).take k++t.drop k) (by simp[DP]);simp only[HC.o.2.1]at A;have b2:=ah.o.2.cell 2;simp only[kL,jt,kI]at b2;have c1:=A.cellAt k oM;rw[Dy,lG,lN oT]at c1;rw[show k-(List.take k (t.map (GT xs))).length=0 from oT,ny,kZ,HC.o.1]at c1;simp only[nW]at c1;have c2:=A.frozenAt k;have bi:¬ ↑wo=O:=P6 ah.o.2 A dC
       have C:Aa (JW w (u3.setCell ⟨O,k,M⟩ (iZ (GT xs p))) xs L cl N (E.map (Kc xs)++(⟨f,l,(t.map (GT xs)).take (k+1)++t.drop (k+1)⟩,sG O t I)::G')/\Ar (u3.setCell ⟨O,k,M⟩ (iZ (GT xs p))) wo #[iZ f,iZ l,sG O t I] 58):=⟨ah.o.1.set HC.o.2.1 (SR xs t k p HC.o.1) oT,ah.o.2.other (a:=⟨O,k,M⟩) bi _⟩
       clear A;go_wp2;go_roundw;(case rel=>exact⟨k+1,oM,by go_num,C⟩);exact oI
     obtain rfl:k=t.length:=oM;(have C:Aa (JW w wr xs L cl N ((E++[((⟨f,l,t⟩:MB),(Z av t I:J))]).map (Kc xs)++G')):=by have h0:=HK.o.1;rw[lu sP,nU lR,nA]at h0;show JW _ _ _ _ _ _ _;simpa[Kc]using h0);go_wp2;go_roundw;(case rel=>exact⟨E++[(⟨f,l,t⟩,Z av t I)],G',by show _=_;rw[aj.o];simp,by simp only[kJ,kQ];omega,by simp only[kJ,kQ];go_num,C⟩);exact oI
theorem Li(P:Program)(w:Y)(a:Addr)(m:Mode)(f:Fn)(x y:Array J):(store a (.func f x y) m).run P w=stored P w a (.func f x y) m:=run_store P w a _ m rfl
theorem Ip(g o c n:Nat)(E:Nat->List Nat)(sv:J)(T:List Nat)(C:J)(a:List Nat)(w:Y)(hn:n<=1024)(hE:∀b,b<n->∀x∈E b,x<n)(ao:∀b,(E b).length<=2048)(h:FR w g o n E)(hT:∀x∈T,x<n)(aD:T.length<=4096)(W:Iu w sv T)(hS:(C=Z M 0 0/\a=[])\/∃x G U:Nat,a=[x]/\x<n/\C=Z G 1 U/\w.cell? G=K (.int Ab (x:Int))):
 Ae Tryz.prog 97 #[Z (K ⟨g,o,M⟩) n c,sv,C] w λe w'=>∃V S O,e=.returned V/\Vs E a [] T S O/\Gj w' w V O/\Ad w w w':=by
 have H:=Ap (ji h (ji hE (ji ao (ji hT W))));obtain⟨at_,ct,rfl⟩:=Rd.fu W;clear h hE ao hT W;have aG:= @run_makeMap Tryz.prog;have aF:∀(fn:Fn) (first cap:Array J) (w:Y),(Instr.makeFunc fn first cap).run Tryz.prog w=.ok (.func fn first cap) w:= λ_ _ _ _=>rfl
 go_enter Tryz.func97,Tryz.ntmps97;go_upto_region 3 with fail
 refine An (λu=>Aa (Ar u w #[Z (K ⟨g,o,M⟩) n c] 23/\Ar u ((w:Nat)+1) #[Z M 0 0] 36/\Bo u ((w:Nat)+1+1) 0 (.map [])/\Ar u ((w:Nat)+1+1+1) #[.map (K ((w:Nat)+1+1))] 82/\Ad w w u)) ?_ ?_
 . have b1:=Ag w (.cells #[Z (K ⟨g,o,M⟩) n c] 23);have k1:=Ar.new w #[Z (K ⟨g,o,M⟩) n c] 23;have z1:(w.alloc (.cells #[Z (K ⟨g,o,M⟩) n c] 23)).heap.size= ↑w+1:=sP
   generalize w.alloc (.cells #[Z (K ⟨g,o,M⟩) n c] 23)=z at b1 k1 z1⊢;have R:=Ag z (.cells #[Z M 0 0] 36);have k2:=Ar.new z #[Z M 0 0] 36;have z2:(z.alloc (.cells #[Z M 0 0] 36)).heap.size= ↑w+1+1:=by simp[z1]
   rw[z1]at k2;generalize z.alloc (.cells #[Z M 0 0] 36)=s at R k2 z2⊢;have A:=Ag s (.map #[] 0);have k3:Bo (s.alloc (.map #[] 0)) s 0 (.map []):=World.ownsMap_made _ _ _ _;have z3:(s.alloc (.map #[] 0)).heap.size= ↑w+1+1+1:=by simp[z2]
   rw[z2]at k3;generalize s.alloc (.map #[] 0)=W3 at A k3 z3⊢;have B:=Ag W3 (.cells #[.map (K ((w:Nat)+1+1))] 82);have k4:=Ar.new W3 #[.map (K ((w:Nat)+1+1))] 82;rw[z3]at k4;exact⟨((k1.bM R).bM A).bM B,(k2.bM A).bM B,k3.bM B,k4,Ai (Ai (Ai b1 lR R) lR A) lR B⟩
 intro r f;have s0:r.cell? ⟨(w:Nat)+1+1+1,0,M⟩=K (.map (K ((w:Nat)+1+1))):=f.o.2.2.2.1.cell 0;have a8:Aa (Ae Tryz.prog 65 #[.map (K ((w:Nat)+1+1)),C] r λe L=>e=.returned (.tuple #[])/\(∃F D,Bo L ((w:Nat)+1+1) F D/\F+A4 a n<=n+1/\∀x:Nat,Go.Maps.has D (.int Ab (x:Int))=a.contains x)/\r.grownBy L (K ((w:Nat)+1+1))):=by
  rcases hS with⟨rfl,rfl⟩|⟨x,G,U,rfl,X,rfl,hc⟩
  . refine(Tb _ r).mono ?_;rintro e L ⟨rfl,rfl⟩;exact⟨rfl,⟨0,.map [],f.o.2.2.1,by rw[Fu];omega, λx=>rfl⟩,⟨rfl,rfl,rfl,Nat.le_refl _, λ_ _ _=>rfl⟩⟩
  refine(Ec _ 0 G U _ (x:Int) r (EP oM) oM (Ak f.o.2.2.2.2 hc) (by have:=jC hc;simp only[]at this;omega) f.o.2.2.1).mono ?_;rintro e L ⟨rfl,h1,h2⟩;refine⟨rfl,⟨_,_,h1,?_, λy=> ?_⟩,h2⟩
  . have:=Ep [] n x X sP;rw[Fu]at this;omega
  rw[FD _ (oH f.o.2.2.1)];by_cases e:y=x
  . subst e;simp
  have:¬(y:Int)=(x:Int):=oM;simp[e,this];rfl
 clear hS;go_wp2_with fail;refine a8.o.mono ?_;rintro e l ⟨rfl,am,v⟩;have q:=Ap (ji (f.o.1.gb v oT) (ji (f.o.2.1.gb v sP) (ji am (ji (f.o.2.2.2.1.gb v sP) (f.o.2.2.2.2.grown v f.o.2.2.2.2.size (λj hj=>by cases hj;omega))))));clear am v a8 f s0;have aH:= @Li Tryz.prog;have kF:=Ar.new l #[.nilFunc] 189;have c9:(l.alloc (.cells #[.nilFunc] 189)).cell? l=K .nilFunc:=kF.cell 0;have f9:=kF.frozen 0;have ae:Aa (PO w (l.alloc (.cells #[.func (.func 132) #[] #[.pointer (K ⟨(w:Nat)+1+1+1,0,M⟩),.pointer w,.pointer l,.pointer (K ⟨(w:Nat)+1,0,M⟩)]] 189)) n ((w:Nat)+1+1) ((w:Nat)+1+1+1) w l ((w:Nat)+1) (Z (K ⟨g,o,M⟩) n c) (Z M 0 0) a []):=by have t:=Ag l (.cells #[Wg ((w:Nat)+1+1+1) w l ((w:Nat)+1)] 189);obtain⟨F,D,h1,h2,h3⟩:=q.o.2.2.1;refine⟨⟨F,D,h1.bM t,h2,h3⟩,q.o.2.2.2.1.bM t,q.o.1.bM t,Ar.new l _ _,q.o.2.1.bM t,lq _ _ _ _,Ai q.o.2.2.2.2 lR t,⟨oM,oM⟩,?_⟩;have:=Hk n (S:=[]) (S':=a) (λx X=>by cases X);rw[Fu]at this;simpa using this
 go_upto_region 6 with fail
 refine An (λu=>Aa (PO w u n ((w:Nat)+1+1) ((w:Nat)+1+1+1) w l ((w:Nat)+1) (Z (K ⟨g,o,M⟩) n c) (Z M 0 0) a [])) ae ?_;intro U2 N;clear ae kF c9 f9 q;obtain⟨p,ah⟩:∃p,p=l.heap.size:=⟨_,rfl⟩;rw[<-ah]at N⊢;clear ah;go_wp2;go_loopw [19] (λi wr=>∃(k:Nat) (V:J) (S O:List Nat),k<= ↑T/\i=.int Ab k/\Aa (Vs E a [] (T.take k) S O/\PO w wr n ((w:Nat)+1+1) ((w:Nat)+1+1+1) w p ((w:Nat)+1) (Z (K ⟨g,o,M⟩) n c) V S O)) (λi _=> ↑T-(intOf i).toNat)
 case atStart=>exact⟨0,_,a,[],oM,rfl,by simpa using Vs.nil a [],N.o⟩
 clear N;obtain⟨k,V,S,O,hk,rfl,m⟩:=hrel;by_cases aw:k< ↑T
 . have aE:(k:Int)<(T:Int):=oM;obtain⟨y,I⟩:∃y,T[k]?=K y:=⟨_,an aw⟩;have aA:y<n:=H.o.2.2.2.1 y (i8 I);obtain⟨ga,oa,rfl,_,y0⟩:=H.o.2.2.2.2.at_ I;(replace y0:=Ak m.o.2.gG y0);have f0:wr.cell? p=K (.func (.func 132) #[] #[.pointer (K ⟨(w:Nat)+1+1+1,0,M⟩),.pointer w,.pointer p,.pointer (K ⟨(w:Nat)+1,0,M⟩)]):=m.o.2.wb.cell 0;(have HT:Aa (T.take (k+1)=T.take k++[y]):=by obtain⟨hl,rfl⟩:=iV.1 I;exact lH hl);clear I;go_wp2_with fail;refine(Ur w g o c n ((w:Nat)+1+1) ((w:Nat)+1+1+1) w p ((w:Nat)+1) E hn H.o.2.1 H.o.2.2.1 H.o.1 _ S O y V wr rfl aA m.o.2 (λ_=>m.o.2.len)).mono ?_;rintro e u3 ⟨rfl,V3,Q,P,aq,aj,au⟩;have HN:Aa (Vs E a [] (T.take (k+1)) Q P/\PO w u3 n ((w:Nat)+1+1) ((w:Nat)+1+1+1) w p ((w:Nat)+1) (Z (K ⟨g,o,M⟩) n c) V3 Q P):=by refine⟨?_,aj⟩;rw[HT.o];exact m.o.1.gX aq
   clear aq aj au y0 f0;go_wp2;go_roundw;(case rel=>exact⟨k+1,V3,Q,P,oM,by go_num,HN⟩);exact oI
 obtain rfl:k=T.length:=oM;have l0:wr.cell? ⟨(w:Nat)+1,0,M⟩=K V:=m.o.2.lb.cell 0;have HF:Aa (Vs E a [] T S O):=by have:=m.o.1;rw[lu lR]at this;exact this
 go_wp2;go_ret;exact⟨V,S,O,rfl,HF.o,m.o.2.list,m.o.2.gG⟩
section
variable {E:Nat->List Nat} {D:Nat->Nat->Bool} {n h b k y:Nat}
def CI(E:Nat->List Nat)(D:Nat->Nat->Bool)(h b k:Nat):List Nat:=(((E b).take k).filter λx=>decide (x=h)&&D h b).map λ_=>b
theorem Iv(E:Nat->List Nat)(D:Nat->Nat->Bool)(b h:Nat):AJ E D (b+1) h=AJ E D b h++CI E D h b (E b).length:=by unfold AJ CI;rw[m9,lJ];simp
theorem Kt(E:Nat->List Nat)(D:Nat->Nat->Bool)(h b:Nat):CI E D h b 0=[]:=by simp[CI]
theorem Mg(g:(E b)[k]?=K h)(a:D h b=true):CI E D h b (k+1)=CI E D h b k++[b]:=by obtain⟨f,e⟩:=iV.1 g;unfold CI;rw[lH f,mr,mL,e];simp[a]
theorem IV(g:(E b)[k]?=K y)(f:¬(y=h/\D h b=true)):CI E D h b (k+1)=CI E D h b k:=by
 obtain⟨a,e⟩:=iV.1 g;unfold CI;rw[lH a,mr,mL,e];have:(decide (y=h)&&D h b)=false:=by
  cases q:D h b with
  |false=>simp
  |true=>simp;exact λe=>f ⟨e,q⟩
 simp[this]
theorem Ju(E:Nat->List Nat)(D:Nat->Nat->Bool)(h b k:Nat):(CI E D h b k).length<=(E b).length:=by unfold CI;rw[kW];refine kT (mc _ _) ?_;rw[lj];omega
theorem FW(a:∀b,(E b).length<=2)(D:Nat->Nat->Bool)(h b:Nat):(AJ E D b h).length<=2*b:=by
 induction b with
 |zero=>simp[AJ]
 | succ b e=>have h1:=Ju E D h b (E b).length;have h2:=a b;rw[Iv,kJ];omega
def Yt(E:Nat->List Nat)(D:Nat->Nat->Bool)(n h x:Nat):Prop:=∃t∈AJ E D n h,Er (BF E n) (· ≠h) t x
structure PU(E:Nat->List Nat)(D:Nat->Nat->Bool)(n h:Nat)(L:List Nat):Prop where
 nodup:L.Nodup
 ne:∀x∈L,x≠h
 lt:∀x∈L,x<n
 src:∀x∈L,Yt E D n h x
theorem PU.len(a:PU E D n h L): ↑L<=n:=by have:=Ga L n a.lt a.nodup;omega
theorem PU.nil:PU E D n h []:=⟨List.nodup_nil, λ_ q=>(by cases q), λ_ q=>(by cases q), λ_ q=>(by cases q)⟩
theorem PU.add(f:PU E D n h L)(m:y≠h)(l:y<n)(p:Yt E D n h y)(j:y∉L):PU E D n h (L++[y]):=by
 have g:∀x,x∈L++[y]->x∈L\/x=y:= λx b=>by simpa using b
 refine⟨nQ.2 ⟨f.nodup,sP, λa k c i e=> ?_⟩, λx b=> ?_, λx b=> ?_, λx b=> ?_⟩
 . simp only[lA,lW,mZ]at i;subst i e;exact j k
 . rcases g x b with q|rfl
   . exact f.ne x q
   exact m
 . rcases g x b with q|rfl
   . exact f.lt x q
   exact l
 rcases g x b with q|rfl
 . exact f.src x q
 exact p
def RO(h:Nat)(L B:List Nat):Prop:=∀x∈B,x=h\/x∈L
theorem RO.gX(a:RO h L B)(z:Nat):RO h (L++[z]) B:= λx b=>(a x b).imp id λq=>kS.2 (.inl q)
theorem RO.next{L b B:List Nat}(e:RO h L (B.take k))(i:∀x∈L,x∈b)(j:B[k]?=K y)(f:y=h\/y∈b):RO h b (B.take (k+1)):= λz a=>by
 obtain⟨g,rfl⟩:=iV.1 j;rw[lH g]at a;rcases kS.1 a with a|a
 . exact(e z a).imp id (i z)
 simp only[lA,lW,mZ]at a;subst a;exact f
def UF(E:Nat->List Nat)(n h:Nat)(L:List Nat)(i:Nat):Prop:=∀j x,L[j]?=K x->j<i->∀y,y<n->x∈E y->y=h\/y∈L
def M8(E:Nat->List Nat)(h:Nat)(L:List Nat)(x b:Nat):Prop:=∀y,y<b->x∈E y->y=h\/y∈L
theorem UF.gX(b:UF E n h L i)(k:i<= ↑L)(z:Nat):UF E n h (L++[z]) i:= λj x a e y g f=>by rw[ld oM]at a;exact(b j x a e y g f).imp id λq=>kS.2 (.inl q)
theorem M8.gX(a:M8 E h L x b)(z:Nat):M8 E h (L++[z]) x b:= λy f e=>(a y f e).imp id λq=>kS.2 (.inl q)
theorem M8.next(f:M8 E h L x b)(g:x∈E b->b=h\/b∈L):M8 E h L x (b+1):= λy i a=>by
 by_cases e:y=b
 . subst e;exact g a
 exact f y oM a
theorem UF.next(g:UF E n h L i)(l:L[i]?=K x)(k:M8 E h L x n):UF E n h L (i+1):= λj z a m y b f=>by
 by_cases e:j=i
 . subst e;rw[l]at a;(cases a);exact k y b f
 exact g j z a oM y b f
theorem PU.step(a:PU E D n h L)(i:x∈L)(e:b<n)(f:x∈E b)(g:b≠h):Yt E D n h b:=by obtain⟨t,h1,h2⟩:=a.src x i;exact⟨t,h1,.step h2 ((ES E n x b).2 ⟨e,f⟩) g⟩
theorem PU.iff(b:PU E D n h L)(e:RO h L (AJ E D n h))(f:UF E n h L L)(x:Nat):(h::L).contains x=true↔DZ E D n h x:=by
 simp only[List.contains_eq_mem,mi,lA];unfold DZ;refine or_congr_right ⟨b.src x,?_⟩;rintro⟨t,h1,h2⟩;induction h2 with
 |here q=>exact(e t h1).resolve_left q
 | step _ i k g=>obtain⟨j,a⟩:=lw g;obtain⟨l,m⟩:=(ES E n _ _).1 i;exact(f j _ a (iV.1 a).1 _ l m).resolve_left k
end
theorem Oh(h:Nat)(L:List Nat)(y n:Nat):∀j,j<n->(h::(L++[y])).contains j=if j=y then true else(h::L).contains j:= λj _=>by
 by_cases e:j=y
 . subst e;simp
 simp[e]
theorem Qm:(Tryz.prog.info? 95).map (λi=>(i.zero,i.size,i.bytes))=K (K (.agg #[iZ 0,sN,sN]),3,56):=kR
structure L1(w u:Y)(n h bl gi:Nat)(BV:J)(B:List Nat):Prop where
 im:Ar u w #[iZ 0,sN,sN] 95
 gR:Ar u bl #[iZ (h:Int),BV,sN] 95
 ii:Gq u w gi n (λx=>[h].contains x)
 back:Gj u w BV B
 gG:Ad w w u
 lt: ↑w<bl
theorem L1.al{n h b e:Nat}{a:J}(l:L1 w u n h b e a B)(o:Obj):(u.alloc o).ownsRow w 2 1 a B (nv B)/\ ↑w<=(u.alloc o).heap.size:=⟨l.back.bM (Ag _ _),kT l.gG.size (Ag _ _).size⟩
theorem L1.gX{w u b:Y}{n h g p:Nat}{k V':J}{y:Nat}(l:L1 w u n h g p k B)(t:b.ownsRow w 2 1 V' (B.length+1) (nv B++[iZ (y:Int)]))(m:(u.alloc (.cells #[iZ (y:Int)] 2)).grownBy b k.ownBlock):Ar b g #[iZ (h:Int),k,sN] 95/\L1 w (b.setCell ⟨g,1,M⟩ V') n h g p V' (B++[y]):=by
 have f:=Ag u (.cells #[iZ (y:Int)] 2);have s:=l.back.bM f;have j:Ar b g #[iZ (h:Int),k,sN] 95:=(l.gR.bM f).grown m s dC;have C:=(l.im.bM f).grown m s dC;have v:Gq b w p n (λx=>[h].contains x):=BU (l.ii.bM f) m s dC;have z:Ad w w b:=(Ai l.gG lR f).grown m (kT l.gG.size f.size) (λi A=>(l.back.lt i A).1);refine⟨j,C.other (by have:=l.lt;simp only[];omega) _,?_,?_,?_,z.setCell (nM l.lt) _,l.lt⟩
 . have:=j.set 1 V';simpa using this
 . (refine v.other λe=> ?_);obtain⟨_,E,h1⟩:=AD v;subst e;unfold Ar at j;rw[j]at h1;simp only[kK,mh]at h1;exact absurd h1.2.1 dC
 unfold Gj;rw[kJ,kQ,FN];refine kO t (a:=⟨g,1,M⟩) (λq=> ?_) _;rcases t.2 with⟨rfl,_⟩|⟨G,D,F,rfl,_,r,_⟩
 . cases q
 simp only[Value.ownBlock,kK]at q;subst q;unfold Ar at j;rw[j]at r;simp only[kK,mh]at r;exact absurd r.2.1 dC
theorem L1.bM{n h e f:Nat}{b:J}(l:L1 w u n h e f b B)(a:Ad u u g):L1 w g n h e f b B:=⟨l.im.bM a,l.gR.bM a,l.ii.bM a,l.back.bM a,Ai l.gG lR a,l.lt⟩
structure L2(w w1 u:Y)(n gi:Nat)(P:Nat->Bool)(LV:J)(L:List Nat):Prop where
 ii:Gq u w gi n P
 list:Gj u w1 LV L
 fx:∀k,k< ↑w1->k≠gi->u.heap[k]?=w1.heap[k]?
 gG:Ad w w u
 size:(w1:Nat)<= ↑u
 glt:gi< ↑w1
theorem L2.mark{n a:Nat}(l:L2 w g u n a P e L)(i:Nat)(b:Bool)(h:∀j,j<n->Q j=if j=i then b else P j):L2 w g (u.setCell ⟨a,i,M⟩ (.bool b)) n a Q e L:=⟨l.ii.set i b h,BW l.list l.ii dC i _, λk m f=>by rw[lZ u _ k _ f];exact l.fx k m f,l.gG.setCell (AD l.ii).1 _,by rw[mB];exact l.size,l.glt⟩
theorem L2.al{a:Y}{n e:Nat}{b:J}(l:L2 w a u n e P b L)(o:Obj):(u.alloc o).ownsRow a 2 1 b L (nv L)/\ ↑a<=(u.alloc o).heap.size:=⟨l.list.bM (Ag _ _),kT l.size (Ag _ _).size⟩
theorem L2.bM{w h u g:Y}{n e:Nat}{b:J}(l:L2 w h u n e P b L)(a:Ad u u g):L2 w h g n e P b L:=⟨l.ii.bM a,l.list.bM a, λk f i=>by rw[a.block k (lm f l.size)];exact l.fx k f i,Ai l.gG lR a,kT l.size a.size,l.glt⟩
theorem L2.gX{w f u h:Y}{n m:Nat}{j:J}{y:Nat}(l:L2 w f u n m P j L)(s:(w:Nat)<= ↑f)(r:h.ownsRow f 2 1 V' (L.length+1) (nv L++[iZ (y:Int)]))(b:(u.alloc (.cells #[iZ (y:Int)] 2)).grownBy h j.ownBlock):L2 w f h n m P V' (L++[y]):=by
 have a:=Ag u (.cells #[iZ (y:Int)] 2);have t:=l.list.bM a;refine⟨BU (l.ii.bM a) b t dC,?_, λk g q=> ?_,(Ai l.gG lR a).grown b (kT l.gG.size a.size) (λi p=>kT s (l.list.lt i p).1),kT l.size (kT a.size b.size),l.glt⟩
 . unfold Gj;rw[kJ,kQ,FN];exact r
 rw[b.block k (lm g (kT l.size a.size)) (λe=>by have:=(l.list.lt k e.symm).1;omega),a.block k (lm g l.size)];exact l.fx k g q
theorem L2.gR{n e:Nat}{h:J}(l:L2 w g u n e P h L){b:Nat}(f:Ar g b a t)(i:b≠e):Ar u b a t:=by unfold Ar at*;rw[l.fx b (lC.1 f).1 i];exact f
theorem L2.cell{n b:Nat}{g:J}(l:L2 w f u n b P g L){a:Addr}{x:J}(e:f.cell? a=K x)(h:a.block≠b):u.cell? a=K x:=by have:=l.fx a.block (jC e) h;unfold World.cell? at*;rw[this];exact e
theorem Gj.fx{a:Y}{base:Nat}(h:Gj a base s l)(i:∀k,k< ↑a->k≠x->u.heap[k]?=a.heap[k]?)(m:∀g,s.ownBlock=K g->g≠x):Gj u base s l:=by
 refine⟨h.1,?_⟩;rcases h.2 with h|⟨g,cap,e,rfl,f,b,j⟩
 . exact .inl h
 refine .inr ⟨g,cap,e,rfl,f,?_,j⟩;rw[i g (lC.1 b).1 (m g rfl)];exact b
theorem Gj.jg{base b:Nat}(h:Gj w base s l)(e:Ar w b a t)(f:2≠t):∀g,s.ownBlock=K g->g≠b:=Bu h e f
theorem Gq.congr{base g n:Nat}(h:Gq w base g n P)(a:∀i,i<n->P i=Q i):Gq w base g n Q:=by unfold Gq at*;rw[Oa a]at h;exact h
structure L4(w w2 u:Y)(n h bl gi:Nat)(BV KV:J)(K:List Nat)(P:Nat->Bool):Prop where
 im:Ar u w #[iZ 0,sN,sN] 95
 gR:Ar u bl #[iZ (h:Int),BV,KV] 95
 ii:Gq u w gi n P
 row:Gj u w2 KV K
 fx:∀k,k< ↑w2->k≠bl->u.heap[k]?=w2.heap[k]?
 gG:Ad w w u
 size:(w2:Nat)<= ↑u
 blt:bl< ↑w2
theorem L4.al{w b u:Y}{n h g i:Nat}{f:J}{a:List Nat}(l:L4 w b u n h g i f e a P)(o:Obj):(u.alloc o).ownsRow b 2 1 e a (nv a)/\ ↑b<=(u.alloc o).heap.size:=⟨l.row.bM (Ag _ _),kT l.size (Ag _ _).size⟩
theorem L4.gX{t:Y}{n h f v:Nat}{m r:J}{p:List Nat}{y:Nat}(l:L4 w t u n h f v m r p P)(H: ↑w<f)(C:g.ownsRow t 2 1 V' (p.length+1) (nv p++[iZ (y:Int)]))(j:(u.alloc (.cells #[iZ (y:Int)] 2)).grownBy g r.ownBlock):Ar g f #[iZ (h:Int),m,r] 95/\L4 w t (g.setCell ⟨f,2,M⟩ V') n h f v m V' (p++[y]) P:=by
 have b:=Ag u (.cells #[iZ (y:Int)] 2);have A:=l.row.bM b;have s:Ar g f #[iZ (h:Int),m,r] 95:=(l.gR.bM b).grown j A dC;have I:=(l.im.bM b).grown j A dC;have D:Gq g w v n P:=BU (l.ii.bM b) j A dC;have G:(w:Nat)<=t.heap.size:=by have:=l.blt;omega
 have E:Ad w w g:=(Ai l.gG lR b).grown j (kT l.gG.size b.size) (λi F=>kT G (l.row.lt i F).1);refine⟨s,I.other oS _,?_,?_,?_, λk z B=> ?_,E.setCell (nM H) _,?_,l.blt⟩
 . have:=s.set 2 V';simpa using this
 . (refine D.other λe=> ?_);obtain⟨_,L,h1⟩:=AD D;subst e;unfold Ar at s;rw[s]at h1;simp only[kK,mh]at h1;exact absurd h1.2.1 dC
 . unfold Gj;rw[kJ,kQ,FN];refine kO C (a:=⟨f,2,M⟩) (λq=> ?_) _;have:=(C.lt f q).1;have:=l.blt;omega
 . rw[lZ g _ k _ B,j.block k (lm z (kT l.size b.size)) (λe=>by have:=(l.row.lt k e.symm).1;omega),b.block k (lm z l.size)];exact l.fx k z B
 rw[mB];exact kT l.size (kT b.size j.size)
def zv(I:Nat->Int)(n:Nat):List J:=(List.range n).map λi=>Ac Ab (I i)
theorem H8(I:Nat->Int)(n:Nat):(zv I n).length=n:=by simp[zv]
theorem PS(I:Nat->Int)(n i:Nat)(h:i<n):(zv I n)[i]?=K (Ac Ab (I i)):=by simp[zv,h]
theorem Xf{I J:Nat->Int}{n i:Nat}{x:Int}(h:∀j,J j=if j=i then x else I j):(zv I n).set i (Ac Ab x)=zv J n:=by
 apply mV;intro j;by_cases a:j<n
 . rw[PS _ _ _ a,h j];by_cases e:j=i
   . subst e;rw[mG (by rw[H8];exact a),lS rfl]
   rw[mC oM,PS _ _ _ a,lE e]
 rw[lB (by simp[H8];omega),lB (by rw[H8];omega)]
theorem Xe(n:Nat):List.replicate n (Ac Ab (-1))=zv (λ_=> -1) n:=by
 apply mV;intro j;by_cases a:j<n
 . rw[PS _ _ _ a];simp[a]
 rw[lB oT,lB (by rw[H8];omega)]
theorem VQ(I:Nat->Int)(n:Nat):zv I n=((List.range n).map I).flatMap Ah:=by
 unfold zv;rw[List.flatMap_map];induction List.range n with
 |nil=>rfl
 |cons x r a=>simp[Ah,a]
structure DW(w u:Y)(G n:Nat)(A:Array J)(gi:Nat)(I:Nat->Int):Prop where
 gR:∃x0 x1 x2 x3,A=#[x0,x1,x2,x3]/\Ar u G #[x0,x1,x2,x3,Z gi n n] 134
 row:u.ownsRow w 2 1 (Z gi n n) n (zv I n)
 fx:∀k,k< ↑w->k≠G->u.heap[k]?=w.heap[k]?
 gG:Ad G w u
 size:(w:Nat)<= ↑u
 lt:G< ↑w
theorem DW.bM{G n b:Nat}(h:DW w u G n A b I)(a:Ad u u g):DW w g G n A b I:=by obtain⟨j,x1,x2,x3,e,k⟩:=h.gR;exact⟨⟨j,x1,x2,x3,e,k.bM a⟩,Am h.row a lR, λk f i=>by rw[a.block k (lm f h.size)];exact h.fx k f i,h.gG.trans (a.mono (by have:=h.lt;have:=h.size;omega)),kT h.size a.size,h.lt⟩
theorem DW.cell{G n e:Nat}(h:DW w u G n A e I){a:Addr}{x:J}(b:w.cell? a=K x)(f:a.block≠G):u.cell? a=K x:=by have:=h.fx a.block (jC b) f;unfold World.cell? at*;rw[this];exact b
theorem DW.set{G n a:Nat}{A:Array Value}{I J:Nat->Int}(h:DW w u G n A a I)(b:Nat)(x:Int)(f:∀j,J j=if j=b then x else I j):DW w (u.setCell ⟨a,b,M⟩ (Ac Ab x)) G n A a J:=by
 obtain⟨l,x1,x2,x3,e,k⟩:=h.gR;have m:=(AD h.row).1;have p:=h.lt;refine⟨⟨l,x1,x2,x3,e,k.other oS _⟩,?_, λk g i=> ?_,h.gG.setCell oS _,by rw[mB];exact h.size,h.lt⟩
 . have:=(h.row.stored b (Ac Ab x)).1;rw[Xf f]at this;exact this
 rw[lZ u _ k _ oS];exact h.fx k g i
structure JT(E:Nat->List Nat)(n:Nat)(pl:Nat->Nat)(k j:Nat)(I:Nat->Int):Prop where
 i7:II E n pl I
 ki:LI E n pl I k j
 kn:∀x,x<n->pl x<j->Kn I x
 all:k=0\/∀x,x<n->Kn I x
 z:I 0=-1
theorem JT.step{E:Nat->List Nat}{n:Nat}{l:Nat->Nat}{k j b:Nat}{I J:Nat->Int}{z:Int}(a:DI E n l)(h:JT E n l k j I)(f:b<n)(g:b≠0)(F:l b=j)(D:Bj n I (BF E n b) z)(p:∀y,J y=if y=b then z else I y):JT E n l k (j+1) J:=by
 subst F;have s:=G9 E n b;obtain⟨m,h1,h2,u,v,A⟩:=Jy a h.i7 f g s h.kn D;have B:∀y,y≠b->I y=J y:= λy G=>by rw[p y,lE G]
 have r:J b=(m:Int):=by rw[p b,lS rfl,h1]
 obtain⟨C,t,H,L⟩:=h.i7.set a f g s h.kn h2 u v A B r;refine⟨C,h.ki.set a h.i7 f g s h.kn h.all h2 u v A B r, λx i N=> ?_,h.all.imp id λq x i=>t x (q x i),?_⟩
 . by_cases e:x=b
   . subst e;exact .inr (by rw[r];omega)
   refine t x (h.kn x i ?_);have:=a.inj x b i f;omega
 rw[p 0,lE (Ne.symm g)];exact h.z
structure NR(E:Nat->List Nat)(n:Nat)(pl:Nat->Nat)(I:Nat->Int):Prop where
 i7:II E n pl I
 all:∀x,x<n->Kn I x
 jp:∀d x,x<n->(Eg I d x↔Es E d x)
 z:I 0=-1
theorem Vj(D:DataW Unit)(z y:Int):Go.Maps.has (D.del (.int Ab z)) (.int Ab y)=(Go.Maps.has D (.int Ab y)&& !decide (y=z)):=by
 by_cases h:y=z
 . subst h;rw[Go.Maps.has_del_same];simp
 rw[Go.Maps.has_del_other (λe=>h (by cases e;rfl))];simp[h]
theorem TN(G n gN cN L cO:Nat)(R:List Nat)(w:Y)(hn:n<=1024)(O:∀x∈R,x<n)(aq:R.length<=1024)(B:w.cell? G=K (Z gN n cN))(h2:w.cell? ⟨G,2,M⟩=K (Z L R cO))(N:∀k x:Nat,R[k]?=K x->w.cell? ⟨L,k,M⟩=K (.int Ab (x:Int))):
 Ae Tryz.prog 61 #[.pointer G] w λe w'=>∃(g cap:Nat) (zs:List Int),e=.returned (Z g zs cap)/\w'.ownsRow w 2 1 (Z g zs cap) zs (zs.flatMap Ah)/\zs.Pairwise (· < ·)/\(∀z,z∈zs↔∃x:Nat,z=(x:Int)/\x<n/\x∉R)/\Ad w w w':=by
 have H:=Ap (ji B (ji h2 (ji N O)));have aA:= @run_makeMap Tryz.prog;have A:=Ag w (.map #[] 0);have c0:=Ak A B;have v:Aa (Bo (w.alloc (.map #[] 0)) w 0 (.map [])/\Ad w w (w.alloc (.map #[] 0))):=⟨World.ownsMap_made _ _ _ _,A⟩
 clear B h2 N O A;go_enter Tryz.func61,Tryz.ntmps61;go_wp2;go_loopw [13] (λi wr=>∃k:Nat,k<=n/\i=.int Ab k/\Aa (∃b D,b<=k/\Bo wr w b D/\(∀z:Int,Go.Maps.has D (.int Ab z)=decide (0<=z/\z<(k:Int)))/\Ad w w wr)) (λi _=>n-(intOf i).toNat)
 case atStart=>exact⟨0,oM,rfl,0,.map [],oM,v.o.1, λz=>by
  have:¬(0<=z/\z<((0:Nat):Int)):=oM
  simp only[this,decide_false];rfl,v.o.2⟩
 case round=>
  clear v c0;obtain⟨k,hk,rfl,p⟩:=hrel;obtain⟨b,D,au,l,h,f⟩:=p.o;have a:=Ap (ji l (ji h f));clear l h f p;by_cases aw:k<n
  . have aj:(k:Int)<(n:Int):=oM;have m:Aa ((wr.alloc (.cells #[.int Ab (k:Int)] 2)).cell? wr=K (.int Ab (k:Int))/\Bo (wr.alloc (.cells #[.int Ab (k:Int)] 2)) w b D/\¬(wr:Nat)= ↑w/\Ad w w (wr.alloc (.cells #[.int Ab (k:Int)] 2))):=⟨(Ar.new wr #[.int Ab (k:Int)] 2).cell 0,a.o.1.bM (Ag _ _),by have:=nu a.o.1;omega,Ai a.o.2.2 lR (Ag _ _)⟩
    go_wp2_with fail;refine(Ec w b wr 1 D (k:Int) _ (EP oM) oM m.o.1 m.o.2.2.1 m.o.2.1).mono ?_;rintro e X ⟨rfl,W,F⟩;have u:Aa (∃b D,b<=k+1/\Bo X w b D/\(∀z:Int,Go.Maps.has D (.int Ab z)=decide (0<=z/\z<((k+1:Nat):Int)))/\Ad w w X):=by refine⟨_,_,oM,W, λz=> ?_,m.o.2.2.2.grown F m.o.2.2.2.size (λj s=>by cases s;exact Nat.le_refl _)⟩;rw[FD D (oH a.o.1),a.o.2.1 z,n9];simp;omega
    clear W F;go_wp2;go_roundw;(case rel=>exact⟨k+1,oM,by go_num,u⟩);exact oI
  have a8:k=n:=oM;have aj:¬(k:Int)<(n:Int):=oM;rw[a8]at a;have c2:=Ak a.o.2.2 H.o.2.1;go_wp2;go_loopw [26] (λi wr=>∃j:Nat,j<= ↑R/\i=.int Ab j/\Aa (∃D,Bo wr w b D/\(∀z:Int,Go.Maps.has D (.int Ab z)=(decide (0<=z/\z<(n:Int))&& !(ints (R.take j)).contains z))/\Ad w w wr)) (λi _=> ↑R-(intOf i).toNat)
  case atStart=>exact⟨0,oM,rfl,D,a.o.1, λz=>by rw[a.o.2.1 z];simp[ints],a.o.2.2⟩
  clear a c2;obtain⟨j,s,rfl,p⟩:=hrel;obtain⟨D,l,h,f⟩:=p.o;clear p;by_cases ae:j< ↑R
  . have ah:(j:Int)<(R:Int):=oM;obtain⟨x,t⟩:∃x,R[j]?=K x:=⟨_,an ae⟩;have aD:x<n:=H.o.2.2.2 x (i8 t);have o0:=Ak f (H.o.2.2.1 j x t);(have HT:Aa (R.take (j+1)=R.take j++[x]):=by obtain⟨hl,rfl⟩:=iV.1 t;exact lH hl);have a:Aa ((∀z:Int,Go.Maps.has D (.int Ab z)=(decide (0<=z/\z<(n:Int))&& !(ints (R.take j)).contains z))/\Ad w w wr):=⟨h,f⟩
    have Q:wr.ownsMap Tryz.prog 2 (unitElem (H:=Unit)) w b D:=l;have am:=EP (x:=x) oM;clear t h f l;go_wp2_with (at_delete;refine wpList_delete_own _ rfl _ _ 82 2 rfl 173 Mt Tryz.underlying82 _ w b D rfl Q _ _ rfl (oQ Tryz.underlying2 am) ?_;intro w1 S U);have u:Aa (∃D,Bo w1 w b D/\(∀z:Int,Go.Maps.has D (.int Ab z)=(decide (0<=z/\z<(n:Int))&& !(ints (R.take (j+1))).contains z))/\Ad w w w1):=by refine⟨_,S, λz=> ?_,a.o.2.grown U.grown a.o.2.size (λj s=>by cases s;exact Nat.le_refl _)⟩;rw[Vj,a.o.1 z,HT.o];unfold ints;rw[mL,Bool.and_assoc];(congr 1);rw[n9];simp
    clear S U o0 Q;go_roundw;(case rel=>exact⟨j+1,oM,by go_num,u⟩);exact oI
  have ao:j=R.length:=oM;have ah:¬(j:Int)<(R:Int):=oM;have a:Aa ((∀z:Int,Go.Maps.has D (.int Ab z)=(decide (0<=z/\z<(n:Int))&& !(ints R).contains z))/\Ad w w wr/\Bo wr w b D):=by rw[lu oM]at h;exact⟨h,f,l⟩
  clear h f l;go_wp2_with fail;refine(Lc w b D _ oM a.o.2.2).mono ?_;rintro e u9 ⟨I,E,zs,rfl,V,T,P,C⟩;have r:Aa (u9.ownsRow w 2 1 (Z I zs E) zs (zs.flatMap Ah)/\zs.Pairwise (· < ·)/\(∀z,z∈zs↔∃x:Nat,z=(x:Int)/\x<n/\x∉R)/\Ad w w u9):=by
   refine⟨Ba V a.o.2.1.size,T, λz=> ?_,Ai a.o.2.1 lR C⟩;rw[P,a.o.1 z];simp only[nL,mi,Bool.not_eq_true',List.contains_eq_mem,om];unfold ints;constructor
   . rintro⟨_,⟨h1,h2⟩,h3⟩;refine⟨z.toNat,oM,oM, λq=>h3 (lK.2 ⟨z.toNat,q,oM⟩)⟩
   rintro⟨x,rfl,h1,h2⟩;refine⟨EP oM,⟨oM,oM⟩, λq=>h2 ?_⟩;obtain⟨y,hy,e⟩:=lK.1 q;have:y=x:=oM;rw[<-this];exact hy
  clear V T P C;go_wp2;go_ret;exact⟨I,E,zs,rfl,r.o.1,r.o.2.1,r.o.2.2.1,r.o.2.2.2⟩
end Go.Proofs.YtjnglocdoljgkaaGreat
