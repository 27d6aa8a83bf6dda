import Derived.Test.YtjnglocdoljgkaaGreatSw8
namespace Go.Proofs.YtjnglocdoljgkaaGreat
open Go.ChangeShapes Go.WideShapes Go.ChangeAt Go.RowKit
set_option linter.unusedVariables false
open Go.Value renaming slice → Z,int → Ac
open Option renaming some → K,none → M
open Go renaming Value → J,World → Y,Calls → Ae,TypeId → Af
open Go.RowKit renaming Hid → Aa,Below → Ad
open Go.IntKind renaming i64 → Ab
set_option maxHeartbeats 4000000
set_option maxRecDepth 100000
variable {S S' O R:List Nat}{E:Nat->List Nat}{a cl b j B y base g k n c e i:Nat}{w u f:Y}{xs:List MI}{D:DataW Unit}{L:List (J×List Int)}{V V':J}{P:Nat->Nat->Bool}{t:Af}
theorem Hk(n:Nat)(h:∀x∈S,x∈S'):A4 S' n<=A4 S n:=by unfold A4;rw[<-List.countP_eq_length_filter,<-List.countP_eq_length_filter];apply List.countP_mono_left;intro x _ a;simp only[Bool.not_eq_true',List.contains_eq_mem,om]at a⊢;exact λq=>a (h x q)
theorem Vs.more{r a:List Nat}(h:Vs E S O r S' a):∀x∈S,x∈S':=by obtain⟨N,t⟩:=h.told;exact λx b=>(t.seen x).2 (.inl b)
theorem Qt(g o c n gs:Nat)(E:Nat->List Nat)(w:Y)(hn:n<=1048576)(W:∀b,b<n->∀x∈E b,x<n)(aj:∀b,(E b).length<=2)(h:IK w g o n E):
 ∀(m:Nat) (S O:List Nat) (b:Nat) (V:J) (u:Y),A4 S n=m->b<n->b∉S-> ↑O+A4 S n<=n->SN w u n gs V (λx=>S.contains x) O->
 Ae Tryz.prog 37 #[sO g o n c,iZ (b:Int),sG gs n n,V] u λe G=>∃V' S' f,e=.returned V'/\Vs E (b::S) O (E b) S' f/\SN w G n gs V' (λx=>S'.contains x) (f++[b])/\(f++[b]).length+A4 S' n<= ↑O+A4 S n:=by
 obtain⟨k0,hk,aM,aP,aQ⟩:=lU Bt;have H:Aa (IK w g o n E/\(∀b,b<n->∀x∈E b,x<n)/\(∀b,(E b).length<=2)):=⟨h,W,aj⟩
 clear h W aj;intro m;induction m using Nat.strongRecOn with
 | ind m ih=>
   intro S O b V u hm B aF a8 v;have IH:Aa (∀m',m'<m->∀(S O:List Nat) (b:Nat) (V:J) (u:Y),A4 S n=m'->b<n->b∉S-> ↑O+A4 S n<=n->SN w u n gs V (λx=>S.contains x) O->
    Ae Tryz.prog 37 #[sO g o n c,iZ (b:Int),sG gs n n,V] u λe G=>∃V' S' f,e=.returned V'/\Vs E (b::S) O (E b) S' f/\SN w G n gs V' (λx=>S'.contains x) (f++[b])/\(f++[b]).length+A4 S' n<= ↑O+A4 S n):=ih
   have am:=Ep S n b B aF;have r:Aa (A4 (b::S) n+1=A4 S n/\A4 S n=m/\ ↑O+A4 S n<=n):=⟨am,hm,a8⟩
   obtain⟨p,cV,rfl⟩:=Az v.list;have aU:(b:Int)<(n:Int):=oM;have d0:=v.seen.cell B;have z0:=v.seen.frozen b;have N:Aa (SN w (u.setCell ⟨gs,b,M⟩ (.bool true)) n gs (Z p O cV) (λx=>(b::S).contains x) O):=v.mark b true λj hj=>by
    by_cases e:j=b
    . subst e;simp
    simp[e]
   obtain⟨a,R,t,T⟩:=H.o.1 b B;have L:Aa (w.cell? ⟨g,o+b*3+2,M⟩=K (Z a (E b).length R)/\Iu w (Z a (E b).length R) (E b)):=⟨t,T⟩
   have aR:=H.o.2.2 b;clear ih v t T am hm a8;go_enter Tryz.func37,Tryz.ntmps37;go_wp2;go_loopw [3,9] (λV i wr=>∃(S' f:List Nat) (k:Nat) (p:Option Addr) (cV:Nat),V=Z p f cV/\i=iZ k/\k<=(E b).length/\ ↑f+1<=n/\Aa (Vs E (b::S) O ((E b).take k) S' f/\SN w wr n gs V (λx=>S'.contains x) f/\ ↑f+A4 S' n+1<= ↑O+A4 S n)) (λ_ i _=>2-(intOf i).toNat)
   (case atStart=>exact⟨b::S,O,0,p,cV,rfl,rfl,oM,by have:=r.o;omega,by simpa using Vs.nil (b::S) O,N.o,by have:=r.o;omega⟩);clear N d0 z0;obtain⟨S',f,k,p,cV,rfl,rfl,aW,hO,l⟩:=hrel;have t:=Ak l.o.2.1.gG L.o.1;by_cases aH:k<(E b).length
   . have aX:(k:Int)<((E b).length:Int):=oM;obtain⟨y,z⟩:∃y,(E b)[k]?=K y:=⟨_,an aH⟩;have au:y<n:=H.o.2.1 b B y (i8 z);have aY:(y:Int)<(n:Int):=oM;have HY:=Ap z;obtain⟨ga,oa,rfl,_,I⟩:=L.o.2.at_ z;(replace I:=Ak l.o.2.1.gG I);have F:=l.o.2.1.seen.cell au;(have P:Aa ((E b).take (k+1)=(E b).take k++[y]):=by obtain⟨hl,rfl⟩:=iV.1 z;exact lH hl);clear z;cases hc:S'.contains y
     . simp only[hc]at F;(have aq:y∉S':=by simpa using hc);have ae:=l.o.1.more;have aJ:=Hk n ae;have HC:=Ap (IH.o (A4 S' n) (by have:=r.o;omega) S' f y _ wr rfl au aq (by have:=l.o.2.2;have:=r.o;omega) l.o.2.1);clear ae aJ;go_wp2_with fail;refine HC.o.mono ?_;rintro e u2 ⟨V2,A,s,rfl,ao,D,aG⟩;obtain⟨Q,c2,rfl⟩:=Az D.list;have q:Aa (Vs E (b::S) O ((E b).take (k+1)) A (s++[y])/\SN w u2 n gs (Z Q (s++[y]).length c2) (λx=>A.contains x) (s++[y])/\(s++[y]).length+A4 A n+1<= ↑O+A4 S n):=by refine⟨?_,D,by have:=l.o.2.2;omega⟩;rw[P.o];exact l.o.1.gX (.new aq ao (.nil _ _))
       (have aD:(s++[y]).length+1<=n:=by have:=q.o.2.2;have:=r.o;omega);clear ao D aG F I t;go_wp2;go_roundw;(case rel=>exact⟨A,s++[y],k+1,Q,c2,by rw[kJ,kQ],by go_num,oM,aD,q.o.1,by have:=q.o.2.1;rw[kJ,kQ]at this;exact this,q.o.2.2⟩);exact oI
     simp only[hc]at F;(have q:Aa (Vs E (b::S) O ((E b).take (k+1)) S' f):=by show Vs E (b::S) O ((E b).take (k+1)) S' f;rw[P.o];exact l.o.1.gX (.old (by simpa using hc) (.nil _ _)));go_wp2;go_roundw;(case rel=>exact⟨S',f,k+1,p,cV,rfl,by go_num,oM,hO,q.o,l.o.2.1,l.o.2.2⟩);exact oI
   obtain rfl:k=(E b).length:=oM;have aS:=r.o;have aT:=l.o.2.2;(go_upto_region 7 with fail);refine An (λu=>Aa (SN w u n gs (Z p f cV) (λx=>S'.contains x) f)) l.o.2.1 ?_;intro U C;clear t;go_wp2_with (at_builtin;refine wpList_append_lies _ rfl _ _ 36 rfl w 2 k0 (iZ 0) 1 8 Tryz.underlying36 hk aM aP aQ rfl dC _ f (nv f) rfl (C.o.al (.cells #[iZ (b:Int)] 2)).1 U 1 1 [iZ (b:Int)] rfl rfl (BP U (b:Int)) (λu hu=>by simp at hu;subst hu;rfl) oM (by simp[maxLen];omega) oM (C.o.al (.cells #[iZ (b:Int)] 2)).2 _ rfl ?_;intro g5 aA w5 ah X aE aI;have aw:Aa (SN w w5 n gs (sG g5 (f.length+1) aA) (λx=>S'.contains x) (f++[b])):=C.o.gX ah X;clear ah X aE aI);go_ret;refine⟨_,S',f,rfl,?_,aw.o,by rw[kJ,kQ];omega⟩;have:=l.o.1;rw[lu lR]at this;exact this
def Sx(xs:List MI)(m:MB):MB:=⟨m.gK,m.last,AO xs (xs.getD m.last.toNat ⟨0,0,0,0⟩) m.last.toNat⟩
def JD(xs:List MI):List MB:=(Bw xs xs).map (Sx xs)
theorem Hg(xs:List MI):(JD xs).length=(Cs xs xs).length:=by unfold JD;rw[kW,BH]
theorem N8(L:List Nat)(n b a q:Nat)(f:L[b]?=K a)(g:(L++[n])[b+1]?=K q):(build L n)[b]?=K ⟨(a:Int),(q:Int)-1,[]⟩:=by
 unfold build;rw[my,f];have e:(L.tail++[n])[b]?=K q:=by
  cases L with
  |nil=>simp at f
  |cons y r=>simpa using g
 rw[e]
def z3:List J:=[iZ 0,iZ 0,sN]
structure IW(w u:Y)(xs:List MI)(gl cl bl j:Nat)(D:List (MB×J)):Prop where
 row:u.ownsRow w 58 3 (sG bl (Cs xs xs).length (Cs xs xs).length) (Cs xs xs).length ((List.replicate j z3).flatten++D.flatMap Ct)
 gW:CU u w ((sG gl (Cs xs xs).length cl,(Cs xs xs).map Int.ofNat)::DP D)
 done:D.map Prod.fst=(JD xs).drop j
 gG:Ad w w u
theorem IW.lead{D:List (MB×J)}(h:IW w u xs a cl b j D):u.ownsRow w 2 1 (sG a (Cs xs xs).length cl) (Cs xs xs).length (((Cs xs xs).map Int.ofNat).flatMap Ah):=by have:=h.gW.own _ (ln);simpa using this
theorem CU.bM{a:Y}(h:CU u B L)(b:Ad u u a):CU a B L:=⟨λr e=>Am (h.own r e) b lR,h.sep⟩
theorem CU.add{y:J×List Int}{b:J}{cb:List Int}(h:CU u B (y::L))(j:Ad u u f)(k:f.ownsRow u 2 1 b cb (cb.flatMap Ah))(l:B<= ↑u):CU f B (y::(b,cb)::L):=by
 have i:∀r∈y::L,IG (b,cb) r:=by intro r a g m e;have h1:=k.lt g m;have h2:=(h.own r a).lt g e;omega
 obtain⟨n,p⟩:=mH.1 h.sep;refine⟨?_,mH.2 ⟨?_,mH.2 ⟨λr a=>i r (by simp[a]),p⟩⟩⟩
 . intro r a;simp only[lA]at a;rcases a with rfl|rfl|a
   . exact Am (h.own _ sP) j lR
   . exact Ba k l
   exact Am (h.own r (by simp[a])) j lR
 intro r a;simp only[lA]at a;rcases a with rfl|a
 . exact(i y sP).symm
 exact n r a
theorem CU.iX{xs:List J}(h:CU w base L)(b:w.ownsRow a 58 k (sG g n c) n xs)(i:Nat)(x:J):CU (w.setCell ⟨g,i,M⟩ x) base L:=⟨λy e=>BW (h.own y e) b dC i x,h.sep⟩
theorem VG(A R:List J)(a b e c0 c1 c2:J)(i:Nat)(h: ↑A=i):(((A++([a,b,e]++R)).set i c0).set (i+1) c1).set (i+2) c2=A++([c0,c1,c2]++R):=by subst h;simp[List.set_append_right]
theorem Pt(b:Nat)(R:List J):(List.replicate (b+1) z3).flatten++R=(List.replicate b z3).flatten++(z3++R):=by rw[List.replicate_succ'];simp
theorem QZ(b:Nat):(List.replicate b z3).flatten.length=b*3:=by rw[List.length_flatten];simp[z3]
theorem IW.next{wr:Y}{l f q:Nat}{D:List (MB×J)}{x:MI}{g:Option Addr}{cr:Nat}(h:IW w wr xs l cl f (b+1) D)(i:Ad wr wr u)(B:u.ownsRow wr 2 1 (Z g (AO xs x e).length cr) (AO xs x e).length ((AO xs x e).flatMap Ah))(m:(Cs xs xs)[b]?=K a)(A:(Cs xs xs++[xs.length])[b+1]?=K q)(v:(q:Int)-1=(e:Int))(C:xs[e]?=K x):
 IW w (((u.setCell ⟨f,b*3,M⟩ (iZ a)).setCell ⟨f,b*3+1,M⟩ (iZ e)).setCell ⟨f,b*3+2,M⟩ (Z g (AO xs x e).length cr)) xs l cl f b ((⟨(a:Int),(e:Int),AO xs x e⟩,Z g (AO xs x e).length cr)::D):=by
 have k:=Am h.row i lR;have n:=(k.stored (b*3) (iZ a)).1;have p:=(n.stored (b*3+1) (iZ e)).1;have r:=(p.stored (b*3+2) (Z g (AO xs x e).length cr)).1;rw[Pt,show z3++D.flatMap Ct=[Ac Ab 0,iZ 0,sN]++D.flatMap Ct from rfl,VG _ _ _ _ _ _ _ _ _ (QZ b)]at r;have j:=(AD k).1;have z:=N8 _ _ _ _ _ m A;refine⟨?_,?_,?_,(((Ai h.gG lR i).setCell j _).setCell j _).setCell j _⟩
 . rw[kX];exact r
 . have f0:=CU.add h.gW i B h.gG.size;exact((f0.iX k _ _).iX n _ _).iX p _ _
 have y:b<(JD xs).length:=by rw[Hg];exact(iV.1 m).1
 rw[mo,h.done,mv y];congr 1
 have s:(JD xs)[b]?=K (Sx xs ⟨(a:Int),(q:Int)-1,[]⟩):=by unfold JD;rw[lG,Cp,z];rfl
 have t:=(iV.1 s).2;rw[t];unfold Sx;rw[v,kM,lD,C];rfl
def Jk(n g:Nat):J:=sG g n n
theorem WG:(Tryz.prog.info? 56).map (λi=>(i.zero,i.size,i.bytes))=K (K sN,1,24):=kR
structure DM(w u:Y)(n:Nat)(V:J)(R:List Nat)(P:Nat->Nat->Bool):Prop where
 o:u.ownsRow w 56 1 V R (R.map (Jk n))
 rows:∀i g,R[i]?=K g->Gq u w g n (P i)
 nodup:R.Nodup
 gG:Ad w w u
theorem DM.bM{b:Y}(h:DM w u n V R P)(a:Ad u u b):DM w b n V R P:=⟨Am h.o a lR, λi g e=>(h.rows i g e).bM a,h.nodup,Ai h.gG lR a⟩
theorem Gq.lt{P:Nat->Bool}(h:Gq w base g n P):g<w.heap.size:=by obtain⟨_,a,h1⟩:=AD h;exact(lC.1 h1).1
theorem Gq.other{P:Nat->Bool}{x:J}(h:Gq w base g n P)(f:g≠b):Gq (w.setCell ⟨b,i,M⟩ x) base g n P:=kO h (a:=⟨b,i,M⟩) (λe=>f (by simpa[Value.ownBlock]using e)) x
theorem DM.set{Q:Nat->Nat->Bool}(h:DM w u n V R P){d:Nat}{x:Bool}(f:R[b]?=K g)(s:∀j,j<n->Q b j=if j=d then x else P b j)(r:∀i,i≠b->Q i=P i):DM w (u.setCell ⟨g,d,M⟩ (.bool x)) n V R Q:=by
 have k:=h.rows b g f;refine⟨BW h.o k dC d _, λi p a=> ?_,h.nodup,h.gG.setCell (AD k).1 _⟩;by_cases e:i=b
 . subst e;rw[f]at a;(cases a);exact k.set d x s
 rw[r i e];refine(h.rows i p a).other λq=>e ?_
 subst q;obtain⟨t,l⟩:=iV.1 a;obtain⟨v,m⟩:=iV.1 f;exact(List.getElem_inj h.nodup).1 (l.trans m.symm)
theorem DM.add{l:Y}(h:DM w u n V R P)(s:∀i,i= ↑R->P i= λ_=>false)(r:f.ownsRow u 4 1 (sG u n n) n (bv (λ_=>false) n))(v:Ad u u f)(A:l.ownsRow w 56 1 V' (R.length+1) (R.map (Jk n)++[Jk n u]))(k:(f.alloc (.cells #[Jk n u] 56)).grownBy l V.ownBlock):DM w l n V' (R++[u.heap.size]) P:=by
 have m:=Ag f (.cells #[Jk n u] 56);have j:Ad u u (f.alloc (.cells #[Jk n u] 56)):=Ai v lR m;have q:=Am h.o j lR;have B:Gq (f.alloc (.cells #[Jk n u] 56)) w u n (λ_=>false):=Ba (Am r m lR) h.gG.size;refine⟨by rw[kJ,kQ,mL];exact A, λi g b=> ?_,?_,(Ai h.gG lR j).grown k (kT h.gG.size j.size) (λi b=>(h.o.lt i b).1)⟩
 . by_cases e:i< ↑R
   . rw[ld e]at b;exact BU ((h.rows i g b).bM j) k q dC
   have z:=(iV.1 b).1;simp only[kJ,kQ]at z;have y:i=R.length:=oM;rw[lN oM]at b;subst y;simp only[ng,jt,kK]at b;subst b;rw[s _ rfl];exact BU B k q dC
 refine nQ.2 ⟨h.nodup,sP, λa t c p e=> ?_⟩;simp only[lA,lW,mZ]at p;subst p;obtain⟨i,b⟩:=lw t;have:=(h.rows i a b).lt;omega
theorem JG(U:Y)(x:J)(t:Af):∀j u,[x][j]?=K u->(U.alloc (.cells #[x] t)).cell? ((⟨U,0,M⟩:Addr).add j)=K u:= λj u a=>by rw[Da,lY,(Ar.new U #[x] t).cell j];simpa using a
def GW(w:Y)(g n:Nat)(D:Nat->Nat->Bool):Prop:=∀b,b<n->∃r,w.cell? ⟨g,b,M⟩=K (sG r n n)/\∀d,d<n->w.cell? ⟨r,d,M⟩=K (.bool (D b d))
theorem GW.bM{e:Y}{D:Nat->Nat->Bool}(h:GW w g n D)(a:Ad w w e):GW e g n D:= λb f=>by obtain⟨r,h1,h2⟩:=h b f;exact⟨r,Ak a h1, λd i=>Ak a (h2 d i)⟩
theorem DM.cell{m:Nat}(h:DM w u n (sG g m c) R P)(e: ↑R=m)(a:b<m):∃r,R[b]?=K r/\u.cell? ⟨g,b,M⟩=K (sG r n n):=by subst e;have:=h.o.cellAt b oM;rw[lG,an a]at this;exact⟨_,an a,this⟩
theorem DM.mat(h:DM w u n (sG g n c) R P)(e: ↑R=n):GW u g n P:= λb f=>by obtain⟨r,h1,h2⟩:=h.cell e (b:=b) oM;exact⟨r,h2, λd a=>(h.rows b r h1).cell a⟩
theorem Qp(g o c n:Nat)(E:Nat->List Nat)(D:Nat->Nat->Bool)(w:Y)(hn:n<=1048576)(h0:0<n)(hD:∀d b,D d b=true↔Es E d b)(hE:∀b,b<n->∀x∈E b,x<n)(aA:∀b,(E b).length<=2)(h:IK w g o n E):
 Ae Tryz.prog 38 #[sO g o n c] w λe X=>∃f l,e=.returned (sG f n l)/\GW X f n (λb d=>D d b)/\Ad w w X/\ ↑w<=f/\(∀b r,b<n->X.cell? ⟨f,b,M⟩=K (sG r n n)-> ↑w<=r):=by
 obtain⟨j0,hj,aQ,aR,aS⟩:=lU DL;obtain⟨k0,p,aJ,aM,aP⟩:=lU WG;have H:Aa (IK w g o n E/\(∀b,b<n->∀x∈E b,x<n)/\(∀b,(E b).length<=2)/\(∀d b,D d b=true↔Es E d b)):=⟨h,hE,aA,hD⟩
 clear h hE aA hD;have HS:Aa (DM w (w.alloc (.cells #[] 56)) n (sG w 0 0) [] (λ_ _=>false)):=by refine⟨?_, λi g m=>by simp at m,List.nodup_nil,Ag _ _⟩;exact⟨rfl,.inr ⟨w,0,#[],rfl,Nat.le_refl _,Ar.new w #[] 56,Nat.le_refl _,mu _,rfl,rfl⟩⟩
 go_enter Tryz.func38,Tryz.ntmps38;go_wp2;go_loopw [4,5] (λV i wr=>∃(R:List Nat) (f l:Nat),V=sG f R l/\i=iZ (R:Int)/\ ↑R<=n/\Aa (DM w wr n V R (λ_ _=>false))) (λ_ i _=>n-(intOf i).toNat)
 case atStart=>exact⟨[],_,_,rfl,rfl,sP,HS⟩
 clear HS;obtain⟨R,f,l,rfl,rfl,hR,a⟩:=hrel;by_cases L: ↑R<n
 . have aH:(R:Int)<(n:Int):=oM;have aW:=a.o.gG.size;go_wp2_with (first
    |(at_make;refine mX _ rfl _ _ 56 rfl wr 4 j0 (.bool false) 1 Tryz.underlying56 hj aQ aR Ab Ab _ _ n rfl rfl rfl rfl (by rw[aS];omega) oX lR ?_;intro v O am;rw[Dz,Hs]at O;have F:Ad wr wr v:=(lQ _ _).grown am lR (λk p=>by cases p);have aq:(v.alloc (.cells #[Jk n wr] 56)).ownsRow w 56 1 (sG f R l) R (R.map (Jk n)):=Am a.o.o (Ai F lR (Ag _ _)) lR;have aw: ↑w<=(v.alloc (.cells #[Jk n wr] 56)).heap.size:=by have h1:=F.size;have h2:=(Ag v (.cells #[Jk n wr] 56)).size;omega)
    |(at_builtin;refine wpList_append_lies _ rfl _ _ 91 rfl w 56 k0 sN 1 24 Tryz.underlying91 p aJ aM aP rfl dC _ R (R.map (Jk n)) rfl aq v 1 1 [Jk n wr] rfl rfl (JG v _ _) (λu hu=>by simp at hu;subst hu;rfl) oM (by simp[maxLen];omega) oM aw _ rfl ?_;intro g5 ah w5 au ao aF aG;have aD:Aa (DM w w5 n (sG g5 (R.length+1) ah) (R++[wr.heap.size]) (λ_ _=>false)):=a.o.add (λ_ _=>rfl) O F au ao;clear O am au ao aF aG F aq aw)
    |go_in)
   go_roundw;(case rel=>exact⟨R++[wr.heap.size],g5,ah,by rw[kJ,kQ],by rw[kJ,kQ];go_num,by rw[kJ,kQ];omega,aD⟩);exact oI
 have B: ↑R=n:=oM
 have z:Aa (↑R=n):=B
 rw[B]at a;rw[B];clear L hR B;have a8:Aa (DM w wr n (sG f n l) R (λi k=>decide (k<0)&&D k i)):=by
  have:(λi k=>decide (k<0)&&D k i)=(λ(_ _:Nat)=>false):=by funext i k;simp
  show DM w wr n _ R _;rw[this];exact a.o
 clear a;go_wp2;go_loopw [6] (λi wr=>∃d:Nat,d<=n/\i=iZ d/\Aa (DM w wr n (sG f n l) R (λi k=>decide (k<d)&&D k i))) (λi _=>n-(intOf i).toNat)
 case atStart=>exact⟨0,oM,rfl,a8⟩
 clear a8;obtain⟨d,hd,rfl,a⟩:=hrel;by_cases L:d<n
 . have aH:(d:Int)<(n:Int):=oM;go_wp2_with fail;refine(Qu g o c n 0 (d:Int) E _ hn H.o.2.1 H.o.2.2.1 h0 (H.o.1.bM a.o.gG)).mono ?_;rintro e W ⟨gs,P,rfl,I,aj,b2⟩;have G:Aa (Gq W wr gs n P/\(∀x,x<n->(!P x)=D d x)/\ ↑wr<=gs):=by refine⟨I, λx hx=> ?_,(AD I).1⟩;rw[n9,H.o.2.2.2 d x];unfold Es;have A:Er E (λy=>(y:Int)≠(d:Int)) 0 x↔Er E (· ≠d) 0 x:=⟨λq=>q.mono λy T e=>T (by rw[e]), λq=>q.mono λy T e=>T oM⟩;rw[<-A,<-aj x hx];simp
   (have ae:Aa (DM w W n (sG f n l) R (λi k=>(decide (k<d)||(decide (k=d)&&decide (i<0)))&&D k i)):=by (have A:(λi k=>(decide (k<d)||(decide (k=d)&&decide (i<0)))&&D k i)=(λi k=>decide (k<d)&&D k i):=by funext i k;simp);show DM w W n _ R _;rw[A];exact a.o.bM b2);have HR:Aa ((∀i r,R[i]?=K r->r<wr.heap.size)/\w.heap.size<=wr.heap.size):=⟨λi r m=>(a.o.rows i r m).lt,a.o.gG.size⟩
   clear I aj b2 a;go_wp2;go_loopw [8] (λi wr=>∃b:Nat,b<=n/\i=iZ b/\Aa (DM w wr n (sG f n l) R (λi k=>(decide (k<d)||(decide (k=d)&&decide (i<b)))&&D k i)/\Gq wr w gs n P)) (λi _=>n-(intOf i).toNat)
   (case atStart=>exact⟨0,oM,rfl,ae.o,Ba G.o.1 HR.o.2⟩);clear ae;obtain⟨b,C,rfl,a⟩:=hrel;by_cases N:b<n
   . have aU:(b:Int)<(n:Int):=oM;obtain⟨r,t,c0⟩:=a.o.1.cell z.o N;have c1:=a.o.2.cell N;have S:=a.o.1.rows b r t;have c2:=S.cell L;have z2:=S.frozen d;(have aI:gs≠r:=by have:=HR.o.1 b r t;have:=G.o.2.2;omega);have s:Aa (DM w (wr.setCell ⟨r,d,M⟩ (.bool (!P b))) n (sG f n l) R (λi k=>(decide (k<d)||(decide (k=d)&&decide (i<b+1)))&&D k i)/\Gq (wr.setCell ⟨r,d,M⟩ (.bool (!P b))) w gs n P):=by
      refine⟨a.o.1.set t (λj hj=> ?_) (λi m=> ?_),a.o.2.other aI⟩
      . by_cases e:j=d
        . subst e;simp[G.o.2.1 b N]
        simp[e]
      (funext k);have:decide (i<b+1)=decide (i<b):=oT;simp[this]
     clear t S;go_wp2;go_region;refine A3 (λu=>Aa (DM w u n (sG f n l) R (λi k=>(decide (k<d)||(decide (k=d)&&decide (i<b+1)))&&D k i)/\Gq u w gs n P)) ?_ ?_
     . exact⟨s.o.1.bM (Aj _),s.o.2.bM (Aj _)⟩
     intro U HU;go_wp2;go_roundw;(case rel=>exact⟨b+1,oM,by go_num,HU⟩);exact oI
   obtain rfl:b=n:=oM;have s:Aa (DM w wr b (sG f b l) R (λi k=>decide (k<d+1)&&D k i)):=by
    refine⟨a.o.1.o, λi r m=> ?_,a.o.1.nodup,a.o.1.gG⟩;have h1:=a.o.1.rows i r m;unfold Gq at h1⊢;rw[Oa (Q:= λk=>decide (k<d+1)&&D k i)]at h1
    . exact h1
    intro k p;(have aT:i<b:=by have:=(iV.1 m).1;rw[z.o]at this;exact this);(have A:(decide (k<d)||(decide (k=d)&&decide (i<b)))=decide (k<d+1):=by rw[n9];simp;omega);simp only[A]
   go_wp2;go_roundw;(case rel=>exact⟨d+1,oM,by go_num,s⟩);exact oI
 obtain rfl:d=n:=oM;have s:Aa (GW wr f d (λb k=>D k b)):= λb C=>by obtain⟨r,h1,h2⟩:=a.o.mat z.o b C;refine⟨r,h1, λk p=> ?_⟩;have:=h2 k p;simpa[p]using this
 have aE:Aa (wr.ownsRow w 56 1 (sG f d l) d (R.map (Jk d))):=by have:=a.o.o;rw[z.o]at this;exact this
 go_wp2;go_ret;refine⟨f,l,rfl,s.o,a.o.gG,(AD aE.o).1, λb r C t=> ?_⟩;obtain⟨r',h1,h2⟩:=a.o.cell z.o (b:=b) C;rw[t]at h2;simp only[kK,jc,mA,mg]at h2;rw[h2];exact(AD (a.o.rows b r' h1)).1
theorem Ye(w:Y):(zeroValue 173).run Tryz.prog w=.ok (.agg #[]) w:=kR
theorem Ri(b a:Nat)(D:DataW Unit)(z:Int)(w:Y)(g:CO z)(h:Bo w b a D):
 Ae Tryz.prog 110 #[.map (K b),.int Ab z] w λe i=>e=.returned (.bool (Go.Maps.has D (.int Ab z)))/\Ad w w i:=by
 have f:w.ownsMap Tryz.prog 2 (unitElem (H:=Unit)) b a D:=h;go_enter Tryz.func110,Tryz.ntmps110;go_wp2_with (at_lookup;refine wpList_lookup_own_unit _ rfl _ _ 82 rfl 2 173 Mt Tryz.underlying82 (Ye _) b a D rfl f _ _ rfl (oQ Tryz.underlying2 g) ?_);go_ret;exact⟨rfl,Ag _ _⟩
theorem Tb(b:Nat)(w:Y):
 Ae Tryz.prog 65 #[.map (K b),Z M 0 0] w λe a=>e=.returned (.tuple #[])/\a=w:=by
 go_enter Tryz.func65,Tryz.ntmps65;go_wp2;go_loopw [8] (λi wr=>i=.int Ab 0/\wr=w) (λ_ _=>0)
 case atStart=>exact⟨rfl,rfl⟩
 obtain⟨rfl,rfl⟩:=hrel;go_wp2;go_end0;exact⟨rfl,rfl⟩
def FR(w:Y)(g o n:Nat)(E:Nat->List Nat):Prop:=∀b,b<n->∃a c,w.cell? ⟨g,o+b,M⟩=K (Z a (E b).length c)/\Iu w (Z a (E b).length c) (E b)
theorem FR.bM{g o n:Nat}(h:FR w g o n E)(e:Ad w w f):FR f g o n E:= λb i=>by obtain⟨a,c,h1,h2⟩:=h b i;exact⟨a,c,Ak e h1,h2.bM e⟩
def Wg(e a f b:Nat):J:=.func (.func 132) #[] #[.pointer e,.pointer a,.pointer f,.pointer b]
structure PO(w u:Y)(n bm bs be bw bl:Nat)(EV V:J)(S O:List Nat):Prop where
 set:∃cnt D,Bo u bm cnt D/\cnt+A4 S n<=n+1/\∀x:Nat,Go.Maps.has D (.int Ab (x:Int))=S.contains x
 sb:Ar u bs #[.map (K bm)] 82
 eb:Ar u be #[EV] 23
 wb:Ar u bw #[Wg bs be bw bl] 189
 lb:Ar u bl #[V] 36
 list:Gj u w V O
 gG:Ad w w u
 ge: ↑w<=bm/\ ↑w<=bl
 len: ↑O+A4 S n<=n
theorem PO.bM{k:Y}{f:Nat}{b:J}(h:PO w u n g i e j f b V S O)(a:Ad u u k):PO w k n g i e j f b V S O:=by obtain⟨l,D,h1,h2,m⟩:=h.set;exact⟨⟨l,D,h1.bM a,h2,m⟩,h.sb.bM a,h.eb.bM a,h.wb.bM a,h.lb.bM a,h.list.bM a,Ai h.gG lR a,h.ge,h.len⟩
theorem Ar.gb{e:Y}{a:Array J}{row:Option Nat}(h:Ar w b a t)(f:w.grownBy e row)(g:K b≠row):Ar e b a t:=by unfold Ar at*;rw[f.block b (lC.1 h).1 g];exact h
theorem Lk{i:Array J}(h:Bo w b g D)(f:Ar w a i t):a≠b:= λe=>by obtain⟨k,j,h1,_⟩:=h;subst e;unfold Ar at f;rw[f]at h1;cases h1
theorem Ll{e:Af}{v:J}{xs:List J}(h:w.ownsRow base e k v n xs)(l:Bo w b i D):K b≠v.ownBlock:=by
 obtain⟨q,m,j,_⟩:=l;intro a;rcases h.2 with⟨rfl,_⟩|⟨g,cap,p,rfl,_,f,_⟩
 . cases a
 simp only[Value.ownBlock,kK]at a;subst a;rw[j]at f;cases f
theorem PO.add{m:Y}{v r s:Nat}{p:J}(h:PO w u n a v r y s p V S O)(l:Bo u a i D)(H:i+A4 S n<=n+1)(B:∀x:Nat,Go.Maps.has D (.int Ab (x:Int))=S.contains x)(C:b<n)(E:b∉S)(G:Bo m a (i+1) (D.put (.int Ab (b:Int)) (.agg [])))(f:u.grownBy m (K a)):PO w m n a v r y s p V (b::S) O:=by
 have I:=Ep S n b C E;have ne:∀{q:Nat} {A:Array J} {t:Af},Ar u q A t->K q≠K a:= λk e=>Lk l k (kN e)
 refine⟨⟨_,_,G,oM, λx=> ?_⟩,h.sb.gb f (ne h.sb),h.eb.gb f (ne h.eb),h.wb.gb f (ne h.wb),h.lb.gb f (ne h.lb),BG h.list f (λg z e=>by rw[e]at z;exact Ll h.list l z.symm),h.gG.grown f h.gG.size (λj F=>by cases F;exact h.ge.1),h.ge,by have:=h.len;omega⟩;rw[FD D (oH l),B x];by_cases e:x=b
 . subst e;simp
 have:¬(x:Int)=(b:Int):=oM;simp[e,this]
theorem PO.al{f:Nat}{a:J}(h:PO w u n f g b i e a V S O)(o:Obj):(u.alloc o).ownsRow w 2 1 V O (nv O)/\ ↑w<=(u.alloc o).heap.size:=⟨h.list.bM (Ag _ _),kT h.gG.size (Ag _ _).size⟩
theorem PO.gX{j:Y}{p z A:Nat}{s:J}(h:PO w u n p z y A g s V S O)(C:j.ownsRow w 2 1 V' (O.length+1) (nv O++[.int Ab (b:Int)]))(l:(u.alloc (.cells #[.int Ab (b:Int)] 2)).grownBy j V.ownBlock)(R: ↑O+1+A4 S n<=n):Ar j g #[V] 36/\PO w (j.setCell g V') n p z y A g s V' S (O++[b]):=by
 have I:=Ag u (.cells #[.int Ab (b:Int)] 2);have f:=h.bM I;obtain⟨B,D,h1,h2,N⟩:=f.set;have H:Bo j p B D:=World.ownsMap.kept h1 l (Ll f.list h1);have m:Ar j g #[V] 36:=f.lb.grown l f.list dC;have F:=f.sb.grown l f.list dC;have E:=f.eb.grown l f.list dC;have G:=f.wb.grown l f.list dC;have P:Ad w w j:=f.gG.grown l f.gG.size (λi Q=>(f.list.lt i Q).1);have r:∀{v:Nat} {L:Array J} {t:Af},Ar j v L t->t≠36->v≠(⟨g,0,M⟩:Addr).block:= λk q e=>by simp only[]at e;subst e;unfold Ar at k m;rw[m]at k;simp only[kK,mh]at k;exact q k.2.1.symm
 refine⟨m,⟨B,D,?_,h2,N⟩,F.other (r F dC) _,E.other (r E dC) _,G.other (r G dC) _,?_,?_,P.setCell h.ge.2 _,h.ge,by rw[kJ,kQ];exact R⟩
 . refine World.ownsMap.kept H (row:=K g) ⟨rfl,rfl,rfl,by rw[mB];exact Nat.le_refl _, λk U T=>lZ j _ k _ (λe=>T (by rw[e]))⟩ (λe=>Lk H m (kN e).symm)
 . have:=m.set 0 V';simpa using this
 unfold Gj;rw[kJ,kQ,FN];exact kO C (a:=⟨g,0,M⟩) (λq=>Bu C m dC g q rfl) _
end Go.Proofs.YtjnglocdoljgkaaGreat
