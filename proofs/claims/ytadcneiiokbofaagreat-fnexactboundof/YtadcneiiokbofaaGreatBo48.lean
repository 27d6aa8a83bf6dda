import Derived.Test.YtadcneiiokbofaaGreatBo47
namespace Go.Proofs.YtadcneiiokbofaaGreat
open Go.ChangeShapes Go.WideShapes Go.ChangeAt Go.RowKit Go.Proofs.Tryz
set_option linter.unusedVariables false
open Go.Value renaming slice → Z,agg → Am
open Option renaming some → K,none → M
open Go renaming Value → J,World → Y,Calls → Ai,TypeId → Aj
open Go.RowKit renaming Hid → Ae,Below → Ah
open Go.Ending renaming returned → Al
open Go.Proofs.Tryz renaming prog → Ap
open Go.World renaming setCell → Aa
set_option maxHeartbeats 8000000
set_option maxRecDepth 100000
variable {w u:Y}{b t a c i j k l m n d e B N S me p D:Nat}{f:MF}{g:VF}{v:VP}{s:WI}{V V':J}{sh:List Int}{C:Nat->Bool}{R:Nat->List Int}
theorem Ve{t:Aj}{a:Array J}(h:AA w b a t):w.frozen? b=false/\w.frozen? ⟨b,1,M⟩=false/\w.frozen? ⟨b,2,M⟩=false/\w.frozen? ⟨b,3,M⟩=false:=⟨h.frozen 0,h.frozen 1,h.frozen 2,h.frozen 3⟩
theorem YY{a c f g i j k l m n d e:J}{t:Aj}(h:AA w b #[a,c,f,g,i,j,k,l,m,n,d,e] t):w b=K a/\w ⟨b,1,M⟩=K c/\w ⟨b,2,M⟩=K f/\w ⟨b,3,M⟩=K g/\w ⟨b,4,M⟩=K i/\w ⟨b,5,M⟩=K j/\w ⟨b,6,M⟩=K k/\w ⟨b,7,M⟩=K l/\w ⟨b,8,M⟩=K m/\w ⟨b,9,M⟩=K n/\w ⟨b,10,M⟩=K d/\w ⟨b,11,M⟩=K e:=⟨h.cell 0,h.cell 1,h.cell 2,h.cell 3,h.cell 4,h.cell 5,h.cell 6,h.cell 7,h.cell 8,h.cell 9,h.cell 10,h.cell 11⟩
structure Kv(w u:Y)(v:VP)(g:VF)(f:MF)(bv:J)(TB QB GS n B N:Nat)(RS:List J)(s:WI)(S:Nat)(V:J)(sh:List Int)(XB ma me:Nat)(nv:J):Prop where
 ty:Gn w u v g f bv TB QB GS n B N RS s
 st:Fl u S V sh
 ap:Rs RS (Ee S V)
 xb:AA u XB #[ma,me,nv] 90
 rb:AA u (XB+1) #[iZ 0,iZ 0,iZ 0,sN] 87
 lo:B<=XB/\XB+1<S
 sl: ↑sh<=s.d
theorem Kv.a7{k:Y}{bv:J}{d:List J}{nv:J}(h:Kv w u v g f bv e c b n B N d s S V sh i j me nv)(a:Ah u u k):Kv w k v g f bv e c b n B N d s S V sh i j me nv:=⟨h.ty.a7 a,h.st.a7 a,h.ap,h.xb.a7 a,h.rb.a7 a,h.lo,h.sl⟩
theorem Kv.iO{bv:J}{b:List J}{nv:J}(h:Kv w u v g f bv k e a n B N b s S V sh l m me nv)(p:Ch u B V' sh)(t:∀(i:Nat) (W:J),b[i]?=K W->∀g,V'.ownBlock=K g->W.ownBlock≠K g)(q:∀g,V'.ownBlock=K g->¬Ee S V g):Kv w (Aa u ⟨a,j,M⟩ V') v g f bv k e a n B N (b.set j V') ⟨s.c,CR s.r j sh,s.d⟩ S V sh l m me nv:=by obtain⟨z,A,C,D,E,F⟩:=h.ty.ne;obtain⟨x,y⟩:=h.lo;exact⟨h.ty.iO p (lQ h.sl h.ty.dl) t,h.st.jm oS _,h.ap.set q,h.xb.other oS _,h.rb.other oS _,h.lo,h.sl⟩
structure Zz(w u:Y)(v:VP)(g:VF)(f:MF)(bv:J)(TB QB GS n B N:Nat)(RS:List J)(s:WI)(S:Nat)(XB ma me:Nat)(nv:J):Prop where
 ty:Gn w u v g f bv TB QB GS n B N RS s
 xb:AA u XB #[ma,me,nv] 90
 rb:AA u (XB+1) #[iZ 0,iZ 0,iZ 0,sN] 87
 lo:B<=XB/\XB+1<S
theorem Kv.iA{q:Y}{bv:J}{j:List J}{nv:J}(h:Kv w u v g f bv l i d n B N j s S V sh m p me nv)(a:DB (Ee S V) u q):Zz w q v g f bv l i d n B N j s S m p me nv:=by
 obtain⟨r,t⟩:=h.lo;have b:∀k,Ee S V k->S<=k:= λk c=>(Ee.ge h.st c).1
 exact⟨h.ty.iA a (λk c=>by have:=b k c;omega) h.ap,a.ie h.xb (λe=>by have:=b _ e;omega),a.ie h.rb (λe=>by have:=b _ e;omega),h.lo⟩
theorem Zz.jl{bv:J}{a:List J}{nv:J}(h:Zz w u v g f bv b i e n B N a s S j k me nv)(q:Fl u S V sh)(l:Rs a (Ee S V))(m:d<=64)(p: ↑sh<=d):Kv w (Aa u ⟨b,11,M⟩ d) v g f bv b i e n B N a ⟨s.c,s.r,d⟩ S V sh j k me nv:=by obtain⟨y,z,A,C,D,E⟩:=h.ty.ne;obtain⟨t,x⟩:=h.lo;exact⟨h.ty.jl d m,q.jm oS _,l,h.xb.other oS _,h.rb.other oS _,h.lo,p⟩
theorem Kv.apC{bv:J}{c:List J}{nv:J}(h:Kv w u v g f bv k i d n B N c s S V sh l p me nv)(m:V'.ownBlock=V.ownBlock\/∀g,V'.ownBlock=K g-> ↑u<=g):Rs c (Ee S V'):= λj W e g b a=>by
 rcases a with rfl|a
 . exact h.ap j W e g b (.inl rfl)
 rcases m with q|q
 . exact h.ap j W e g b (.inr (by rw[<-q];exact a))
 have r:=q g a;have t:=((h.ty.rs j W e).lt g b).2;omega
theorem Gn.more{bv:J}{d:List J}(h:Gn w u v g f bv e c a n B N d s)(hN:N<=b):Gn w u v g f bv e c a n B b d s:=by obtain⟨i,D,j,k,l⟩:=h.mp;exact⟨h.tb,⟨i,D,j,lQ k hN,l⟩,h.sa,h.sl,h.rs,h.ej,h.lo,h.ne,h.sz,h.dl,h.rl,h.ap⟩
theorem Kv.more{bv:J}{d:List J}{nv:J}(h:Kv w u v g f bv e c a n B N d s S V sh i j me nv)(hN:N<=b):Kv w u v g f bv e c a n B b d s S V sh i j me nv:=⟨h.ty.more hN,h.st,h.ap,h.xb,h.rb,h.lo,h.sl⟩
theorem Kv.apX{bv:J}{b:List J}{r:Nat}{nv:J}(h:Kv w u v g f bv l i d n B N b s S V sh c r me nv):Rs b (λk=>k=c+1):= λj W e g a p=>by
 subst p;rcases(h.ty.rs j W e).2 with⟨q,_⟩|⟨x,cap,t,q,_,m,_⟩
 . subst q;cases a
 subst q;simp only[Value.ownBlock,lH]at a;subst a;have:=h.rb;unfold AA at this;rw[m]at this;simp only[lH,nL]at this;exact absurd this.2.1 dC
def ThR(w:Y)(v:VP)(g:VF)(f:MF)(bv:J)(k i h n B N:Nat)(r:Ow)(e:Ending)(d:Y):Prop:=match r with
 |.inl (c,a)=>e=Al (Am #[c,a,iZ 0,sN])/\c≠0/\Ah w w d
 |.inr s'=>e=Al (Am #[iZ 0,iZ 0,iZ 0,sN])/\∃j b,b<=N+2/\Gn w d v g f bv k i h n B b j s'
theorem PW{p:MP}{x:MI}(h:BJ p f x sh=0):(Dt p f x sh).length<=64:=by
 unfold BJ at h;unfold Dt;by_cases e:x.op=29
 . rw[lZ e];simp
 rw[lS e]at h⊢;exact Kz h
def Oo(b:List MB)(me:Nat)(nx:List Nat)(sh:List Int)(C:Nat->Bool)(R:Nat->List Int)(D:Nat)(a:Ow):Prop:=(match Fa b nx sh C R with|none=>Sum.inl (4,me)|some (C',R')=>.inr ⟨C',R',D⟩)=a
theorem QN{p:MP}{b:List MB}{m:MB}(g:m.gZ=(a:Int))(h:m.last=(me:Int)):G7 p f b m s=(match CY p f (me+1-a) a (s.r a) s.r s.d with|.inl e=>.inl e|.inr (sh,R,D)=>match Fa b (m.next.map Int.toNat) sh s.c R with|none=>.inl (4,me)|some (C,R')=>.inr ⟨C,R',D⟩):=by unfold G7;have e:(m.last-m.gZ+1).toNat=me+1-a:=oM;rw[e,g,h,lD,lD]<;>rfl
theorem Oo.same{a:List MB}{nx:List Nat}{b:Ow}(h:Oo a me (t::nx) sh C R D b)(c:C t=true)(d:R (FG a t)=sh):Oo a me nx sh C R D b:=by unfold Oo at h⊢;rw[Fa,lZ c,lZ d]at h;exact h
theorem Oo.bad{b:List MB}{nx:List Nat}{a:Ow}(h:Oo b me (t::nx) sh C R D a)(c:C t=true)(d:¬R (FG b t)=sh):a=.inl (4,me):=by unfold Oo at h;rw[Fa,lZ c,lS d]at h;exact h.symm
theorem Oo.new{a:List MB}{nx:List Nat}{b:Ow}(h:Oo a me (t::nx) sh C R D b)(c:C t=false):Oo a me nx sh (Ji C t) (CR R (FG a t) sh) D b:=by unfold Oo at h⊢;rw[Fa,lS (by rw[c];decide)]at h;exact h
theorem QV(w u:Y)(v:VP)(p:MP)(g:VF)(f:MF)(bv nv:J)(n QB O B N:Nat)(L:List J)(s:WI)(A:List MB)(b:Nat)(m:MB)(l me:Nat)(h:Gn w u v g f bv n QB O f.bO B N L s)(aF:PE w v p g f)(hb:I4 w bv A)(hB:Pu f.bO A)(hm:A[b]?=K m)(cg:m.gZ=(l:Int))(cj:m.last=(me:Int))(br:Rd w 1 nv m.next (m.next.flatMap As))(dz:m.next.length<=2)(cu:∀z∈m.next,∃t:Nat,z=(t:Int)/\t< ↑A)(cT:A.length<=1024)(hN:N<=4000)(ce:(s.r l).length<=s.d):
 Ai Ap 248 #[.pointer n,Am #[l,me,nv]] u (ThR w v g f bv n QB O f.bO B N (G7 p f A m s)):=by
 obtain⟨r1,r3,k1,k3,t1,t3,f1,f3,rfl⟩:=aF.rp.sl;obtain⟨T,U,X,g6,g7,g9,rfl⟩:=Ec aF.rf;obtain⟨xa,xc,rfl⟩:=br.bW;obtain⟨ba,bc,rfl⟩:∃a c,bv=Z a A c:=by obtain⟨_,_,h2,_⟩:=hb;exact h2.bW
 obtain⟨a',e',Q,q2,dq,cY⟩:=hB.part b m hm;have ea:l=a':=oM;have ee:me=e':=oM;subst ea ee;clear Q q2;obtain⟨E,I,ci,ei,_⟩:=NC aF.rf.2.2 (an cY);simp only[lB,mB]at ei;obtain⟨rfl,rfl⟩:=ei;have cU:f.bO.length<=1024:=aF.cl;obtain⟨aA,bj⟩:∃R,R=G7 p f A m s:=⟨_,rfl⟩;rw[<-bj];have bC:=Av bj.symm;clear bj;have H:=Av (d5 aF (d5 hb (d5 br (d5 cu hB))));have HM:=Av (d5 cg cj);have HL:=Av ce;have HT:=Av h;clear aF hb br cu hB cg cj ce hm h;have E0:=Bu u #[l,me,(Z xa m.next xc)] #[iZ 0,iZ 0,iZ 0,sN] 90 87;go_enter func248,ntmps248;go_upto_region 1 with fail
 refine Ax (λu'=>Ae (AA u' u #[l,me,(Z xa m.next xc)] 90/\AA u' ((u:Nat)+1) #[iZ 0,iZ 0,iZ 0,sN] 87/\Gn w u' ⟨Z r1 p.aC r3,Z k1 p.dk k3,Z f1 p.aD f3,Z t1 p.e8 t3⟩ ⟨Z T f.gU U,Z X f.gW g6,sO E I f.bO g9⟩ f (Z ba A bc) n QB O f.bO B N L s)) ⟨E0.1,E0.2.1,HT.a7 E0.2.2⟩ ?_
 rintro U0 E1;have bR:B<=u.heap.size:=HT.sz;generalize u.heap.size=P at E1 bR⊢;clear E0 HT;clear u;obtain⟨V0,bp⟩:∃V,L[l]?=K V:=⟨_,an (by rw[E1.2.2.sl];omega)⟩;have bt:=E1.2.2.rs l V0 bp;obtain⟨va,vc,cI⟩:=AF bt;subst cI;have ae:=Av (d5 (E1.1.a7 (At _)) (d5 (E1.2.1.a7 (At _)) (d5 (E1.2.2.a7 (At _)) (d5 (bt.a7 (At _)) bp))));have dD:(l:Int)<(f.bO:Int):=oM;clear bt bp E1;have bg:U0.drew ⟨n,10,M⟩=K (sG O f.bO f.bO):=ae.2.2.1.tb.cell 10;have b0:U0.drew P=K ↑l:=ae.1.cell 0
 have b1:U0.drew ⟨O,l,M⟩=K (Z va (s.r l).length vc):=by have:=ae.2.2.1.sa.cellAt l oM;rw[ae.2.2.2.2]at this;exact this
 refine wp_region_held_drew (S:= λx=>x ⟨n,10,M⟩=K (sG O f.bO f.bO)/\x P=K ↑l/\x ⟨O,l,M⟩=K (Z va (s.r l).length vc)) kR ⟨bg,b0,b1⟩ (λao=> ?_)
 refine AH 0 ?_;refine AH 1 ?_;refine AH 2 ?_;refine AH 3 ?_;refine AH 4 ?_;refine AH 5 ?_;refine AH 6 ?_;refine AH 7 ?_;refine CX 8 ?_;intro KC ah;go_simp;refine(QS (Z va (s.r l).length vc) (s.r l) U0.drew (Rd.ij ae.2.2.2.1) (by have:=ae.2.2.1.rl l;omega)).mono ?_;rintro e u1 ⟨rfl,⟨V,aG⟩,aw⟩;have F1:Ae (Kv w u1 ⟨Z r1 p.aC r3,Z k1 p.dk k3,Z f1 p.aD f3,Z t1 p.e8 t3⟩ ⟨Z T f.gU U,Z X f.gW g6,sO E I f.bO g9⟩ f (Z ba A bc) n QB O f.bO B N L s U0.drew V (s.r l) P l me (Z xa m.next xc)):=by have hx:=ae.2.1.lt;refine⟨ae.2.2.1.a7 aw,aG, λj W e g hg hr=> ?_,ae.1.a7 aw,ae.2.1.a7 aw,⟨bR,hx⟩,HL⟩;have h1:=(Ee.ge aG hr).1;have h2:=((ae.2.2.1.rs j W e).lt g hg).2;omega
 have K1:u1 ⟨n,10,M⟩=K (sG O f.bO f.bO)/\u1 P=K ↑l/\u1 ⟨O,l,M⟩=K (Z va (s.r l).length vc):=⟨Bi aw bg,Bi aw b0,Bi aw b1⟩
 clear aG aw;go_simp;refine ah.o _ _ K1 (λao=> ?_);clear ah KC;refine AH 9 ?_;refine wpAnyH_done kR ?_ _;clear ao K1 bg b0 b1 ae HL;go_upto_region 2 with fail
 refine Ax (λu'=>Ae (Kv w u' ⟨Z r1 p.aC r3,Z k1 p.dk k3,Z f1 p.aD f3,Z t1 p.e8 t3⟩ ⟨Z T f.gU U,Z X f.gW g6,sO E I f.bO g9⟩ f (Z ba A bc) n QB O f.bO B N L s U0.drew V (s.r l) P l me (Z xa m.next xc))) F1 ?_;clear F1;rintro U1 F1;have bZ:(U0.drew:Nat)=U0.heap.size:=rfl;rw[bZ]at F1;clear bZ;generalize U0.heap.size=S at F1⊢;obtain⟨R0,bP⟩:∃R,R=CY p f (me+1-l) l (s.r l) s.r s.d:=⟨_,rfl⟩;have aR:=Av bP.symm;clear bP;obtain⟨x0,x1,x2⟩:=B9 F1.xb;go_wp2_with fail;clear x0 x1 x2;go_loopw [6] (λi wr=>∃(d:Nat) (L:List J) (sh:List Int) (R:Nat->List Int) (D:Nat) (V:J),l<=d/\d<=me+1/\i=iZ d/\Ae (CY p f (me+1-d) d sh R D=R0)/\Ae (Kv w wr ⟨Z r1 p.aC r3,Z k1 p.dk k3,Z f1 p.aD f3,Z t1 p.e8 t3⟩ ⟨Z T f.gU U,Z X f.gW g6,sO E I f.bO g9⟩ f (Z ba A bc) n QB O f.bO B N L ⟨s.c,R,D⟩ S V sh P l me (Z xa m.next xc))) (λi _=>me+1-(intOf i).toNat)
 case atStart=>exact⟨l,L,_,s.r,s.d,V,oM,oM,rfl,aR,F1⟩
 case round=>
 clear F1;clear V L;obtain⟨d,L,sh,R,D,V,du,dw,rfl,HK,F⟩:=hrel;have dB:sh.length<=64:=lQ F.sl F.ty.dl;obtain⟨x0,x1,x2⟩:=B9 F.xb;by_cases d7:d<=me;case pos=>
  have d8:(d:Int)<=(me:Int):=oM;have dx:(d:Int)<(f.bO:Int):=oM;obtain⟨y,hy⟩:∃y,f.bO[d]?=K y:=⟨_,an oM⟩;have HY:=Av hy;clear hy;go_upto_region 5 with fail
  clear x0 x1 x2;have au:=Av (F.a7 (At _));clear F;have bo:wr.drew ⟨n,10,M⟩=K (sG O f.bO f.bO):=au.ty.tb.cell 10;refine wp_region_held_drew (S:= λx=>x ⟨n,10,M⟩=K (sG O f.bO f.bO)) kR bo (λao=> ?_);refine AH 0 ?_;refine AH 1 ?_;refine AH 2 ?_;refine AH 3 ?_;refine AH 4 ?_;refine AH 5 ?_;refine CX 6 ?_;intro KC ah;go_simp;refine(NJ S V sh wr.drew au.st oM).mono ?_;rintro e u3 ⟨a3,c3,rfl,aW,b3⟩;have H3:=Av (au.a7 b3);have aS:Ae (Ch u3 B (Z a3 sh c3) sh/\(∀(i:Nat) (W:J),L[i]?=K W->∀g,(Z a3 sh c3).ownBlock=K g->W.ownBlock≠K g)/\∀g,(Z a3 sh c3).ownBlock=K g->¬Ee S V g):=by
   refine⟨A9 aW au.ty.sz, λi W e g hg e2=> ?_, λg hg e2=> ?_⟩
   . have h1:=(aW.lt g hg).1;have h2:=((au.ty.rs i W e).lt g e2).2;omega
   have h1:=(aW.lt g hg).1;have h2:=(Ee.ge au.st e2).2;omega
  clear aW b3;go_simp;refine ah.o _ _ (by have:=H3.ty.tb.cell 10;exact this) (λao=> ?_);clear ah KC;refine AH 7 ?_;refine CX 8 ?_;intro KC ah;have bG:=H3.ty.sa.cellAt d oM;have dg:=H3.ty.sa.frozenAt d;obtain⟨V1,bQ⟩:∃V,L[d]?=K V:=⟨_,an (by rw[H3.ty.sl];omega)⟩;rw[bQ]at bG;have H4:Ae (Kv w (Aa u3 ⟨O,d,M⟩ (Z a3 sh c3)) ⟨Z r1 p.aC r3,Z k1 p.dk k3,Z f1 p.aD f3,Z t1 p.e8 t3⟩ ⟨Z T f.gU U,Z X f.gW g6,Z (K ⟨E,I,M⟩) f.bO g9⟩ f (Z ba A bc) n QB O f.bO B N (L.set d (Z a3 sh c3)) ⟨s.c,CR R d sh,D⟩ S V sh P l me (Z xa m.next xc)):=H3.iO aS.1 aS.2.1 aS.2.2;go_simp;refine ah.o _ _ (by have:=H4.ty.tb.cell 10;exact this) (λao=> ?_);clear ah KC;refine wpAnyH_done kR ?_ _;clear ao bo bG dg bQ aS H3 au;go_upto_region 6 with fail
  refine Ax (λu'=>Ae (Kv w u' ⟨Z r1 p.aC r3,Z k1 p.dk k3,Z f1 p.aD f3,Z t1 p.e8 t3⟩ ⟨Z T f.gU U,Z X f.gW g6,sO E I f.bO g9⟩ f (Z ba A bc) n QB O f.bO B N (L.set d (Z a3 sh c3)) ⟨s.c,CR R d sh,D⟩ S V sh P l me (Z xa m.next xc))) H4 ?_;clear H4;rintro U5 F5;generalize L.set d (Z a3 sh c3)=bf at F5;have am:=Av (F5.a7 (At _));clear F5;have bB:Ae (∀u',Ah w w u'->u' ⟨E,I+d*4,M⟩=K ↑y.op/\u' ⟨E,I+d*4+1,M⟩=K ↑y.a/\u' ⟨E,I+d*4+2,M⟩=K ↑y.b/\u' ⟨E,I+d*4+3,M⟩=K ↑y.c):= λu' hu=>by obtain⟨dm,dE,dh,bH,j0,j1,j2,j3⟩:=NC H.1.rf.2.2 HY;simp only[lB,lH,nF,mB,nU]at bH;obtain⟨⟨rfl,rfl⟩,_⟩:=bH;exact⟨Bi hu j0,Bi hu j1,Bi hu j2,Bi hu j3⟩
  have KS:∀{x:Y} {D':WI} {cG:List J},Gn w x ⟨Z r1 p.aC r3,Z k1 p.dk k3,Z f1 p.aD f3,Z t1 p.e8 t3⟩ ⟨Z T f.gU U,Z X f.gW g6,sO E I f.bO g9⟩ f (Z ba A bc) n QB O f.bO B N cG D'->x n=K (Z r1 p.aC r3)/\x ⟨n,1,M⟩=K (Z k1 p.dk k3)/\x ⟨n,2,M⟩=K (Z f1 p.aD f3)/\x ⟨n,3,M⟩=K (Z t1 p.e8 t3)/\x ⟨n,4,M⟩=K (Z T f.gU U)/\x ⟨n,5,M⟩=K ↑f.gV/\x ⟨n,6,M⟩=K (Z X f.gW g6)/\x ⟨n,7,M⟩=K (sO E I f.bO g9)/\x ⟨E,I+d*4,M⟩=K ↑y.op/\x ⟨E,I+d*4+1,M⟩=K ↑y.a/\x ⟨E,I+d*4+2,M⟩=K ↑y.b/\x ⟨E,I+d*4+3,M⟩=K ↑y.c:= λaP=>by obtain⟨j0,j1,j2,j3⟩:=bB.o _ aP.ej;obtain⟨q0,Q,q2,q3,q4,q5,q6,q7,_⟩:=YY aP.tb;exact⟨q0,Q,q2,q3,q4,q5,q6,q7,j0,j1,j2,j3⟩
  refine wp_region_held_drew (S:= λx=>x n=K (Z r1 p.aC r3)/\x ⟨n,1,M⟩=K (Z k1 p.dk k3)/\x ⟨n,2,M⟩=K (Z f1 p.aD f3)/\x ⟨n,3,M⟩=K (Z t1 p.e8 t3)/\x ⟨n,4,M⟩=K (Z T f.gU U)/\x ⟨n,5,M⟩=K ↑f.gV/\x ⟨n,6,M⟩=K (Z X f.gW g6)/\x ⟨n,7,M⟩=K (sO E I f.bO g9)/\x ⟨E,I+d*4,M⟩=K ↑y.op/\x ⟨E,I+d*4+1,M⟩=K ↑y.a/\x ⟨E,I+d*4+2,M⟩=K ↑y.b/\x ⟨E,I+d*4+3,M⟩=K ↑y.c) kR (KS am.ty) (λao=> ?_)
  refine AH 0 ?_;refine AH 1 ?_;refine AH 2 ?_;refine AH 3 ?_;refine AH 4 ?_;refine AH 5 ?_;refine AH 6 ?_;refine AH 7 ?_;refine AH 8 ?_;refine AH 9 ?_;refine AH 10 ?_;refine AH 11 ?_;refine AH 12 ?_;refine AH 13 ?_;refine CX 14 ?_;intro KC ah;go_simp;refine(RN ⟨Z r1 p.aC r3,Z k1 p.dk k3,Z f1 p.aD f3,Z t1 p.e8 t3⟩ p ⟨Z T f.gU U,Z X f.gW g6,sO E I f.bO g9⟩ f y S V sh w U5.drew H.1.ps H.1.pf H.1.fs H.1.rp H.1.rf (H.1.ok y (lA HY)) (by have:=am.lo;have:=am.ty.lo;have:=am.ty.ne;omega) am.ty.ej am.st oM).mono ?_;rintro e u6 ⟨rfl,aE,cA⟩;have F6:=Av (am.iA aE);have aJ:Ae (BJ p f y sh=0->∃V',Fl u6 S V' (Dt p f y sh)/\Rs bf (Ee S V')):= λe=>by obtain⟨V',h1,h2⟩:=cA e;exact⟨V',h1,am.apC h2⟩
  clear aE cA;go_simp;refine ah.o _ _ (KS F6.ty) (λao=> ?_);clear ah KC;refine AH 15 ?_;refine wpAnyH_done kR ?_ _;clear ao am KS bB;have aq:CY p f (me+1-d) d sh R D=R0:=HK.o;rw[Kd HY d7]at aq;have aI:Ae (BJ p f y sh=0->(Dt p f y sh).length<=64):=PW;generalize BJ p f y sh=cc at aJ aq aI⊢;generalize Dt p f y sh=oo at aJ aq aI⊢;by_cases aT:cc=0;case neg=>(have dt:(cc != 0)=true:=by simpa using aT);(have aH:Ae (aA=.inl (cc,d)):=by rw[<-bC,QN HM.1 HM.2,aR.o,<-aq,lS aT]<;>rfl);clear aq aJ aI;obtain⟨q0,Q,q2,q3⟩:=A7 F6.rb;obtain⟨bI,bJ,bK,bL⟩:=Ve F6.rb;go_wp2_with fail;have G:Ae _:=(((F6.rb.set 0 (iZ (cc))).set 1 (iZ ((d:Int)))).set 2 (iZ 0)).set 3 sN;simp only[lM,lU,lX]at G;clear q0 Q q2 q3;obtain⟨q0,Q,q2,q3⟩:=A7 G;refine lO (v:=Am #[iZ (cc),iZ ((d:Int)),iZ 0,sN]) (by simp[results,results248,go_sem,q0,Q,q2,q3]) rfl ?_;have bq:=F6.ty.ej;have l1:=F6.lo;have l2:=F6.ty.ne;have l3:=F6.ty.lo;rw[aH];exact⟨rfl,aT,((((bq.setCell oS _).setCell oS _).setCell oS _).setCell oS _)⟩
  case pos=>
   subst aT;rw[lZ rfl]at aq;have cE:Ae _:=aq;obtain⟨V6,cw,bT⟩:=aJ.o rfl;have aZ:=Av (d5 cw bT);have dA:oo.length<=64:=aI.o rfl;have dp:D<=64:=F6.ty.dl;clear aq cw bT aJ aI;have cH:=(F6.ty.a7 (At _)).tb.cell 11;simp only[lE,lC,lF]at cH;have dF:=(F6.ty.a7 (At _)).tb.frozen 11;(have F9:Ae (Kv w (Aa u6 ⟨n,11,M⟩ (iZ (max (D:Int) (oo:Int)))).drew ⟨Z r1 p.aC r3,Z k1 p.dk k3,Z f1 p.aD f3,Z t1 p.e8 t3⟩ ⟨Z T f.gU U,Z X f.gW g6,sO E I f.bO g9⟩ f (Z ba A bc) n QB O f.bO B N bf ⟨s.c,CR R d sh,max D oo⟩ S V6 oo P l me (Z xa m.next xc)):=by have d9:max (D:Int) (oo:Int)=((max D oo:Nat):Int):=oM;rw[d9];exact(F6.jl aZ.1 aZ.2 oM oM).a7 (At _));(go_upto_region 9 with fail);go_region_with (go_at_call 252;refine(FI S V6 oo u6.drew (aZ.1.a7 (At _))).mono ?_;rintro e u7 ⟨rfl,rfl⟩);all_goals
    go_wp2_with fail;go_roundw;(case rel=>exact⟨d+1,bf,oo,CR R d sh,max D oo,V6,oM,oM,by go_num,cE,F9⟩);exact oI
 case neg=>
  have cW:d=me+1:=oM;have d8:¬(d:Int)<=(me:Int):=oM;have bx:Ae (Oo A me ((m.next.map Int.toNat).drop 0) sh s.c R D aA):=by have e:=HK.o;rw[Mj cW]at e;show Oo A me ((m.next.map Int.toNat).drop 0) sh s.c R D aA;unfold Oo;rw[List.drop_zero,<-bC,QN HM.1 HM.2,aR.o,<-e]<;>rfl
  clear HK aR;go_wp2_with fail;clear x0 x1 x2;go_loopw [68] (λq wr=>∃(i:Nat) (L:List J) (C:Nat->Bool) (R:Nat->List Int),i<= ↑m.next/\q=iZ i/\Ae (Oo A me ((m.next.map Int.toNat).drop i) sh C R D aA)/\Ae (Kv w wr ⟨Z r1 p.aC r3,Z k1 p.dk k3,Z f1 p.aD f3,Z t1 p.e8 t3⟩ ⟨Z T f.gU U,Z X f.gW g6,sO E I f.bO g9⟩ f (Z ba A bc) n QB O f.bO B (N+i) L ⟨C,R,D⟩ S V sh P l me (Z xa m.next xc))) (λq _=> ↑m.next-(intOf q).toNat)
  case atStart=>exact⟨0,L,s.c,R,oM,rfl,bx,F⟩
  case round=>
  clear F bx;clear R L;obtain⟨i,L,C,R,hi,rfl,HA,F⟩:=hrel;by_cases d6:i< ↑m.next
  case pos=>
   obtain⟨z,hz⟩:∃z,m.next[i]?=K z:=⟨_,an d6⟩;obtain⟨t,cM,dd⟩:=H.2.2.2.1 z (lA hz);subst cM;rcases H.2.2.1.2 with⟨q0,_⟩|⟨gn,on,cn,Q,bY⟩
   . omega
   simp only[lB,mB]at Q;obtain⟨de,df⟩:=Q;subst de;clear df;have n0:=Rd.elem Ay bY i _ hz 0 _ rfl;rw[mO,lJ,<-F.ty.ej.cell (g8 n0)]at n0;obtain⟨m1,aU⟩:∃m,A[t]?=K m:=⟨_,an dd⟩;obtain⟨ta,te,bi,cJ,di,dj⟩:=H.2.2.2.2.part t m1 aU;have HN:Ae ((m.next.map Int.toNat).drop i=t::(m.next.map Int.toNat).drop (i+1)/\A[t]?=K m1/\m1.gZ=(ta:Int)/\FG A t=ta):=⟨K9 (by rw[mE,hz];simp),aU,bi,Jx aU bi⟩
   clear bY hz aU bi cJ;have cZ:(i:Int)<(m.next:Int):=oM;have db:sh.length<=64:=lQ F.sl F.ty.dl;go_wp2_with fail;refine(PX w wr ⟨Z r1 p.aC r3,Z k1 p.dk k3,Z f1 p.aD f3,Z t1 p.e8 t3⟩ ⟨Z T f.gU U,Z X f.gW g6,sO E I f.bO g9⟩ f (Z ba A bc) n QB O f.bO B (N+i) L ⟨C,R,D⟩ A S V sh t ta m1 F.ty H.2.1 HN.2.1 HN.2.2.1 oM cU cT oM F.st (by have:=F.lo;omega) F.ap db).mono ?_;rintro e bu (⟨aM,bb,rfl,bV,bF⟩|⟨aM,rfl,V',aP,aG,bS,aE⟩)
   . have aj:Ae (Kv w bu ⟨Z r1 p.aC r3,Z k1 p.dk k3,Z f1 p.aD f3,Z t1 p.e8 t3⟩ ⟨Z T f.gU U,Z X f.gW g6,sO E I f.bO g9⟩ f (Z ba A bc) n QB O f.bO B (N+i) L ⟨C,R,D⟩ S V sh P l me (sO gn on m.next xc)):=F.a7 bF;have aQ:=Av (d5 bV aM);clear bV aM bF F n0;(cases bb);(case false=>have aH:=Av (Oo.bad (by rw[<-HN.1];exact HA) aQ.2 (λe=>by rw[HN.2.2.2]at e;have:=aQ.1.2 e.symm;cases this));obtain⟨x0,x1,x2⟩:=B9 aj.xb;obtain⟨q0,Q,q2,q3⟩:=A7 aj.rb;obtain⟨bI,bJ,bK,bL⟩:=Ve aj.rb;go_wp2_with fail;have G:Ae _:=(((aj.rb.set 0 (iZ (4))).set 1 (iZ ((me:Int)))).set 2 (iZ 0)).set 3 sN;simp only[lM,lU,lX]at G;clear q0 Q q2 q3;obtain⟨q0,Q,q2,q3⟩:=A7 G;refine lO (v:=Am #[iZ (4),iZ ((me:Int)),iZ 0,sN]) (by simp[results,results248,go_sem,q0,Q,q2,q3]) rfl ?_;have bq:=aj.ty.ej;have l1:=aj.lo;have l2:=aj.ty.ne;have l3:=aj.ty.lo;rw[aH];exact⟨rfl,dC,((((bq.setCell oS _).setCell oS _).setCell oS _).setCell oS _)⟩);case true=>have aY:=Av (Oo.same (by rw[<-HN.1];exact HA) aQ.2 (by rw[HN.2.2.2];exact(aQ.1.1 rfl).symm));have aX:Ae (Kv w bu ⟨Z r1 p.aC r3,Z k1 p.dk k3,Z f1 p.aD f3,Z t1 p.e8 t3⟩ ⟨Z T f.gU U,Z X f.gW g6,Z (K ⟨E,I,M⟩) f.bO g9⟩ f (Z ba A bc) n QB O f.bO B (N+(i+1)) L ⟨C,R,D⟩ S V sh P l me (Z (K ⟨gn,on,M⟩) m.next xc)):=aj.more oM;go_wp2_with fail;go_roundw;(case rel=>exact⟨i+1,L,C,R,oM,by go_num,aY,aX⟩);exact oI
   (have aX:Ae (Kv w bu ⟨Z r1 p.aC r3,Z k1 p.dk k3,Z f1 p.aD f3,Z t1 p.e8 t3⟩ ⟨Z T f.gU U,Z X f.gW g6,sO E I f.bO g9⟩ f (Z ba A bc) n QB O f.bO B (N+(i+1)) (L.set ta V') ⟨Ji C t,CR R ta sh,D⟩ S V sh P l me (sO gn on m.next xc)):=by have l1:=F.lo;have l2:=F.ty.ne;exact⟨aP,aG,bS,aE.ie F.xb oM,aE.ie F.rb oM,F.lo,F.sl⟩);(have aY:Ae (Oo A me ((m.next.map Int.toNat).drop (i+1)) sh (Ji C t) (CR R ta sh) D aA):=by have:=Oo.new (by rw[<-HN.1];exact HA) aM;rw[HN.2.2.2]at this;exact this);clear aP aG bS aE F n0 aM;go_wp2_with fail;go_roundw;(case rel=>exact⟨i+1,_,_,_,oM,by go_num,aY,aX⟩);exact oI
  case neg=>have dy:i=m.next.length:=oM;(have aH:Ae (aA=.inr ⟨C,R,D⟩):=by have:=HA.o;have cX:(m.next.map Int.toNat).drop i=[]:=List.drop_eq_nil_of_le (by rw[mD];omega);rw[cX]at this;exact this.symm);have cZ:¬(i:Int)<(m.next:Int):=oM;obtain⟨q0,Q,q2,q3⟩:=A7 F.rb;obtain⟨bI,bJ,bK,bL⟩:=Ve F.rb;go_wp2_with fail;have G:Ae _:=(((F.rb.set 0 (iZ (0))).set 1 (iZ (0))).set 2 (iZ 0)).set 3 sN;simp only[lM,lU,lX]at G;clear q0 Q q2 q3;obtain⟨q0,Q,q2,q3⟩:=A7 G;refine lO (v:=Am #[iZ (0),iZ (0),iZ 0,sN]) (by simp[results,results248,go_sem,q0,Q,q2,q3]) rfl ?_;have l1:=F.lo;have l2:=F.ty.ne;have l3:=F.ty.lo;have cQ:=((((DB.refl (λk=>k=P+1) wr).setCell (ad:=⟨P+1,0,M⟩) (.inl rfl) (iZ 0)).setCell (ad:=⟨P+1,1,M⟩) (.inl rfl) (iZ 0)).setCell (ad:=⟨P+1,2,M⟩) (.inl rfl) (iZ 0)).setCell (ad:=⟨P+1,3,M⟩) (.inl rfl) sN;have cR:=F.ty.iA cQ (λk (e:k=P+1)=>oM) F.apX;rw[aH];exact⟨rfl,L,N+i,oM,cR⟩
end Go.Proofs.YtadcneiiokbofaaGreat
