import Derived.Test.YtkgohaigebcgoaaGreatDoorLo26
namespace Go.Proofs.YtkgohaigebcgoaaGreatDoor
open Go.ChangeShapes Go.WideShapes Go.ChangeAt Go.RowKit Go.Proofs.Tryz
set_option linter.unusedVariables false
open Go.Value renaming slice → Z,agg → An
open Option renaming some → K,none → M
open Go renaming Value → J,World → Y,Calls → Ai,TypeId → Aj
open Go.RowKit renaming Hid → Ae,Below → Ah
open Go.Ending renaming returned → Am
open Go.Proofs.Tryz renaming prog → Aq
open Go.World renaming setCell → Aa
set_option maxHeartbeats 8000000
set_option maxRecDepth 100000
variable {w u:Y}{b t a c i j k l m d e n B N S p q r D:Nat}{f:MF}{g:VF}{v:VP}{s:WI}{V:J}{x:List Int}{C:Nat->Bool}{R:Nat->List Int}
theorem Xu{t:Aj}{a:Array J}(h:Ay w b a t):w.frozen? b=false/\w.frozen? ⟨b,1,M⟩=false/\w.frozen? ⟨b,2,M⟩=false/\w.frozen? ⟨b,3,M⟩=false:=⟨h.frozen 0,h.frozen 1,h.frozen 2,h.frozen 3⟩
theorem ql{a c f x3 g i j k l m d e:J}{t:Aj}(h:Ay w b #[a,c,f,x3,g,i,j,k,l,m,d,e] t):w b=K a/\w ⟨b,1,M⟩=K c/\w ⟨b,2,M⟩=K f/\w ⟨b,3,M⟩=K x3/\w ⟨b,4,M⟩=K g/\w ⟨b,5,M⟩=K i/\w ⟨b,6,M⟩=K j/\w ⟨b,7,M⟩=K k/\w ⟨b,8,M⟩=K l/\w ⟨b,9,M⟩=K m/\w ⟨b,10,M⟩=K d/\w ⟨b,11,M⟩=K e:=⟨h.cell 0,h.cell 1,h.cell 2,h.cell 3,h.cell 4,h.cell 5,h.cell 6,h.cell 7,h.cell 8,h.cell 9,h.cell 10,h.cell 11⟩
structure Ky(w u:Y)(v:VP)(g:VF)(f:MF)(bv:J)(TB QB GS n B N:Nat)(RS:List J)(s:WI)(S:Nat)(V:J)(sh:List Int)(XB ma me:Nat)(nv:J):Prop where
 ty:Gm w u v g f bv TB QB GS n B N RS s
 st:Fj u S V sh
 ap:Sa RS (Eh S V)
 xb:Ay u XB #[ma,me,nv] 97
 rb:Ay u (XB+1) #[iZ 0,iZ 0,iZ 0,sN] 209
 lo:B<=XB/\XB+1<S
 sl: ↑sh<=s.d
theorem Ky.av{m:Y}{bv:J}{d:List J}{l:List Int}{nv:J}(h:Ky w u v g f bv e c b n B N d s S V l i j k nv)(a:Ah u u m):Ky w m v g f bv e c b n B N d s S V l i j k nv:=⟨h.ty.av a,h.st.av a,h.ap,h.xb.av a,h.rb.av a,h.lo,h.sl⟩
theorem Ky.fR{bv:J}{k:List J}{b:List Int}{nv:J}(h:Ky w u v g f bv m l e n B N k s S V b p q t nv){a:J}(x:Hm u B a b)(z:∀(i:Nat) (W:J),k[i]?=K W->∀g,a.ownBlock=K g->W.ownBlock≠K g)(y:∀g,a.ownBlock=K g->¬Eh S V g):Ky w (Aa u ⟨e,j,M⟩ a) v g f bv m l e n B N (k.set j a) ⟨s.c,Ec s.r j b,s.d⟩ S V b p q t nv:=by obtain⟨D,E,F,G,H,I⟩:=h.ty.ne;obtain⟨A,C⟩:=h.lo;exact⟨h.ty.fR x (jN h.sl h.ty.dl) z,h.st.fZ oS _,h.ap.set y,h.xb.other oS _,h.rb.other oS _,h.lo,h.sl⟩
structure qT(w u:Y)(v:VP)(g:VF)(f:MF)(bv:J)(TB QB GS n B N:Nat)(RS:List J)(s:WI)(S:Nat)(XB ma me:Nat)(nv:J):Prop where
 ty:Gm w u v g f bv TB QB GS n B N RS s
 xb:Ay u XB #[ma,me,nv] 97
 rb:Ay u (XB+1) #[iZ 0,iZ 0,iZ 0,sN] 209
 lo:B<=XB/\XB+1<S
theorem Ky.eX{r:Y}{bv:J}{j:List J}{t:List Int}{nv:J}(h:Ky w u v g f bv l i d n B N j s S V t m p q nv)(a:DX (Eh S V) u r):qT w r v g f bv l i d n B N j s S m p q nv:=by
 obtain⟨x,y⟩:=h.lo;have b:∀k,Eh S V k->S<=k:= λk c=>(Eh.ge h.st c).1
 exact⟨h.ty.eX a (λk c=>by have:=b k c;omega) h.ap,a.eP h.xb (λe=>by have:=b _ e;omega),a.eP h.rb (λe=>by have:=b _ e;omega),h.lo⟩
theorem qT.fI{bv:J}{a:List J}{nv:J}(h:qT w u v g f bv b j i n B N a s S k l m nv){e:List Int}(x:Fj u S V e)(p:Sa a (Eh S V))(q:d<=64)(t: ↑e<=d):Ky w (Aa u ⟨b,11,M⟩ d) v g f bv b j i n B N a ⟨s.c,s.r,d⟩ S V e k l m nv:=by obtain⟨A,C,D,E,F,G⟩:=h.ty.ne;obtain⟨y,z⟩:=h.lo;exact⟨h.ty.fI d q,x.fZ oS _,p,h.xb.other oS _,h.rb.other oS _,h.lo,t⟩
theorem Ky.apC{bv:J}{d:List J}{b:J}{nv:J}(h:Ky w u v g f bv l k i n B N d s S V x m r t nv)(p:b.ownBlock=V.ownBlock\/∀g,b.ownBlock=K g-> ↑u<=g):Sa d (Eh S b):= λj W e g c a=>by
 rcases a with rfl|a
 . exact h.ap j W e g c (.inl rfl)
 rcases p with q|q
 . exact h.ap j W e g c (.inr (by rw[<-q];exact a))
 have y:=q g a;have z:=((h.ty.rs j W e).lt g c).2;omega
theorem Gm.more{bv:J}{d:List J}(h:Gm w u v g f bv e c a n B N d s)(hN:N<=b):Gm w u v g f bv e c a n B b d s:=by obtain⟨i,D,j,k,l⟩:=h.mp;exact⟨h.tb,⟨i,D,j,jN k hN,l⟩,h.sa,h.sl,h.rs,h.cq,h.lo,h.ne,h.sz,h.dl,h.rl,h.ap⟩
theorem Ky.more{bv:J}{d:List J}{l:List Int}{nv:J}(h:Ky w u v g f bv e c a n B N d s S V l i j k nv)(hN:N<=b):Ky w u v g f bv e c a n B b d s S V l i j k nv:=⟨h.ty.more hN,h.st,h.ap,h.xb,h.rb,h.lo,h.sl⟩
theorem Ky.apX{bv:J}{b:List J}{nv:J}(h:Ky w u v g f bv l i d n B N b s S V x c r t nv):Sa b (λk=>k=c+1):= λj W e g a p=>by
 subst p;rcases(h.ty.rs j W e).2 with⟨q,_⟩|⟨z,cap,y,q,_,m,_⟩
 . subst q;cases a
 subst q;simp only[Value.ownBlock,jJ]at a;subst a;have:=h.rb;unfold Ay at this;rw[m]at this;simp only[jJ,lQ]at this;exact absurd this.2.1 dC
def ThR(w:Y)(v:VP)(g:VF)(f:MF)(bv:J)(k i h n B N:Nat)(r:OV)(e:Ending)(d:Y):Prop:=match r with
 |.inl (c,a)=>e=Am (An #[c,a,iZ 0,sN])/\c≠0/\Ah w w d
 |.inr s'=>e=Am (An #[iZ 0,iZ 0,iZ 0,sN])/\∃j b,b<=N+2/\Gm w d v g f bv k i h n B b j s'
theorem QL{p:MP}{x:MI}{a:List Int}(h:BJ p f x a=0):(Dr p f x a).length<=64:=by
 unfold BJ at h;unfold Dr;by_cases e:x.op=29
 . rw[jP e];simp
 rw[jH e]at h⊢;exact QM h
def OP(b:List MB)(c:Nat)(nx:List Nat)(d:List Int)(C:Nat->Bool)(R:Nat->List Int)(D:Nat)(a:OV):Prop:=(match Ff b nx d C R with|none=>Sum.inl (4,c)|some (C',R')=>.inr ⟨C',R',D⟩)=a
theorem RI{p:MP}{g:List MB}{m:MB}(h:m.cz=(a:Int))(i:m.last=(b:Int)):Hd p f g m s=(match DV p f (b+1-a) a (s.r a) s.r s.d with|.inl e=>.inl e|.inr (sh,R,D)=>match Ff g (m.next.map Int.toNat) sh s.c R with|none=>.inl (4,b)|some (C,R')=>.inr ⟨C,R',D⟩):=by unfold Hd;have e:(m.last-m.cz+1).toNat=b+1-a:=oM;rw[e,h,i,i9,i9]<;>rfl
theorem OP.same{a:List MB}{nx:List Nat}{b:List Int}{c:OV}(h:OP a d (t::nx) b C R D c)(e:C t=true)(f:R (Fx a t)=b):OP a d nx b C R D c:=by unfold OP at h⊢;rw[Ff,jP e,jP f]at h;exact h
theorem OP.bad{b:List MB}{nx:List Nat}{d:List Int}{a:OV}(h:OP b c (t::nx) d C R D a)(e:C t=true)(f:¬R (Fx b t)=d):a=.inl (4,c):=by unfold OP at h;rw[Ff,jP e,jH f]at h;exact h.symm
theorem OP.new{a:List MB}{nx:List Nat}{b:List Int}{c:OV}(h:OP a d (t::nx) b C R D c)(e:C t=false):OP a d nx b (Jd C t) (Ec R (Fx a t) b) D c:=by unfold OP at h⊢;rw[Ff,jH (by rw[e];decide)]at h;exact h
theorem RP(w u:Y)(v:VP)(p:MP)(g:VF)(f:MF)(bv nv:J)(x QB Q B N:Nat)(P:List J)(s:WI)(I:List MB)(b:Nat)(m:MB)(l E:Nat)(h:Gm w u v g f bv x QB Q f.aU B N P s)(aG:Qj w v p g f)(hb:K8 w bv I)(hB:P8 f.aU I)(hm:I[b]?=K m)(cM:m.cz=(l:Int))(cQ:m.last=(E:Int))(bu:Rd w 1 nv m.next (m.next.flatMap As))(dM:m.next.length<=2)(cR:∀z∈m.next,∃t:Nat,z=(t:Int)/\t< ↑I)(de:I.length<=1024)(hN:N<=4000)(cK:(s.r l).length<=s.d):
 Ai Aq 244 #[.pointer x,An #[l,E,nv]] u (ThR w v g f bv x QB Q f.aU B N (Hd p f I m s)):=by
 obtain⟨r1,r3,k1,k3,t1,t3,f1,f3,rfl⟩:=aG.rp.sl;obtain⟨X,g3,g4,g6,g7,g9,rfl⟩:=I8 aG.rf;obtain⟨xa,xc,rfl⟩:=bu.aP;obtain⟨ba,bc,rfl⟩:∃a c,bv=Z a I c:=by obtain⟨_,_,h2,_⟩:=hb;exact h2.aP
 obtain⟨a',e',U,q2,dG,di⟩:=hB.part b m hm;have ea:l=a':=oM;have ee:E=e':=oM;subst ea ee;clear U q2;obtain⟨L,O,ci,ei,_⟩:=XC aG.rf.2.2 (an di);simp only[i8,kW]at ei;obtain⟨rfl,rfl⟩:=ei;have df:f.aU.length<=1024:=aG.cl;obtain⟨aE,bq⟩:∃R,R=Hd p f I m s:=⟨_,rfl⟩;rw[<-bq];have bH:=Aw bq.symm;clear bq;have H:=Aw (fd aG (fd hb (fd bu (fd cR hB))));have HM:=Aw (fd cM cQ);have HL:=Aw cK;have HT:=Aw h;clear aG hb bu cR hB cM cQ cK hm h;have E0:=BT u #[l,E,(Z xa m.next xc)] #[iZ 0,iZ 0,iZ 0,sN] 97 209;go_enter func244,ntmps244;go_upto_region 1 with fail
 refine Av (λu'=>Ae (Ay u' u #[l,E,(Z xa m.next xc)] 97/\Ay u' ((u:Nat)+1) #[iZ 0,iZ 0,iZ 0,sN] 209/\Gm w u' ⟨Z r1 p.az r3,Z k1 p.b8 k3,Z f1 p.aB f3,Z t1 p.bO t3⟩ ⟨Z X f.aD g3,Z g4 f.a7 g6,sO L O f.aU g9⟩ f (Z ba I bc) x QB Q f.aU B N P s)) ⟨E0.1,E0.2.1,HT.av E0.2.2⟩ ?_
 rintro U0 E1;have ce:B<=u.heap.size:=HT.sz;generalize u.heap.size=T at E1 ce⊢;clear E0 HT;clear u;obtain⟨V0,br⟩:∃V,P[l]?=K V:=⟨_,an (by rw[E1.2.2.sl];omega)⟩;have bx:=E1.2.2.rs l V0 br;obtain⟨va,vc,cZ⟩:=AF bx;subst cZ;have aa:=Aw (fd (E1.1.av (At _)) (fd (E1.2.1.av (At _)) (fd (E1.2.2.av (At _)) (fd (bx.av (At _)) br))));have dP:(l:Int)<(f.aU:Int):=oM;clear bx br E1;have bi:U0.drew ⟨x,10,M⟩=K (sG Q f.aU f.aU):=aa.2.2.1.tb.cell 10;have b0:U0.drew T=K ↑l:=aa.1.cell 0
 have b1:U0.drew ⟨Q,l,M⟩=K (Z va (s.r l).length vc):=by have:=aa.2.2.1.sa.cellAt l oM;rw[aa.2.2.2.2]at this;exact this
 refine wp_region_held_drew (S:= λA=>A ⟨x,10,M⟩=K (sG Q f.aU f.aU)/\A T=K ↑l/\A ⟨Q,l,M⟩=K (Z va (s.r l).length vc)) kR ⟨bi,b0,b1⟩ (λaq=> ?_)
 refine A5 0 ?_;refine A5 1 ?_;refine A5 2 ?_;refine A5 3 ?_;refine A5 4 ?_;refine A5 5 ?_;refine A5 6 ?_;refine A5 7 ?_;refine DU 8 ?_;intro KC ae;go_simp;refine(RN (Z va (s.r l).length vc) (s.r l) U0.drew (Rd.eS aa.2.2.2.1) (by have:=aa.2.2.1.rl l;omega)).mono ?_;rintro e u1 ⟨rfl,⟨V,aH⟩,aA⟩;have F1:Ae (Ky w u1 ⟨Z r1 p.az r3,Z k1 p.b8 k3,Z f1 p.aB f3,Z t1 p.bO t3⟩ ⟨Z X f.aD g3,Z g4 f.a7 g6,sO L O f.aU g9⟩ f (Z ba I bc) x QB Q f.aU B N P s U0.drew V (s.r l) T l E (Z xa m.next xc)):=by have hx:=aa.2.1.lt;refine⟨aa.2.2.1.av aA,aH, λj W e g hg hr=> ?_,aa.1.av aA,aa.2.1.av aA,⟨ce,hx⟩,HL⟩;have h1:=(Eh.ge aH hr).1;have h2:=((aa.2.2.1.rs j W e).lt g hg).2;omega
 have K1:u1 ⟨x,10,M⟩=K (sG Q f.aU f.aU)/\u1 T=K ↑l/\u1 ⟨Q,l,M⟩=K (Z va (s.r l).length vc):=⟨Au aA bi,Au aA b0,Au aA b1⟩
 clear aH aA;go_simp;refine ae.o _ _ K1 (λaq=> ?_);clear ae KC;refine A5 9 ?_;refine wpAnyH_done kR ?_ _;clear aq K1 bi b0 b1 aa HL;go_upto_region 2 with fail
 refine Av (λu'=>Ae (Ky w u' ⟨Z r1 p.az r3,Z k1 p.b8 k3,Z f1 p.aB f3,Z t1 p.bO t3⟩ ⟨Z X f.aD g3,Z g4 f.a7 g6,sO L O f.aU g9⟩ f (Z ba I bc) x QB Q f.aU B N P s U0.drew V (s.r l) T l E (Z xa m.next xc))) F1 ?_;clear F1;rintro U1 F1;have cJ:(U0.drew:Nat)=U0.heap.size:=rfl;rw[cJ]at F1;clear cJ;generalize U0.heap.size=S at F1⊢;obtain⟨R0,bY⟩:∃R,R=DV p f (E+1-l) l (s.r l) s.r s.d:=⟨_,rfl⟩;have aR:=Aw bY.symm;clear bY;obtain⟨x0,x1,x2⟩:=Dv F1.xb;go_wp2_with fail;clear x0 x1 x2;go_loopw [6] (λi wr=>∃(d:Nat) (P:List J) (n:List Int) (R:Nat->List Int) (D:Nat) (V:J),l<=d/\d<=E+1/\i=iZ d/\Ae (DV p f (E+1-d) d n R D=R0)/\Ae (Ky w wr ⟨Z r1 p.az r3,Z k1 p.b8 k3,Z f1 p.aB f3,Z t1 p.bO t3⟩ ⟨Z X f.aD g3,Z g4 f.a7 g6,sO L O f.aU g9⟩ f (Z ba I bc) x QB Q f.aU B N P ⟨s.c,R,D⟩ S V n T l E (Z xa m.next xc))) (λi _=>E+1-(intOf i).toNat)
 case atStart=>exact⟨l,P,_,s.r,s.d,V,oM,oM,rfl,aR,F1⟩
 case round=>
 clear F1;clear V P;obtain⟨d,P,n,R,D,V,dI,dJ,rfl,HK,F⟩:=hrel;have dO:n.length<=64:=jN F.sl F.ty.dl;obtain⟨x0,x1,x2⟩:=Dv F.xb;by_cases dq:d<=E;case pos=>
  have dt:(d:Int)<=(E:Int):=oM;have dK:(d:Int)<(f.aU:Int):=oM;obtain⟨y,hy⟩:∃y,f.aU[d]?=K y:=⟨_,an oM⟩;have HY:=Aw hy;clear hy;go_upto_region 5 with fail
  clear x0 x1 x2;have ax:=Aw (F.av (At _));clear F;have bo:wr.drew ⟨x,10,M⟩=K (sG Q f.aU f.aU):=ax.ty.tb.cell 10;refine wp_region_held_drew (S:= λA=>A ⟨x,10,M⟩=K (sG Q f.aU f.aU)) kR bo (λaq=> ?_);refine A5 0 ?_;refine A5 1 ?_;refine A5 2 ?_;refine A5 3 ?_;refine A5 4 ?_;refine A5 5 ?_;refine DU 6 ?_;intro KC ae;go_simp;refine(Of S V n wr.drew ax.st oM).mono ?_;rintro e u3 ⟨a3,c3,rfl,aX,b3⟩;have H3:=Aw (ax.av b3);have aS:Ae (Hm u3 B (Z a3 n c3) n/\(∀(i:Nat) (W:J),P[i]?=K W->∀g,(Z a3 n c3).ownBlock=K g->W.ownBlock≠K g)/\∀g,(Z a3 n c3).ownBlock=K g->¬Eh S V g):=by
   refine⟨Bt aX ax.ty.sz, λi W e g hg e2=> ?_, λg hg e2=> ?_⟩
   . have h1:=(aX.lt g hg).1;have h2:=((ax.ty.rs i W e).lt g e2).2;omega
   have h1:=(aX.lt g hg).1;have h2:=(Eh.ge ax.st e2).2;omega
  clear aX b3;go_simp;refine ae.o _ _ (by have:=H3.ty.tb.cell 10;exact this) (λaq=> ?_);clear ae KC;refine A5 7 ?_;refine DU 8 ?_;intro KC ae;have bJ:=H3.ty.sa.cellAt d oM;have dz:=H3.ty.sa.frozenAt d;obtain⟨V1,bZ⟩:∃V,P[d]?=K V:=⟨_,an (by rw[H3.ty.sl];omega)⟩;rw[bZ]at bJ;have H4:Ae (Ky w (Aa u3 ⟨Q,d,M⟩ (Z a3 n c3)) ⟨Z r1 p.az r3,Z k1 p.b8 k3,Z f1 p.aB f3,Z t1 p.bO t3⟩ ⟨Z X f.aD g3,Z g4 f.a7 g6,Z (K ⟨L,O,M⟩) f.aU g9⟩ f (Z ba I bc) x QB Q f.aU B N (P.set d (Z a3 n c3)) ⟨s.c,Ec R d n,D⟩ S V n T l E (Z xa m.next xc)):=H3.fR aS.1 aS.2.1 aS.2.2;go_simp;refine ae.o _ _ (by have:=H4.ty.tb.cell 10;exact this) (λaq=> ?_);clear ae KC;refine wpAnyH_done kR ?_ _;clear aq bo bJ dz bZ aS H3 ax;go_upto_region 6 with fail
  refine Av (λu'=>Ae (Ky w u' ⟨Z r1 p.az r3,Z k1 p.b8 k3,Z f1 p.aB f3,Z t1 p.bO t3⟩ ⟨Z X f.aD g3,Z g4 f.a7 g6,sO L O f.aU g9⟩ f (Z ba I bc) x QB Q f.aU B N (P.set d (Z a3 n c3)) ⟨s.c,Ec R d n,D⟩ S V n T l E (Z xa m.next xc))) H4 ?_;clear H4;rintro U5 F5;generalize P.set d (Z a3 n c3)=bg at F5;have aj:=Aw (F5.av (At _));clear F5;have bG:Ae (∀u',Ah w w u'->u' ⟨L,O+d*4,M⟩=K ↑y.op/\u' ⟨L,O+d*4+1,M⟩=K ↑y.a/\u' ⟨L,O+d*4+2,M⟩=K ↑y.b/\u' ⟨L,O+d*4+3,M⟩=K ↑y.c):= λu' hu=>by obtain⟨dE,dQ,dA,bP,j0,j1,j2,j3⟩:=XC H.1.rf.2.2 HY;simp only[i8,jJ,lT,kW,mD]at bP;obtain⟨⟨rfl,rfl⟩,_⟩:=bP;exact⟨Au hu j0,Au hu j1,Au hu j2,Au hu j3⟩
  have KS:∀{A:Y} {D':WI} {cX:List J},Gm w A ⟨Z r1 p.az r3,Z k1 p.b8 k3,Z f1 p.aB f3,Z t1 p.bO t3⟩ ⟨Z X f.aD g3,Z g4 f.a7 g6,sO L O f.aU g9⟩ f (Z ba I bc) x QB Q f.aU B N cX D'->A x=K (Z r1 p.az r3)/\A ⟨x,1,M⟩=K (Z k1 p.b8 k3)/\A ⟨x,2,M⟩=K (Z f1 p.aB f3)/\A ⟨x,3,M⟩=K (Z t1 p.bO t3)/\A ⟨x,4,M⟩=K (Z X f.aD g3)/\A ⟨x,5,M⟩=K ↑f.cu/\A ⟨x,6,M⟩=K (Z g4 f.a7 g6)/\A ⟨x,7,M⟩=K (sO L O f.aU g9)/\A ⟨L,O+d*4,M⟩=K ↑y.op/\A ⟨L,O+d*4+1,M⟩=K ↑y.a/\A ⟨L,O+d*4+2,M⟩=K ↑y.b/\A ⟨L,O+d*4+3,M⟩=K ↑y.c:= λaO=>by obtain⟨j0,j1,j2,j3⟩:=bG.o _ aO.cq;obtain⟨q0,U,q2,q3,q4,q5,q6,q7,_⟩:=ql aO.tb;exact⟨q0,U,q2,q3,q4,q5,q6,q7,j0,j1,j2,j3⟩
  refine wp_region_held_drew (S:= λA=>A x=K (Z r1 p.az r3)/\A ⟨x,1,M⟩=K (Z k1 p.b8 k3)/\A ⟨x,2,M⟩=K (Z f1 p.aB f3)/\A ⟨x,3,M⟩=K (Z t1 p.bO t3)/\A ⟨x,4,M⟩=K (Z X f.aD g3)/\A ⟨x,5,M⟩=K ↑f.cu/\A ⟨x,6,M⟩=K (Z g4 f.a7 g6)/\A ⟨x,7,M⟩=K (sO L O f.aU g9)/\A ⟨L,O+d*4,M⟩=K ↑y.op/\A ⟨L,O+d*4+1,M⟩=K ↑y.a/\A ⟨L,O+d*4+2,M⟩=K ↑y.b/\A ⟨L,O+d*4+3,M⟩=K ↑y.c) kR (KS aj.ty) (λaq=> ?_)
  refine A5 0 ?_;refine A5 1 ?_;refine A5 2 ?_;refine A5 3 ?_;refine A5 4 ?_;refine A5 5 ?_;refine A5 6 ?_;refine A5 7 ?_;refine A5 8 ?_;refine A5 9 ?_;refine A5 10 ?_;refine A5 11 ?_;refine A5 12 ?_;refine A5 13 ?_;refine DU 14 ?_;intro KC ae;go_simp;refine(Sq ⟨Z r1 p.az r3,Z k1 p.b8 k3,Z f1 p.aB f3,Z t1 p.bO t3⟩ p ⟨Z X f.aD g3,Z g4 f.a7 g6,sO L O f.aU g9⟩ f y S V n w U5.drew H.1.ps H.1.pf H.1.fs H.1.rp H.1.rf (H.1.ok y (hC HY)) (by have:=aj.lo;have:=aj.ty.lo;have:=aj.ty.ne;omega) aj.ty.cq aj.st oM).mono ?_;rintro e u6 ⟨rfl,aF,cU⟩;have F6:=Aw (aj.eX aF);have aK:Ae (BJ p f y n=0->∃V',Fj u6 S V' (Dr p f y n)/\Sa bg (Eh S V')):= λe=>by obtain⟨V',h1,h2⟩:=cU e;exact⟨V',h1,aj.apC h2⟩
  clear aF cU;go_simp;refine ae.o _ _ (KS F6.ty) (λaq=> ?_);clear ae KC;refine A5 15 ?_;refine wpAnyH_done kR ?_ _;clear aq aj KS bG;have au:DV p f (E+1-d) d n R D=R0:=HK.o;rw[V4 HY dq]at au;have aJ:Ae (BJ p f y n=0->(Dr p f y n).length<=64):=QL;generalize BJ p f y n=cc at aK au aJ⊢;generalize Dr p f y n=oo at aK au aJ⊢;by_cases aT:cc=0;case neg=>(have dH:(cc != 0)=true:=by simpa using aT);(have aI:Ae (aE=.inl (cc,d)):=by rw[<-bH,RI HM.1 HM.2,aR.o,<-au,jH aT]<;>rfl);clear au aK aJ;obtain⟨q0,U,q2,q3⟩:=CP F6.rb;obtain⟨bQ,bS,bT,bV⟩:=Xu F6.rb;go_wp2_with fail;have G:Ae _:=(((F6.rb.set 0 (iZ (cc))).set 1 (iZ ((d:Int)))).set 2 (iZ 0)).set 3 sN;simp only[kB,kX,kU]at G;clear q0 U q2 q3;obtain⟨q0,U,q2,q3⟩:=CP G;refine kA (v:=An #[iZ (cc),iZ ((d:Int)),iZ 0,sN]) (by simp[results,results244,go_sem,q0,U,q2,q3]) rfl ?_;have bt:=F6.ty.cq;have l1:=F6.lo;have l2:=F6.ty.ne;have l3:=F6.ty.lo;rw[aI];exact⟨rfl,aT,((((bt.setCell oS _).setCell oS _).setCell oS _).setCell oS _)⟩
  case pos=>
   subst aT;rw[jP rfl]at au;have cW:Ae _:=au;obtain⟨V6,cT,cj⟩:=aK.o rfl;have bf:=Aw (fd cT cj);have dN:oo.length<=64:=aJ.o rfl;have dF:D<=64:=F6.ty.dl;clear au cT cj aK aJ;have cY:=(F6.ty.av (At _)).tb.cell 11;simp only[i5,f8,i6]at cY;have dR:=(F6.ty.av (At _)).tb.frozen 11;(have F9:Ae (Ky w (Aa u6 ⟨x,11,M⟩ (iZ (max (D:Int) (oo:Int)))).drew ⟨Z r1 p.az r3,Z k1 p.b8 k3,Z f1 p.aB f3,Z t1 p.bO t3⟩ ⟨Z X f.aD g3,Z g4 f.a7 g6,sO L O f.aU g9⟩ f (Z ba I bc) x QB Q f.aU B N bg ⟨s.c,Ec R d n,max D oo⟩ S V6 oo T l E (Z xa m.next xc)):=by have du:max (D:Int) (oo:Int)=((max D oo:Nat):Int):=oM;rw[du];exact(F6.fI bf.1 bf.2 oM oM).av (At _));(go_upto_region 9 with fail);go_region_with (go_at_call 248;refine(Fy S V6 oo u6.drew (bf.1.av (At _))).mono ?_;rintro e u7 ⟨rfl,rfl⟩);all_goals
    go_wp2_with fail;go_roundw;(case rel=>exact⟨d+1,bg,oo,Ec R d n,max D oo,V6,oM,oM,by go_num,cW,F9⟩);exact oI
 case neg=>
  have dg:d=E+1:=oM;have dt:¬(d:Int)<=(E:Int):=oM;have bC:Ae (OP I E ((m.next.map Int.toNat).drop 0) n s.c R D aE):=by have e:=HK.o;rw[Yp dg]at e;show OP I E ((m.next.map Int.toNat).drop 0) n s.c R D aE;unfold OP;rw[List.drop_zero,<-bH,RI HM.1 HM.2,aR.o,<-e]<;>rfl
  clear HK aR;go_wp2_with fail;clear x0 x1 x2;go_loopw [68] (λq wr=>∃(i:Nat) (P:List J) (C:Nat->Bool) (R:Nat->List Int),i<= ↑m.next/\q=iZ i/\Ae (OP I E ((m.next.map Int.toNat).drop i) n C R D aE)/\Ae (Ky w wr ⟨Z r1 p.az r3,Z k1 p.b8 k3,Z f1 p.aB f3,Z t1 p.bO t3⟩ ⟨Z X f.aD g3,Z g4 f.a7 g6,sO L O f.aU g9⟩ f (Z ba I bc) x QB Q f.aU B (N+i) P ⟨C,R,D⟩ S V n T l E (Z xa m.next xc))) (λq _=> ↑m.next-(intOf q).toNat)
  case atStart=>exact⟨0,P,s.c,R,oM,rfl,bC,F⟩
  case round=>
  clear F bC;clear R P;obtain⟨i,P,C,R,hi,rfl,HA,F⟩:=hrel;by_cases dm:i< ↑m.next
  case pos=>
   obtain⟨z,hz⟩:∃z,m.next[i]?=K z:=⟨_,an dm⟩;obtain⟨t,d9,dw⟩:=H.2.2.2.1 z (hC hz);subst d9;rcases H.2.2.1.2 with⟨q0,_⟩|⟨gn,on,cn,U,cI⟩
   . omega
   simp only[i8,kW]at U;obtain⟨dx,dy⟩:=U;subst dx;clear dy;have n0:=Rd.elem AE cI i _ hz 0 _ rfl;rw[lJ,jV,<-F.ty.cq.cell (i7 n0)]at n0;obtain⟨m1,aW⟩:∃m,I[t]?=K m:=⟨_,an dw⟩;obtain⟨ta,te,bj,d8,dB,dD⟩:=H.2.2.2.2.part t m1 aW;have HN:Ae ((m.next.map Int.toNat).drop i=t::(m.next.map Int.toNat).drop (i+1)/\I[t]?=K m1/\m1.cz=(ta:Int)/\Fx I t=ta):=⟨TK (by rw[jY,hz];simp),aW,bj,Jp aW bj⟩
   clear cI hz aW bj d8;have dj:(i:Int)<(m.next:Int):=oM;have dv:n.length<=64:=jN F.sl F.ty.dl;go_wp2_with fail;refine(QN w wr ⟨Z r1 p.az r3,Z k1 p.b8 k3,Z f1 p.aB f3,Z t1 p.bO t3⟩ ⟨Z X f.aD g3,Z g4 f.a7 g6,sO L O f.aU g9⟩ f (Z ba I bc) x QB Q f.aU B (N+i) P ⟨C,R,D⟩ I S V n t ta m1 F.ty H.2.1 HN.2.1 HN.2.2.1 oM df de oM F.st (by have:=F.lo;omega) F.ap dv).mono ?_;rintro e bB (⟨aM,bb,rfl,cH,bI⟩|⟨aM,rfl,V',aO,aH,cg,aF⟩)
   . have ai:Ae (Ky w bB ⟨Z r1 p.az r3,Z k1 p.b8 k3,Z f1 p.aB f3,Z t1 p.bO t3⟩ ⟨Z X f.aD g3,Z g4 f.a7 g6,sO L O f.aU g9⟩ f (Z ba I bc) x QB Q f.aU B (N+i) P ⟨C,R,D⟩ S V n T l E (sO gn on m.next xc)):=F.av bI;have aQ:=Aw (fd cH aM);clear cH aM bI F n0;(cases bb);(case false=>have aI:=Aw (OP.bad (by rw[<-HN.1];exact HA) aQ.2 (λe=>by rw[HN.2.2.2]at e;have:=aQ.1.2 e.symm;cases this));obtain⟨x0,x1,x2⟩:=Dv ai.xb;obtain⟨q0,U,q2,q3⟩:=CP ai.rb;obtain⟨bQ,bS,bT,bV⟩:=Xu ai.rb;go_wp2_with fail;have G:Ae _:=(((ai.rb.set 0 (iZ (4))).set 1 (iZ ((E:Int)))).set 2 (iZ 0)).set 3 sN;simp only[kB,kX,kU]at G;clear q0 U q2 q3;obtain⟨q0,U,q2,q3⟩:=CP G;refine kA (v:=An #[iZ (4),iZ ((E:Int)),iZ 0,sN]) (by simp[results,results244,go_sem,q0,U,q2,q3]) rfl ?_;have bt:=ai.ty.cq;have l1:=ai.lo;have l2:=ai.ty.ne;have l3:=ai.ty.lo;rw[aI];exact⟨rfl,dC,((((bt.setCell oS _).setCell oS _).setCell oS _).setCell oS _)⟩);case true=>have aZ:=Aw (OP.same (by rw[<-HN.1];exact HA) aQ.2 (by rw[HN.2.2.2];exact(aQ.1.1 rfl).symm));have aY:Ae (Ky w bB ⟨Z r1 p.az r3,Z k1 p.b8 k3,Z f1 p.aB f3,Z t1 p.bO t3⟩ ⟨Z X f.aD g3,Z g4 f.a7 g6,Z (K ⟨L,O,M⟩) f.aU g9⟩ f (Z ba I bc) x QB Q f.aU B (N+(i+1)) P ⟨C,R,D⟩ S V n T l E (Z (K ⟨gn,on,M⟩) m.next xc)):=ai.more oM;go_wp2_with fail;go_roundw;(case rel=>exact⟨i+1,P,C,R,oM,by go_num,aZ,aY⟩);exact oI
   (have aY:Ae (Ky w bB ⟨Z r1 p.az r3,Z k1 p.b8 k3,Z f1 p.aB f3,Z t1 p.bO t3⟩ ⟨Z X f.aD g3,Z g4 f.a7 g6,sO L O f.aU g9⟩ f (Z ba I bc) x QB Q f.aU B (N+(i+1)) (P.set ta V') ⟨Jd C t,Ec R ta n,D⟩ S V n T l E (sO gn on m.next xc)):=by have l1:=F.lo;have l2:=F.ty.ne;exact⟨aO,aH,cg,aF.eP F.xb oM,aF.eP F.rb oM,F.lo,F.sl⟩);(have aZ:Ae (OP I E ((m.next.map Int.toNat).drop (i+1)) n (Jd C t) (Ec R ta n) D aE):=by have:=OP.new (by rw[<-HN.1];exact HA) aM;rw[HN.2.2.2]at this;exact this);clear aO aH cg aF F n0 aM;go_wp2_with fail;go_roundw;(case rel=>exact⟨i+1,_,_,_,oM,by go_num,aZ,aY⟩);exact oI
  case neg=>have dL:i=m.next.length:=oM;(have aI:Ae (aE=.inr ⟨C,R,D⟩):=by have:=HA.o;have dh:(m.next.map Int.toNat).drop i=[]:=List.drop_eq_nil_of_le (by rw[kC];omega);rw[dh]at this;exact this.symm);have dj:¬(i:Int)<(m.next:Int):=oM;obtain⟨q0,U,q2,q3⟩:=CP F.rb;obtain⟨bQ,bS,bT,bV⟩:=Xu F.rb;go_wp2_with fail;have G:Ae _:=(((F.rb.set 0 (iZ (0))).set 1 (iZ (0))).set 2 (iZ 0)).set 3 sN;simp only[kB,kX,kU]at G;clear q0 U q2 q3;obtain⟨q0,U,q2,q3⟩:=CP G;refine kA (v:=An #[iZ (0),iZ (0),iZ 0,sN]) (by simp[results,results244,go_sem,q0,U,q2,q3]) rfl ?_;have l1:=F.lo;have l2:=F.ty.ne;have l3:=F.ty.lo;have db:=((((DX.refl (λk=>k=T+1) wr).setCell (ad:=⟨T+1,0,M⟩) (.inl rfl) (iZ 0)).setCell (ad:=⟨T+1,1,M⟩) (.inl rfl) (iZ 0)).setCell (ad:=⟨T+1,2,M⟩) (.inl rfl) (iZ 0)).setCell (ad:=⟨T+1,3,M⟩) (.inl rfl) sN;have dd:=F.ty.eX db (λk (e:k=T+1)=>oM) F.apX;rw[aI];exact⟨rfl,P,N+i,oM,dd⟩
end Go.Proofs.YtkgohaigebcgoaaGreatDoor
