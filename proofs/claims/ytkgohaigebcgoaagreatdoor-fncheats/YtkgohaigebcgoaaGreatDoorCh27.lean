import Derived.Test.YtkgohaigebcgoaaGreatDoorCh26
namespace Go.Proofs.YtkgohaigebcgoaaGreatDoor
open Go.ChangeShapes Go.WideShapes Go.ChangeAt Go.RowKit Go.Proofs.Tryz
set_option linter.unusedVariables false
open Go.Value renaming slice → Z,agg → An
open Option renaming some → K,none → M
open Go renaming Value → J,World → Y,Calls → Ai,TypeId → Aj
open Go.RowKit renaming Hid → Ae,Below → Ah
open Go.Ending renaming returned → Am
open Go.Proofs.Tryz renaming prog → Aq
open Go.World renaming setCell → Aa
set_option maxHeartbeats 8000000
set_option maxRecDepth 100000
variable {w u:Y}{b t a c j k l m n d e p B N S q y D:Nat}{f:MF}{g:VF}{v:VP}{s:WI}{V:J}{z:List Int}{C:Nat->Bool}{R:Nat->List Int}
theorem WZ{t:Aj}{a:Array J}(h:Ay w b a t):w.frozen? b=false/\w.frozen? ⟨b,1,M⟩=false/\w.frozen? ⟨b,2,M⟩=false/\w.frozen? ⟨b,3,M⟩=false:=⟨h.frozen 0,h.frozen 1,h.frozen 2,h.frozen 3⟩
theorem sJ{a c f x3 g j k l m n d e:J}{t:Aj}(h:Ay w b #[a,c,f,x3,g,j,k,l,m,n,d,e] t):w b=K a/\w ⟨b,1,M⟩=K c/\w ⟨b,2,M⟩=K f/\w ⟨b,3,M⟩=K x3/\w ⟨b,4,M⟩=K g/\w ⟨b,5,M⟩=K j/\w ⟨b,6,M⟩=K k/\w ⟨b,7,M⟩=K l/\w ⟨b,8,M⟩=K m/\w ⟨b,9,M⟩=K n/\w ⟨b,10,M⟩=K d/\w ⟨b,11,M⟩=K e:=⟨h.cell 0,h.cell 1,h.cell 2,h.cell 3,h.cell 4,h.cell 5,h.cell 6,h.cell 7,h.cell 8,h.cell 9,h.cell 10,h.cell 11⟩
structure Kq(w u:Y)(v:VP)(g:VF)(f:MF)(bv:J)(TB QB GS n B N:Nat)(RS:List J)(s:WI)(S:Nat)(V:J)(sh:List Int)(XB ma me:Nat)(nv:J):Prop where
 ty:Gg w u v g f bv TB QB GS n B N RS s
 st:Fg u S V sh
 ap:RQ RS (Ed S V)
 xb:Ay u XB #[ma,me,nv] 97
 rb:Ay u (XB+1) #[iZ 0,iZ 0,iZ 0,sN] 209
 lo:B<=XB/\XB+1<S
 sl: ↑sh<=s.d
theorem Kq.av{p:Y}{bv:J}{d:List J}{m:List Int}{nv:J}(h:Kq w u v g f bv e c b n B N d s S V m j k l nv)(a:Ah u u p):Kq w p v g f bv e c b n B N d s S V m j k l nv:=⟨h.ty.av a,h.st.av a,h.ap,h.xb.av a,h.rb.av a,h.lo,h.sl⟩
theorem Kq.jz{bv:J}{k:List J}{b:List Int}{nv:J}(h:Kq w u v g f bv m l e n B N k s S V b p q t nv){a:J}(y:Hf u B a b)(A:∀(i:Nat) (W:J),k[i]?=K W->∀g,a.ownBlock=K g->W.ownBlock≠K g)(z:∀g,a.ownBlock=K g->¬Ed S V g):Kq w (Aa u ⟨e,j,M⟩ a) v g f bv m l e n B N (k.set j a) ⟨s.c,ET s.r j b,s.d⟩ S V b p q t nv:=by obtain⟨E,F,G,H,I,L⟩:=h.ty.ne;obtain⟨C,D⟩:=h.lo;exact⟨h.ty.jz y (mC h.sl h.ty.dl) A,h.st.j8 oS _,h.ap.set z,h.xb.other oS _,h.rb.other oS _,h.lo,h.sl⟩
structure ud(w u:Y)(v:VP)(g:VF)(f:MF)(bv:J)(TB QB GS n B N:Nat)(RS:List J)(s:WI)(S:Nat)(XB ma me:Nat)(nv:J):Prop where
 ty:Gg w u v g f bv TB QB GS n B N RS s
 xb:Ay u XB #[ma,me,nv] 97
 rb:Ay u (XB+1) #[iZ 0,iZ 0,iZ 0,sN] 209
 lo:B<=XB/\XB+1<S
theorem Kq.gv{t:Y}{bv:J}{l:List J}{y:List Int}{r:Nat}{nv:J}(h:Kq w u v g f bv m j d n B N l s S V y p q r nv)(a:DT (Ed S V) u t):ud w t v g f bv m j d n B N l s S p q r nv:=by
 obtain⟨z,A⟩:=h.lo;have b:∀k,Ed S V k->S<=k:= λk c=>(Ed.ge h.st c).1
 exact⟨h.ty.gv a (λk c=>by have:=b k c;omega) h.ap,a.eI h.xb (λe=>by have:=b _ e;omega),a.eI h.rb (λe=>by have:=b _ e;omega),h.lo⟩
theorem ud.jp{bv:J}{a:List J}{nv:J}(h:ud w u v g f bv b k j n B N a s S l m p nv){e:List Int}(z:Fg u S V e)(q:RQ a (Ed S V))(t:d<=64)(y: ↑e<=d):Kq w (Aa u ⟨b,11,M⟩ d) v g f bv b k j n B N a ⟨s.c,s.r,d⟩ S V e l m p nv:=by obtain⟨D,E,F,G,H,I⟩:=h.ty.ne;obtain⟨A,C⟩:=h.lo;exact⟨h.ty.jp d t,z.j8 oS _,q,h.xb.other oS _,h.rb.other oS _,h.lo,y⟩
theorem Kq.apC{bv:J}{d:List J}{b:J}{nv:J}(h:Kq w u v g f bv m l k n B N d s S V z p t y nv)(r:b.ownBlock=V.ownBlock\/∀g,b.ownBlock=K g-> ↑u<=g):RQ d (Ed S b):= λj W e g c a=>by
 rcases a with rfl|a
 . exact h.ap j W e g c (.inl rfl)
 rcases r with q|q
 . exact h.ap j W e g c (.inr (by rw[<-q];exact a))
 have A:=q g a;have C:=((h.ty.rs j W e).lt g c).2;omega
theorem Gg.more{bv:J}{d:List J}(h:Gg w u v g f bv e c a n B N d s)(hN:N<=b):Gg w u v g f bv e c a n B b d s:=by obtain⟨j,D,k,l,m⟩:=h.mp;exact⟨h.tb,⟨j,D,k,mC l hN,m⟩,h.sa,h.sl,h.rs,h.cq,h.lo,h.ne,h.sz,h.dl,h.rl,h.ap⟩
theorem Kq.more{bv:J}{d:List J}{m:List Int}{nv:J}(h:Kq w u v g f bv e c a n B N d s S V m j k l nv)(hN:N<=b):Kq w u v g f bv e c a n B b d s S V m j k l nv:=⟨h.ty.more hN,h.st,h.ap,h.xb,h.rb,h.lo,h.sl⟩
theorem Kq.apX{bv:J}{b:List J}{nv:J}(h:Kq w u v g f bv m l d n B N b s S V z c t y nv):RQ b (λk=>k=c+1):= λj W e g a r=>by
 subst r;rcases(h.ty.rs j W e).2 with⟨q,_⟩|⟨C,cap,A,q,_,p,_⟩
 . subst q;cases a
 subst q;simp only[Value.ownBlock,lX]at a;subst a;have:=h.rb;unfold Ay at this;rw[p]at this;simp only[lX,nz]at this;exact absurd this.2.1 dC
def ThR(w:Y)(v:VP)(g:VF)(f:MF)(bv:J)(l j h n B N:Nat)(r:OQ)(e:Ending)(d:Y):Prop:=match r with
 |.inl (c,a)=>e=Am (An #[c,a,iZ 0,sN])/\c≠0/\Ah w w d
 |.inr s'=>e=Am (An #[iZ 0,iZ 0,iZ 0,sN])/\∃k b,b<=N+2/\Gg w d v g f bv l j h n B b k s'
theorem Qz{p:MP}{x:MI}{a:List Int}(h:Cd p f x a=0):(D9 p f x a).length<=64:=by
 unfold Cd at h;unfold D9;by_cases e:x.op=29
 . rw[mE e];simp
 rw[lY e]at h⊢;exact QA h
def OJ(b:List MB)(c:Nat)(nx:List Nat)(d:List Int)(C:Nat->Bool)(R:Nat->List Int)(D:Nat)(a:OQ):Prop:=(match EY b nx d C R with|none=>Sum.inl (4,c)|some (C',R')=>.inr ⟨C',R',D⟩)=a
theorem Rs{p:MP}{g:List MB}{m:MB}(h:m.cz=(a:Int))(j:m.last=(b:Int)):G6 p f g m s=(match El p f (b+1-a) a (s.r a) s.r s.d with|.inl e=>.inl e|.inr (sh,R,D)=>match EY g (m.next.map Int.toNat) sh s.c R with|none=>.inl (4,b)|some (C,R')=>.inr ⟨C,R',D⟩):=by unfold G6;have e:(m.last-m.cz+1).toNat=b+1-a:=oM;rw[e,h,j,lV,lV]<;>rfl
theorem OJ.same{a:List MB}{nx:List Nat}{b:List Int}{c:OQ}(h:OJ a d (t::nx) b C R D c)(e:C t=true)(f:R (Fs a t)=b):OJ a d nx b C R D c:=by unfold OJ at h⊢;rw[EY,mE e,mE f]at h;exact h
theorem OJ.bad{b:List MB}{nx:List Nat}{d:List Int}{a:OQ}(h:OJ b c (t::nx) d C R D a)(e:C t=true)(f:¬R (Fs b t)=d):a=.inl (4,c):=by unfold OJ at h;rw[EY,mE e,lY f]at h;exact h.symm
theorem OJ.new{a:List MB}{nx:List Nat}{b:List Int}{c:OQ}(h:OJ a d (t::nx) b C R D c)(e:C t=false):OJ a d nx b (Ja C t) (ET R (Fs a t) b) D c:=by unfold OJ at h⊢;rw[EY,lY (by rw[e];decide)]at h;exact h
theorem RA(w u:Y)(v:VP)(p:MP)(g:VF)(f:MF)(bv nv:J)(A QB T B N:Nat)(Q:List J)(s:WI)(L:List MB)(b:Nat)(m:MB)(l I:Nat)(h:Gg w u v g f bv A QB T f.aU B N Q s)(aG:P6 w v p g f)(hb:KQ w bv L)(hB:PQ f.aU L)(hm:L[b]?=K m)(cQ:m.cz=(l:Int))(cR:m.last=(I:Int))(bu:Rd w 1 nv m.next (m.next.flatMap At))(dN:m.next.length<=2)(cT:∀z∈m.next,∃t:Nat,z=(t:Int)/\t< ↑L)(df:L.length<=1024)(hN:N<=4000)(cM:(s.r l).length<=s.d):
 Ai Aq 244 #[.pointer A,An #[l,I,nv]] u (ThR w v g f bv A QB T f.aU B N (G6 p f L m s)):=by
 obtain⟨r1,r3,k1,k3,t1,t3,f1,f3,rfl⟩:=aG.rp.sl;obtain⟨g1,g3,g4,g6,g7,g9,rfl⟩:=GU aG.rf;obtain⟨xa,xc,rfl⟩:=bu.aD;obtain⟨ba,bc,rfl⟩:∃a c,bv=Z a L c:=by obtain⟨_,_,h2,_⟩:=hb;exact h2.aD
 obtain⟨a',e',X,q2,dH,dj⟩:=hB.part b m hm;have ea:l=a':=oM;have ee:I=e':=oM;subst ea ee;clear X q2;obtain⟨O,P,ci,ei,_⟩:=Xg aG.rf.2.2 (an dj);simp only[lU,mj]at ei;obtain⟨rfl,rfl⟩:=ei;have dg:f.aU.length<=1024:=aG.cl;obtain⟨aE,bq⟩:∃R,R=G6 p f L m s:=⟨_,rfl⟩;rw[<-bq];have bH:=Aw bq.symm;clear bq;have H:=Aw (lN aG (lN hb (lN bu (lN cT hB))));have HM:=Aw (lN cQ cR);have HL:=Aw cM;have HT:=Aw h;clear aG hb bu cT hB cQ cR cM hm h;have E0:=Bw u #[l,I,(Z xa m.next xc)] #[iZ 0,iZ 0,iZ 0,sN] 97 209;go_enter func244,ntmps244;go_upto_region 1 with fail
 refine Av (λu'=>Ae (Ay u' u #[l,I,(Z xa m.next xc)] 97/\Ay u' ((u:Nat)+1) #[iZ 0,iZ 0,iZ 0,sN] 209/\Gg w u' ⟨Z r1 p.az r3,Z k1 p.b8 k3,Z f1 p.aC f3,Z t1 p.bO t3⟩ ⟨Z g1 f.aP g3,Z g4 f.aB g6,sO O P f.aU g9⟩ f (Z ba L bc) A QB T f.aU B N Q s)) ⟨E0.1,E0.2.1,HT.av E0.2.2⟩ ?_
 rintro U0 E1;have ce:B<=u.heap.size:=HT.sz;generalize u.heap.size=U at E1 ce⊢;clear E0 HT;clear u;obtain⟨V0,br⟩:∃V,Q[l]?=K V:=⟨_,an (by rw[E1.2.2.sl];omega)⟩;have bx:=E1.2.2.rs l V0 br;obtain⟨va,vc,d8⟩:=AF bx;subst d8;have aa:=Aw (lN (E1.1.av (As _)) (lN (E1.2.1.av (As _)) (lN (E1.2.2.av (As _)) (lN (bx.av (As _)) br))));have dQ:(l:Int)<(f.aU:Int):=oM;clear bx br E1;have bi:U0.drew ⟨A,10,M⟩=K (sG T f.aU f.aU):=aa.2.2.1.tb.cell 10;have b0:U0.drew U=K ↑l:=aa.1.cell 0
 have b1:U0.drew ⟨T,l,M⟩=K (Z va (s.r l).length vc):=by have:=aa.2.2.1.sa.cellAt l oM;rw[aa.2.2.2.2]at this;exact this
 refine wp_region_held_drew (S:= λE=>E ⟨A,10,M⟩=K (sG T f.aU f.aU)/\E U=K ↑l/\E ⟨T,l,M⟩=K (Z va (s.r l).length vc)) kR ⟨bi,b0,b1⟩ (λaq=> ?_)
 refine AU 0 ?_;refine AU 1 ?_;refine AU 2 ?_;refine AU 3 ?_;refine AU 4 ?_;refine AU 5 ?_;refine AU 6 ?_;refine AU 7 ?_;refine DO 8 ?_;intro KC ae;go_simp;refine(Rx (Z va (s.r l).length vc) (s.r l) U0.drew (Rd.eP aa.2.2.2.1) (by have:=aa.2.2.1.rl l;omega)).mono ?_;rintro e u1 ⟨rfl,⟨V,aH⟩,aA⟩;have F1:Ae (Kq w u1 ⟨Z r1 p.az r3,Z k1 p.b8 k3,Z f1 p.aC f3,Z t1 p.bO t3⟩ ⟨Z g1 f.aP g3,Z g4 f.aB g6,sO O P f.aU g9⟩ f (Z ba L bc) A QB T f.aU B N Q s U0.drew V (s.r l) U l I (Z xa m.next xc)):=by have hx:=aa.2.1.lt;refine⟨aa.2.2.1.av aA,aH, λj W e g hg hr=> ?_,aa.1.av aA,aa.2.1.av aA,⟨ce,hx⟩,HL⟩;have h1:=(Ed.ge aH hr).1;have h2:=((aa.2.2.1.rs j W e).lt g hg).2;omega
 have K1:u1 ⟨A,10,M⟩=K (sG T f.aU f.aU)/\u1 U=K ↑l/\u1 ⟨T,l,M⟩=K (Z va (s.r l).length vc):=⟨Au aA bi,Au aA b0,Au aA b1⟩
 clear aH aA;go_simp;refine ae.o _ _ K1 (λaq=> ?_);clear ae KC;refine AU 9 ?_;refine wpAnyH_done kR ?_ _;clear aq K1 bi b0 b1 aa HL;go_upto_region 2 with fail
 refine Av (λu'=>Ae (Kq w u' ⟨Z r1 p.az r3,Z k1 p.b8 k3,Z f1 p.aC f3,Z t1 p.bO t3⟩ ⟨Z g1 f.aP g3,Z g4 f.aB g6,sO O P f.aU g9⟩ f (Z ba L bc) A QB T f.aU B N Q s U0.drew V (s.r l) U l I (Z xa m.next xc))) F1 ?_;clear F1;rintro U1 F1;have cK:(U0.drew:Nat)=U0.heap.size:=rfl;rw[cK]at F1;clear cK;generalize U0.heap.size=S at F1⊢;obtain⟨R0,bY⟩:∃R,R=El p f (I+1-l) l (s.r l) s.r s.d:=⟨_,rfl⟩;have aR:=Aw bY.symm;clear bY;obtain⟨x0,x1,x2⟩:=CI F1.xb;go_wp2_with fail;clear x0 x1 x2;go_loopw [6] (λi wr=>∃(d:Nat) (Q:List J) (n:List Int) (R:Nat->List Int) (D:Nat) (V:J),l<=d/\d<=I+1/\i=iZ d/\Ae (El p f (I+1-d) d n R D=R0)/\Ae (Kq w wr ⟨Z r1 p.az r3,Z k1 p.b8 k3,Z f1 p.aC f3,Z t1 p.bO t3⟩ ⟨Z g1 f.aP g3,Z g4 f.aB g6,sO O P f.aU g9⟩ f (Z ba L bc) A QB T f.aU B N Q ⟨s.c,R,D⟩ S V n U l I (Z xa m.next xc))) (λi _=>I+1-(intOf i).toNat)
 case atStart=>exact⟨l,Q,_,s.r,s.d,V,oM,oM,rfl,aR,F1⟩
 case round=>
 clear F1;clear V Q;obtain⟨d,Q,n,R,D,V,dJ,dK,rfl,HK,F⟩:=hrel;have dP:n.length<=64:=mC F.sl F.ty.dl;obtain⟨x0,x1,x2⟩:=CI F.xb;by_cases dt:d<=I;case pos=>
  have du:(d:Int)<=(I:Int):=oM;have dL:(d:Int)<(f.aU:Int):=oM;obtain⟨y,hy⟩:∃y,f.aU[d]?=K y:=⟨_,an oM⟩;have HY:=Aw hy;clear hy;go_upto_region 5 with fail
  clear x0 x1 x2;have ax:=Aw (F.av (As _));clear F;have bo:wr.drew ⟨A,10,M⟩=K (sG T f.aU f.aU):=ax.ty.tb.cell 10;refine wp_region_held_drew (S:= λE=>E ⟨A,10,M⟩=K (sG T f.aU f.aU)) kR bo (λaq=> ?_);refine AU 0 ?_;refine AU 1 ?_;refine AU 2 ?_;refine AU 3 ?_;refine AU 4 ?_;refine AU 5 ?_;refine DO 6 ?_;intro KC ae;go_simp;refine(Oe S V n wr.drew ax.st oM).mono ?_;rintro e u3 ⟨a3,c3,rfl,aX,b3⟩;have H3:=Aw (ax.av b3);have aS:Ae (Hf u3 B (Z a3 n c3) n/\(∀(i:Nat) (W:J),Q[i]?=K W->∀g,(Z a3 n c3).ownBlock=K g->W.ownBlock≠K g)/\∀g,(Z a3 n c3).ownBlock=K g->¬Ed S V g):=by
   refine⟨Bm aX ax.ty.sz, λi W e g hg e2=> ?_, λg hg e2=> ?_⟩
   . have h1:=(aX.lt g hg).1;have h2:=((ax.ty.rs i W e).lt g e2).2;omega
   have h1:=(aX.lt g hg).1;have h2:=(Ed.ge ax.st e2).2;omega
  clear aX b3;go_simp;refine ae.o _ _ (by have:=H3.ty.tb.cell 10;exact this) (λaq=> ?_);clear ae KC;refine AU 7 ?_;refine DO 8 ?_;intro KC ae;have bJ:=H3.ty.sa.cellAt d oM;have dA:=H3.ty.sa.frozenAt d;obtain⟨V1,bZ⟩:∃V,Q[d]?=K V:=⟨_,an (by rw[H3.ty.sl];omega)⟩;rw[bZ]at bJ;have H4:Ae (Kq w (Aa u3 ⟨T,d,M⟩ (Z a3 n c3)) ⟨Z r1 p.az r3,Z k1 p.b8 k3,Z f1 p.aC f3,Z t1 p.bO t3⟩ ⟨Z g1 f.aP g3,Z g4 f.aB g6,Z (K ⟨O,P,M⟩) f.aU g9⟩ f (Z ba L bc) A QB T f.aU B N (Q.set d (Z a3 n c3)) ⟨s.c,ET R d n,D⟩ S V n U l I (Z xa m.next xc)):=H3.jz aS.1 aS.2.1 aS.2.2;go_simp;refine ae.o _ _ (by have:=H4.ty.tb.cell 10;exact this) (λaq=> ?_);clear ae KC;refine wpAnyH_done kR ?_ _;clear aq bo bJ dA bZ aS H3 ax;go_upto_region 6 with fail
  refine Av (λu'=>Ae (Kq w u' ⟨Z r1 p.az r3,Z k1 p.b8 k3,Z f1 p.aC f3,Z t1 p.bO t3⟩ ⟨Z g1 f.aP g3,Z g4 f.aB g6,sO O P f.aU g9⟩ f (Z ba L bc) A QB T f.aU B N (Q.set d (Z a3 n c3)) ⟨s.c,ET R d n,D⟩ S V n U l I (Z xa m.next xc))) H4 ?_;clear H4;rintro U5 F5;generalize Q.set d (Z a3 n c3)=bg at F5;have aj:=Aw (F5.av (As _));clear F5;have bG:Ae (∀u',Ah w w u'->u' ⟨O,P+d*4,M⟩=K ↑y.op/\u' ⟨O,P+d*4+1,M⟩=K ↑y.a/\u' ⟨O,P+d*4+2,M⟩=K ↑y.b/\u' ⟨O,P+d*4+3,M⟩=K ↑y.c):= λu' hu=>by obtain⟨dF,dR,dB,bP,j0,j1,j2,j3⟩:=Xg H.1.rf.2.2 HY;simp only[lU,lX,ny,mj,oZ]at bP;obtain⟨⟨rfl,rfl⟩,_⟩:=bP;exact⟨Au hu j0,Au hu j1,Au hu j2,Au hu j3⟩
  have KS:∀{E:Y} {D':WI} {cY:List J},Gg w E ⟨Z r1 p.az r3,Z k1 p.b8 k3,Z f1 p.aC f3,Z t1 p.bO t3⟩ ⟨Z g1 f.aP g3,Z g4 f.aB g6,sO O P f.aU g9⟩ f (Z ba L bc) A QB T f.aU B N cY D'->E A=K (Z r1 p.az r3)/\E ⟨A,1,M⟩=K (Z k1 p.b8 k3)/\E ⟨A,2,M⟩=K (Z f1 p.aC f3)/\E ⟨A,3,M⟩=K (Z t1 p.bO t3)/\E ⟨A,4,M⟩=K (Z g1 f.aP g3)/\E ⟨A,5,M⟩=K ↑f.cu/\E ⟨A,6,M⟩=K (Z g4 f.aB g6)/\E ⟨A,7,M⟩=K (sO O P f.aU g9)/\E ⟨O,P+d*4,M⟩=K ↑y.op/\E ⟨O,P+d*4+1,M⟩=K ↑y.a/\E ⟨O,P+d*4+2,M⟩=K ↑y.b/\E ⟨O,P+d*4+3,M⟩=K ↑y.c:= λaO=>by obtain⟨j0,j1,j2,j3⟩:=bG.o _ aO.cq;obtain⟨q0,X,q2,q3,q4,q5,q6,q7,_⟩:=sJ aO.tb;exact⟨q0,X,q2,q3,q4,q5,q6,q7,j0,j1,j2,j3⟩
  refine wp_region_held_drew (S:= λE=>E A=K (Z r1 p.az r3)/\E ⟨A,1,M⟩=K (Z k1 p.b8 k3)/\E ⟨A,2,M⟩=K (Z f1 p.aC f3)/\E ⟨A,3,M⟩=K (Z t1 p.bO t3)/\E ⟨A,4,M⟩=K (Z g1 f.aP g3)/\E ⟨A,5,M⟩=K ↑f.cu/\E ⟨A,6,M⟩=K (Z g4 f.aB g6)/\E ⟨A,7,M⟩=K (sO O P f.aU g9)/\E ⟨O,P+d*4,M⟩=K ↑y.op/\E ⟨O,P+d*4+1,M⟩=K ↑y.a/\E ⟨O,P+d*4+2,M⟩=K ↑y.b/\E ⟨O,P+d*4+3,M⟩=K ↑y.c) kR (KS aj.ty) (λaq=> ?_)
  refine AU 0 ?_;refine AU 1 ?_;refine AU 2 ?_;refine AU 3 ?_;refine AU 4 ?_;refine AU 5 ?_;refine AU 6 ?_;refine AU 7 ?_;refine AU 8 ?_;refine AU 9 ?_;refine AU 10 ?_;refine AU 11 ?_;refine AU 12 ?_;refine AU 13 ?_;refine DO 14 ?_;intro KC ae;go_simp;refine(Sm ⟨Z r1 p.az r3,Z k1 p.b8 k3,Z f1 p.aC f3,Z t1 p.bO t3⟩ p ⟨Z g1 f.aP g3,Z g4 f.aB g6,sO O P f.aU g9⟩ f y S V n w U5.drew H.1.ps H.1.pf H.1.fs H.1.rp H.1.rf (H.1.ok y (lP HY)) (by have:=aj.lo;have:=aj.ty.lo;have:=aj.ty.ne;omega) aj.ty.cq aj.st oM).mono ?_;rintro e u6 ⟨rfl,aF,cW⟩;have F6:=Aw (aj.gv aF);have aK:Ae (Cd p f y n=0->∃V',Fg u6 S V' (D9 p f y n)/\RQ bg (Ed S V')):= λe=>by obtain⟨V',h1,h2⟩:=cW e;exact⟨V',h1,aj.apC h2⟩
  clear aF cW;go_simp;refine ae.o _ _ (KS F6.ty) (λaq=> ?_);clear ae KC;refine AU 15 ?_;refine wpAnyH_done kR ?_ _;clear aq aj KS bG;have au:El p f (I+1-d) d n R D=R0:=HK.o;rw[VE HY dt]at au;have aJ:Ae (Cd p f y n=0->(D9 p f y n).length<=64):=Qz;generalize Cd p f y n=cc at aK au aJ⊢;generalize D9 p f y n=oo at aK au aJ⊢;by_cases aT:cc=0;case neg=>(have dI:(cc != 0)=true:=by simpa using aT);(have aI:Ae (aE=.inl (cc,d)):=by rw[<-bH,Rs HM.1 HM.2,aR.o,<-au,lY aT]<;>rfl);clear au aK aJ;obtain⟨q0,X,q2,q3⟩:=Cv F6.rb;obtain⟨bQ,bS,bT,bV⟩:=WZ F6.rb;go_wp2_with fail;have G:Ae _:=(((F6.rb.set 0 (iZ (cc))).set 1 (iZ ((d:Int)))).set 2 (iZ 0)).set 3 sN;simp only[mO,mi,mh]at G;clear q0 X q2 q3;obtain⟨q0,X,q2,q3⟩:=Cv G;refine mM (v:=An #[iZ (cc),iZ ((d:Int)),iZ 0,sN]) (by simp[results,results244,go_sem,q0,X,q2,q3]) rfl ?_;have bt:=F6.ty.cq;have l1:=F6.lo;have l2:=F6.ty.ne;have l3:=F6.ty.lo;rw[aI];exact⟨rfl,aT,((((bt.setCell oS _).setCell oS _).setCell oS _).setCell oS _)⟩
  case pos=>
   subst aT;rw[mE rfl]at au;have cX:Ae _:=au;obtain⟨V6,cU,cH⟩:=aK.o rfl;have bf:=Aw (lN cU cH);have dO:oo.length<=64:=aJ.o rfl;have dG:D<=64:=F6.ty.dl;clear au cU cH aK aJ;have cZ:=(F6.ty.av (As _)).tb.cell 11;simp only[lQ,lO,lS]at cZ;have dS:=(F6.ty.av (As _)).tb.frozen 11;(have F9:Ae (Kq w (Aa u6 ⟨A,11,M⟩ (iZ (max (D:Int) (oo:Int)))).drew ⟨Z r1 p.az r3,Z k1 p.b8 k3,Z f1 p.aC f3,Z t1 p.bO t3⟩ ⟨Z g1 f.aP g3,Z g4 f.aB g6,sO O P f.aU g9⟩ f (Z ba L bc) A QB T f.aU B N bg ⟨s.c,ET R d n,max D oo⟩ S V6 oo U l I (Z xa m.next xc)):=by have dv:max (D:Int) (oo:Int)=((max D oo:Nat):Int):=oM;rw[dv];exact(F6.jp bf.1 bf.2 oM oM).av (As _));(go_upto_region 9 with fail);go_region_with (go_at_call 248;refine(Ft S V6 oo u6.drew (bf.1.av (As _))).mono ?_;rintro e u7 ⟨rfl,rfl⟩);all_goals
    go_wp2_with fail;go_roundw;(case rel=>exact⟨d+1,bg,oo,ET R d n,max D oo,V6,oM,oM,by go_num,cX,F9⟩);exact oI
 case neg=>
  have dh:d=I+1:=oM;have du:¬(d:Int)<=(I:Int):=oM;have bC:Ae (OJ L I ((m.next.map Int.toNat).drop 0) n s.c R D aE):=by have e:=HK.o;rw[X3 dh]at e;show OJ L I ((m.next.map Int.toNat).drop 0) n s.c R D aE;unfold OJ;rw[List.drop_zero,<-bH,Rs HM.1 HM.2,aR.o,<-e]<;>rfl
  clear HK aR;go_wp2_with fail;clear x0 x1 x2;go_loopw [68] (λq wr=>∃(i:Nat) (Q:List J) (C:Nat->Bool) (R:Nat->List Int),i<= ↑m.next/\q=iZ i/\Ae (OJ L I ((m.next.map Int.toNat).drop i) n C R D aE)/\Ae (Kq w wr ⟨Z r1 p.az r3,Z k1 p.b8 k3,Z f1 p.aC f3,Z t1 p.bO t3⟩ ⟨Z g1 f.aP g3,Z g4 f.aB g6,sO O P f.aU g9⟩ f (Z ba L bc) A QB T f.aU B (N+i) Q ⟨C,R,D⟩ S V n U l I (Z xa m.next xc))) (λq _=> ↑m.next-(intOf q).toNat)
  case atStart=>exact⟨0,Q,s.c,R,oM,rfl,bC,F⟩
  case round=>
  clear F bC;clear R Q;obtain⟨i,Q,C,R,hi,rfl,HA,F⟩:=hrel;by_cases dq:i< ↑m.next
  case pos=>
   obtain⟨z,hz⟩:∃z,m.next[i]?=K z:=⟨_,an dq⟩;obtain⟨t,db,dx⟩:=H.2.2.2.1 z (lP hz);subst db;rcases H.2.2.1.2 with⟨q0,_⟩|⟨gn,on,cn,X,cJ⟩
   . omega
   simp only[lU,mj]at X;obtain⟨dy,dz⟩:=X;subst dy;clear dz;have n0:=Rd.elem AE cJ i _ hz 0 _ rfl;rw[nX,mL,<-F.ty.cq.cell (lT n0)]at n0;obtain⟨m1,aW⟩:∃m,L[t]?=K m:=⟨_,an dx⟩;obtain⟨ta,te,bj,d9,dD,dE⟩:=H.2.2.2.2.part t m1 aW;have HN:Ae ((m.next.map Int.toNat).drop i=t::(m.next.map Int.toNat).drop (i+1)/\L[t]?=K m1/\m1.cz=(ta:Int)/\Fs L t=ta):=⟨TF (by rw[mN,hz];simp),aW,bj,Jo aW bj⟩
   clear cJ hz aW bj d9;have dm:(i:Int)<(m.next:Int):=oM;have dw:n.length<=64:=mC F.sl F.ty.dl;go_wp2_with fail;refine(QC w wr ⟨Z r1 p.az r3,Z k1 p.b8 k3,Z f1 p.aC f3,Z t1 p.bO t3⟩ ⟨Z g1 f.aP g3,Z g4 f.aB g6,sO O P f.aU g9⟩ f (Z ba L bc) A QB T f.aU B (N+i) Q ⟨C,R,D⟩ L S V n t ta m1 F.ty H.2.1 HN.2.1 HN.2.2.1 oM dg df oM F.st (by have:=F.lo;omega) F.ap dw).mono ?_;rintro e bB (⟨aM,bb,rfl,cI,bI⟩|⟨aM,rfl,V',aO,aH,cj,aF⟩)
   . have ai:Ae (Kq w bB ⟨Z r1 p.az r3,Z k1 p.b8 k3,Z f1 p.aC f3,Z t1 p.bO t3⟩ ⟨Z g1 f.aP g3,Z g4 f.aB g6,sO O P f.aU g9⟩ f (Z ba L bc) A QB T f.aU B (N+i) Q ⟨C,R,D⟩ S V n U l I (sO gn on m.next xc)):=F.av bI;have aQ:=Aw (lN cI aM);clear cI aM bI F n0;(cases bb);(case false=>have aI:=Aw (OJ.bad (by rw[<-HN.1];exact HA) aQ.2 (λe=>by rw[HN.2.2.2]at e;have:=aQ.1.2 e.symm;cases this));obtain⟨x0,x1,x2⟩:=CI ai.xb;obtain⟨q0,X,q2,q3⟩:=Cv ai.rb;obtain⟨bQ,bS,bT,bV⟩:=WZ ai.rb;go_wp2_with fail;have G:Ae _:=(((ai.rb.set 0 (iZ (4))).set 1 (iZ ((I:Int)))).set 2 (iZ 0)).set 3 sN;simp only[mO,mi,mh]at G;clear q0 X q2 q3;obtain⟨q0,X,q2,q3⟩:=Cv G;refine mM (v:=An #[iZ (4),iZ ((I:Int)),iZ 0,sN]) (by simp[results,results244,go_sem,q0,X,q2,q3]) rfl ?_;have bt:=ai.ty.cq;have l1:=ai.lo;have l2:=ai.ty.ne;have l3:=ai.ty.lo;rw[aI];exact⟨rfl,dC,((((bt.setCell oS _).setCell oS _).setCell oS _).setCell oS _)⟩);case true=>have aZ:=Aw (OJ.same (by rw[<-HN.1];exact HA) aQ.2 (by rw[HN.2.2.2];exact(aQ.1.1 rfl).symm));have aY:Ae (Kq w bB ⟨Z r1 p.az r3,Z k1 p.b8 k3,Z f1 p.aC f3,Z t1 p.bO t3⟩ ⟨Z g1 f.aP g3,Z g4 f.aB g6,Z (K ⟨O,P,M⟩) f.aU g9⟩ f (Z ba L bc) A QB T f.aU B (N+(i+1)) Q ⟨C,R,D⟩ S V n U l I (Z (K ⟨gn,on,M⟩) m.next xc)):=ai.more oM;go_wp2_with fail;go_roundw;(case rel=>exact⟨i+1,Q,C,R,oM,by go_num,aZ,aY⟩);exact oI
   (have aY:Ae (Kq w bB ⟨Z r1 p.az r3,Z k1 p.b8 k3,Z f1 p.aC f3,Z t1 p.bO t3⟩ ⟨Z g1 f.aP g3,Z g4 f.aB g6,sO O P f.aU g9⟩ f (Z ba L bc) A QB T f.aU B (N+(i+1)) (Q.set ta V') ⟨Ja C t,ET R ta n,D⟩ S V n U l I (sO gn on m.next xc)):=by have l1:=F.lo;have l2:=F.ty.ne;exact⟨aO,aH,cj,aF.eI F.xb oM,aF.eI F.rb oM,F.lo,F.sl⟩);(have aZ:Ae (OJ L I ((m.next.map Int.toNat).drop (i+1)) n (Ja C t) (ET R ta n) D aE):=by have:=OJ.new (by rw[<-HN.1];exact HA) aM;rw[HN.2.2.2]at this;exact this);clear aO aH cj aF F n0 aM;go_wp2_with fail;go_roundw;(case rel=>exact⟨i+1,_,_,_,oM,by go_num,aZ,aY⟩);exact oI
  case neg=>have dM:i=m.next.length:=oM;(have aI:Ae (aE=.inr ⟨C,R,D⟩):=by have:=HA.o;have di:(m.next.map Int.toNat).drop i=[]:=List.drop_eq_nil_of_le (by rw[mQ];omega);rw[di]at this;exact this.symm);have dm:¬(i:Int)<(m.next:Int):=oM;obtain⟨q0,X,q2,q3⟩:=Cv F.rb;obtain⟨bQ,bS,bT,bV⟩:=WZ F.rb;go_wp2_with fail;have G:Ae _:=(((F.rb.set 0 (iZ (0))).set 1 (iZ (0))).set 2 (iZ 0)).set 3 sN;simp only[mO,mi,mh]at G;clear q0 X q2 q3;obtain⟨q0,X,q2,q3⟩:=Cv G;refine mM (v:=An #[iZ (0),iZ (0),iZ 0,sN]) (by simp[results,results244,go_sem,q0,X,q2,q3]) rfl ?_;have l1:=F.lo;have l2:=F.ty.ne;have l3:=F.ty.lo;have dd:=((((DT.refl (λk=>k=U+1) wr).setCell (ad:=⟨U+1,0,M⟩) (.inl rfl) (iZ 0)).setCell (ad:=⟨U+1,1,M⟩) (.inl rfl) (iZ 0)).setCell (ad:=⟨U+1,2,M⟩) (.inl rfl) (iZ 0)).setCell (ad:=⟨U+1,3,M⟩) (.inl rfl) sN;have de:=F.ty.gv dd (λk (e:k=U+1)=>oM) F.apX;rw[aI];exact⟨rfl,Q,N+i,oM,de⟩
end Go.Proofs.YtkgohaigebcgoaaGreatDoor
