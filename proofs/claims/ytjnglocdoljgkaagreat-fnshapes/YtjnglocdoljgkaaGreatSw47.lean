import Derived.Test.YtjnglocdoljgkaaGreatSw46
namespace Go.Proofs.YtjnglocdoljgkaaGreat
open Go.ChangeShapes Go.WideShapes Go.ChangeAt Go.RowKit
set_option linter.unusedVariables false
open Go.Value renaming slice → Z,int → Ac
open Option renaming some → K,none → M
open Go renaming Value → J,World → Y,Calls → Ae,TypeId → Af
open Go.RowKit renaming Hid → Aa,Below → Ad
open Go.IntKind renaming i64 → Ab
set_option maxHeartbeats 8000000
set_option maxRecDepth 100000
variable {w u:Y}{b t i j k S me D:Nat}{a e:List J}{g:VF}{f:MF}{v:VP}{s:WI}{V V':J}{sh:List Int}{p:MP}{C:Nat->Bool}{R:Nat->List Int}
theorem Qj{t:Af}{a:Array J}(h:Ar w b a t):w.frozen? b=false/\w.frozen? ⟨b,1,M⟩=false/\w.frozen? ⟨b,2,M⟩=false/\w.frozen? ⟨b,3,M⟩=false:=⟨h.frozen 0,h.frozen 1,h.frozen 2,h.frozen 3⟩
theorem XL{a x1 x2 x3 g i j k l m e f:J}{t:Af}(h:Ar w b #[a,x1,x2,x3,g,i,j,k,l,m,e,f] t):w.cell? b=K a/\w.cell? ⟨b,1,M⟩=K x1/\w.cell? ⟨b,2,M⟩=K x2/\w.cell? ⟨b,3,M⟩=K x3/\w.cell? ⟨b,4,M⟩=K g/\w.cell? ⟨b,5,M⟩=K i/\w.cell? ⟨b,6,M⟩=K j/\w.cell? ⟨b,7,M⟩=K k/\w.cell? ⟨b,8,M⟩=K l/\w.cell? ⟨b,9,M⟩=K m/\w.cell? ⟨b,10,M⟩=K e/\w.cell? ⟨b,11,M⟩=K f:=⟨h.cell 0,h.cell 1,h.cell 2,h.cell 3,h.cell 4,h.cell 5,h.cell 6,h.cell 7,h.cell 8,h.cell 9,h.cell 10,h.cell 11⟩
structure IR(w u:Y)(v:VP)(g:VF)(f:MF)(bv:J)(TB QB GS n B N:Nat)(RS:List J)(s:WI)(S:Nat)(V:J)(sh:List Int)(XB ma me:Nat)(nv:J):Prop where
 ty:Ff w u v g f bv TB QB GS n B N RS s
 st:Du u S V sh
 ap:NL RS (Dl S V)
 xb:Ar u XB #[Ac Ab (ma:Int),Ac Ab (me:Int),nv] 58
 rb:Ar u (XB+1) #[Ac Ab 0,Ac Ab 0,Ac Ab 0,Z M 0 0] 32
 lo:B<=XB/\XB+1<S
 sl: ↑sh<=s.d
theorem IR.bM{l:Y}{bv:J}{i b GS n B N:Nat}{nv:J}(h:IR w u v g f bv i b GS n B N e s S V sh j k me nv)(a:Ad u u l):IR w l v g f bv i b GS n B N e s S V sh j k me nv:=⟨h.ty.bM a,h.st.bM a,h.ap,h.xb.bM a,h.rb.bM a,h.lo,h.sl⟩
theorem IR.jf{bv:J}{e b GS n B N:Nat}{l:Nat}{nv:J}(h:IR w u v g f bv e b GS n B N a s S V sh k l me nv)(m:Cm u B V' sh)(q:∀(i:Nat) (W:J),a[i]?=K W->∀g,V'.ownBlock=K g->W.ownBlock≠K g)(p:∀g,V'.ownBlock=K g->¬Dl S V g):IR w (u.setCell ⟨GS,j,M⟩ V') v g f bv e b GS n B N (a.set j V') ⟨s.c,CE s.r j sh,s.d⟩ S V sh k l me nv:=by obtain⟨z,A,C,D,E,F⟩:=h.ty.ne;obtain⟨t,y⟩:=h.lo;exact⟨h.ty.jf m (kT h.sl h.ty.dl) q,h.st.iX oS _,h.ap.set p,h.xb.other oS _,h.rb.other oS _,h.lo,h.sl⟩
structure Yi(w u:Y)(v:VP)(g:VF)(f:MF)(bv:J)(TB QB GS n B N:Nat)(RS:List J)(s:WI)(S:Nat)(XB ma me:Nat)(nv:J):Prop where
 ty:Ff w u v g f bv TB QB GS n B N RS s
 xb:Ar u XB #[Ac Ab (ma:Int),Ac Ab (me:Int),nv] 58
 rb:Ar u (XB+1) #[Ac Ab 0,Ac Ab 0,Ac Ab 0,Z M 0 0] 32
 lo:B<=XB/\XB+1<S
theorem IR.io{r:Y}{bv:J}{m j GS n B N:Nat}{l:List J}{p q:Nat}{nv:J}(h:IR w u v g f bv m j GS n B N l s S V sh p q me nv)(a:DV (Dl S V) u r):Yi w r v g f bv m j GS n B N l s S p q me nv:=by
 obtain⟨t,y⟩:=h.lo;have b:∀k,Dl S V k->S<=k:= λk i=>(Dl.ge h.st i).1
 exact⟨h.ty.io a (λk i=>by have:=b k i;omega) h.ap,a.gR h.xb (λe=>by have:=b _ e;omega),a.gR h.rb (λe=>by have:=b _ e;omega),h.lo⟩
theorem Yi.jq{bv:J}{b e GS n B N:Nat}{nv:J}(h:Yi w u v g f bv b e GS n B N a s S i j me nv)(p:Du u S V sh)(k:NL a (Dl S V)){d:Nat}(l:d<=64)(m: ↑sh<=d):IR w (u.setCell ⟨b,11,M⟩ (Ac Ab (d:Int))) v g f bv b e GS n B N a ⟨s.c,s.r,d⟩ S V sh i j me nv:=by obtain⟨y,z,A,C,D,E⟩:=h.ty.ne;obtain⟨q,t⟩:=h.lo;exact⟨h.ty.jq d l,p.iX oS _,k,h.xb.other oS _,h.rb.other oS _,h.lo,m⟩
theorem IR.apC{bv:J}{l k GS n B N:Nat}{i:List J}{m r:Nat}{nv:J}(h:IR w u v g f bv l k GS n B N i s S V sh m r me nv)(p:V'.ownBlock=V.ownBlock\/∀g,V'.ownBlock=K g-> ↑u<=g):NL i (Dl S V'):= λj W e g b a=>by
 rcases a with rfl|a
 . exact h.ap j W e g b (.inl rfl)
 rcases p with q|q
 . exact h.ap j W e g b (.inr (by rw[<-q];exact a))
 have h1:=q g a;have h2:=((h.ty.rs j W e).lt g b).2;omega
theorem Ff.more{bv:J}{i b GS n B N a:Nat}(h:Ff w u v g f bv i b GS n B N e s)(l:N<=a):Ff w u v g f bv i b GS n B a e s:=by obtain⟨j,D,h1,h2,k⟩:=h.mp;exact⟨h.tb,⟨j,D,h1,kT h2 l,k⟩,h.sa,h.sl,h.rs,h.gG,h.lo,h.ne,h.sz,h.dl,h.rl,h.ap⟩
theorem IR.more{bv:J}{i b GS n B N a:Nat}{nv:J}(h:IR w u v g f bv i b GS n B N e s S V sh j k me nv)(l:N<=a):IR w u v g f bv i b GS n B a e s S V sh j k me nv:=⟨h.ty.more l,h.st,h.ap,h.xb,h.rb,h.lo,h.sl⟩
theorem IR.apX{bv:J}{m l GS n B N:Nat}{b:List J}{nv:J}(h:IR w u v g f bv m l GS n B N b s S V sh i t me nv):NL b (λk=>k=i+1):= λj W e g a r=>by
 subst r;rcases(h.ty.rs j W e).2 with⟨q,_⟩|⟨z,cap,y,q,_,p,_⟩
 . subst q;cases a
 subst q;simp only[Value.ownBlock,kK]at a;subst a;have:=h.rb;unfold Ar at this;rw[p]at this;simp only[kK,mh]at this;exact absurd this.2.1 dC
def ThR(w:Y)(v:VP)(g:VF)(f:MF)(bv:J)(k i GS n B N:Nat)(r:Nc)(e:Ending)(h:Y):Prop:=match r with
 |.inl (c,a)=>e=.returned (.agg #[Ac Ab c,Ac Ab (a:Int),Ac Ab 0,Z M 0 0])/\c≠0/\Ad w w h
 |.inr s'=>e=.returned (.agg #[Ac Ab 0,Ac Ab 0,Ac Ab 0,Z M 0 0])/\∃j b,b<=N+2/\Ff w h v g f bv k i GS n B b j s'
theorem Oe{x:MI}(h:A6 p f x sh=0):(Bv p f x sh).length<=64:=by
 unfold A6 at h;unfold Bv;by_cases e:x.op=29
 . rw[lS e];simp
 rw[lE e]at h⊢;exact G5 h
def Ma(b:List MB)(me:Nat)(nx:List Nat)(sh:List Int)(C:Nat->Bool)(R:Nat->List Int)(D:Nat)(a:Nc):Prop:=(match Ev b nx sh C R with|none=>Sum.inl (4,me)|some (C',R')=>.inr ⟨C',R',D⟩)=a
theorem Pj{b:List MB}{m:MB}{a:Nat}(h1:m.gK=(a:Int))(h2:m.last=(me:Int)):Gc p f b m s=(match Cv p f (me+1-a) a (s.r a) s.r s.d with|.inl e=>.inl e|.inr (sh,R,D)=>match Ev b (m.next.map Int.toNat) sh s.c R with|none=>.inl (4,me)|some (C,R')=>.inr ⟨C,R',D⟩):=by unfold Gc;have e:(m.last-m.gK+1).toNat=me+1-a:=oM;rw[e,h1,h2,kM,kM]<;>rfl
theorem Ma.same{a:List MB}{nx:List Nat}{b:Nc}(h:Ma a me (t::nx) sh C R D b)(e:C t=true)(f:R (Fk a t)=sh):Ma a me nx sh C R D b:=by unfold Ma at h⊢;rw[Ev,lS e,lS f]at h;exact h
theorem Ma.bad{b:List MB}{nx:List Nat}{a:Nc}(h:Ma b me (t::nx) sh C R D a)(e:C t=true)(f:¬R (Fk b t)=sh):a=.inl (4,me):=by unfold Ma at h;rw[Ev,lS e,lE f]at h;exact h.symm
theorem Ma.new{a:List MB}{nx:List Nat}{b:Nc}(h:Ma a me (t::nx) sh C R D b)(e:C t=false):Ma a me nx sh (IF C t) (CE R (Fk a t) sh) D b:=by unfold Ma at h⊢;rw[Ev,lE (by rw[e];decide)]at h;exact h
theorem Pp(w u:Y)(v:VP)(p:MP)(g:VF)(f:MF)(bv nv:J)(A QB GS B N:Nat)(P:List J)(s:WI)(E:List MB)(b:Nat)(m:MB)(n me:Nat)(h:Ff w u v g f bv A QB GS f.ch B N P s)(aE:IQ w v p g f)(hb:Ic w bv E)(hB:Mc f.ch E)(hm:E[b]?=K m)(bY:m.gK=(n:Int))(bZ:m.last=(me:Int))(bq:Rd w 1 nv m.next (m.next.flatMap Ah))(du:m.next.length<=2)(ce:∀z∈m.next,∃t:Nat,z=(t:Int)/\t< ↑E)(cM:E.length<=1024)(hN:N<=4000)(bX:(s.r n).length<=s.d):
 Ae Tryz.prog 31 #[.pointer A,.agg #[Ac Ab (n:Int),Ac Ab (me:Int),nv]] u (ThR w v g f bv A QB GS f.ch B N (Gc p f E m s)):=by
 obtain⟨r1,r3,k1,k3,t1,t3,f1,f3,rfl⟩:=aE.rp.sl;obtain⟨T,U,X,g6,g7,g9,rfl⟩:=C5 aE.rf;obtain⟨xa,xc,rfl⟩:=bq.fu;obtain⟨ba,bc,rfl⟩:∃a c,bv=Z a E c:=by obtain⟨_,_,h2,_⟩:=hb;exact h2.fu
 obtain⟨a',e',q1,q2,dj,cU⟩:=hB.part b m hm;have ea:n=a':=oM;have ee:me=e':=oM;subst ea ee;clear q1 q2;obtain⟨I,L,ci,ei,_⟩:=KL aE.rf.2.2 (an cU);simp only[jc,lO]at ei;obtain⟨rfl,rfl⟩:=ei;have cQ:f.ch.length<=1024:=aE.cl;obtain⟨am,bi⟩:∃R,R=Gc p f E m s:=⟨_,rfl⟩;rw[<-bi];have bB:Aa (Gc p f E m s=am):=bi.symm;clear bi;have H:Aa (IQ w ⟨Z r1 p.a7 r3,Z k1 p.aC k3,Z f1 p.cC f3,Z t1 p.dr t3⟩ p ⟨Z T f.d5 U,Z X f.en g6,Z (K ⟨I,L,M⟩) f.ch g9⟩ f/\Ic w (Z ba E bc) E/\Rd w 1 (Z xa m.next xc) m.next (m.next.flatMap Ah)/\(∀z∈m.next,∃t:Nat,z=(t:Int)/\t< ↑E)/\Mc f.ch E):=⟨aE,hb,bq,ce,hB⟩
 have HM:Aa (m.gK=(n:Int)/\m.last=(me:Int)):=⟨bY,bZ⟩
 have HL:Aa ((s.r n).length<=s.d):=bX;have HT:Aa (Ff w u ⟨Z r1 p.a7 r3,Z k1 p.aC k3,Z f1 p.cC f3,Z t1 p.dr t3⟩ ⟨Z T f.d5 U,Z X f.en g6,Z (K ⟨I,L,M⟩) f.ch g9⟩ f (Z ba E bc) A QB GS f.ch B N P s):=h;clear aE hb bq ce hB bY bZ bX hm h;have E0:=Ef u #[Ac Ab (n:Int),Ac Ab (me:Int),(Z xa m.next xc)] #[Ac Ab 0,Ac Ab 0,Ac Ab 0,Z M 0 0] 58 32;go_enter Tryz.func31,Tryz.ntmps31;go_upto_region 1 with fail
 refine An (λu'=>Aa (Ar u' u #[Ac Ab (n:Int),Ac Ab (me:Int),(Z xa m.next xc)] 58/\Ar u' ((u:Nat)+1) #[Ac Ab 0,Ac Ab 0,Ac Ab 0,Z M 0 0] 32/\Ff w u' ⟨Z r1 p.a7 r3,Z k1 p.aC k3,Z f1 p.cC f3,Z t1 p.dr t3⟩ ⟨Z T f.d5 U,Z X f.en g6,Z (K ⟨I,L,M⟩) f.ch g9⟩ f (Z ba E bc) A QB GS f.ch B N P s)) ⟨E0.1,E0.2.1,HT.o.bM E0.2.2⟩ ?_
 rintro U0 E1;have bP:B<=u.heap.size:=HT.o.sz;generalize u.heap.size=Q at E1 bP⊢;clear E0 HT;clear u;obtain⟨V0,bj⟩:∃V,P[n]?=K V:=⟨_,an (by rw[E1.o.2.2.sl];omega)⟩;have br:=E1.o.2.2.rs n V0 bj;obtain⟨va,vc,cE⟩:=Az br;subst cE;have a8:Aa (Ar U0.drew Q #[Ac Ab (n:Int),Ac Ab (me:Int),(Z xa m.next xc)] 58/\Ar U0.drew (Q+1) #[Ac Ab 0,Ac Ab 0,Ac Ab 0,Z M 0 0] 32/\Ff w U0.drew ⟨Z r1 p.a7 r3,Z k1 p.aC k3,Z f1 p.cC f3,Z t1 p.dr t3⟩ ⟨Z T f.d5 U,Z X f.en g6,Z (K ⟨I,L,M⟩) f.ch g9⟩ f (Z ba E bc) A QB GS f.ch B N P s/\Cm U0.drew B (Z va (s.r n).length vc) (s.r n)/\P[n]?=K (Z va (s.r n).length vc)):=⟨E1.o.1.bM (Aj _),E1.o.2.1.bM (Aj _),E1.o.2.2.bM (Aj _),br.bM (Aj _),bj⟩
 have dy:(n:Int)<(f.ch:Int):=oM;clear br bj E1;have bf:U0.drew.cell? ⟨A,10,M⟩=K (Z GS f.ch f.ch):=a8.o.2.2.1.tb.cell 10;have b0:U0.drew.cell? Q=K (Ac Ab (n:Int)):=a8.o.1.cell 0;have b1:U0.drew.cell? ⟨GS,n,M⟩=K (Z va (s.r n).length vc):=by have:=a8.o.2.2.1.sa.cellAt n oM;rw[a8.o.2.2.2.2]at this;exact this
 refine wp_region_held_drew (S:= λO=>O.cell? ⟨A,10,M⟩=K (Z GS f.ch f.ch)/\O.cell? Q=K (Ac Ab (n:Int))/\O.cell? ⟨GS,n,M⟩=K (Z va (s.r n).length vc)) kR ⟨bf,b0,b1⟩ (λao=> ?_)
 refine wpAnyH_take (i:=0) (v:= ?_) rfl kR kR kR (λ_ _ _ h=>h) (Or.inl ⟨by rfl,?_⟩) (by assumption) ?_;rotate_left
 . (intro w l;(try dsimp only at l);go_simp;(try with_reducible rfl))
 refine wpAnyH_take (i:=1) (v:= ?_) rfl kR kR kR (λ_ _ _ h=>h) (Or.inl ⟨by rfl,?_⟩) (by assumption) ?_;rotate_left
 . (intro w l;(try dsimp only at l);go_simp;(try with_reducible rfl))
 refine wpAnyH_take (i:=2) (v:= ?_) rfl kR kR kR (λ_ _ _ h=>h) (Or.inl ⟨by rfl,?_⟩) (by assumption) ?_;rotate_left
 . (intro w l;(try dsimp only at l);go_simp;(try with_reducible rfl))
 refine wpAnyH_take (i:=3) (v:= ?_) rfl kR kR kR (λ_ _ _ h=>h) (Or.inl ⟨by rfl,?_⟩) (by assumption) ?_;rotate_left
 . (intro w l;(try dsimp only at l);go_simp;(try with_reducible rfl))
 refine wpAnyH_take (i:=4) (v:= ?_) rfl kR kR kR (λ_ _ _ h=>h) (Or.inl ⟨by rfl,?_⟩) (by assumption) ?_;rotate_left
 . (intro w l;(try dsimp only at l);go_simp;(try with_reducible rfl))
 refine wpAnyH_take (i:=5) (v:= ?_) rfl kR kR kR (λ_ _ _ h=>h) (Or.inl ⟨by rfl,?_⟩) (by assumption) ?_;rotate_left
 . (intro w l;(try dsimp only at l);go_simp;(try with_reducible rfl))
 refine wpAnyH_take (i:=6) (v:= ?_) rfl kR kR kR (λ_ _ _ h=>h) (Or.inl ⟨by rfl,?_⟩) (by assumption) ?_;rotate_left
 . (intro w l;(try dsimp only at l);go_simp;(try with_reducible rfl))
 refine wpAnyH_take (i:=7) (v:= ?_) rfl kR kR kR (λ_ _ _ h=>h) (Or.inl ⟨by rfl,?_⟩) (by assumption) ?_;rotate_left
 . (intro w l;(try dsimp only at l);go_simp;(try with_reducible rfl))
 refine wpAnyH_ready (rs:=[8]) kR sP ?_;refine AllReadyH.cons rfl (λKC ae=> ?_) AllReadyH.nil;go_simp;refine(Kb (Z va (s.r n).length vc) (s.r n) U0.drew (Rd.gM a8.o.2.2.2.1) (by have:=a8.o.2.2.1.rl n;omega)).mono ?_;rintro e u1 ⟨rfl,⟨V,aF⟩,aw⟩;have F1:Aa (IR w u1 ⟨Z r1 p.a7 r3,Z k1 p.aC k3,Z f1 p.cC f3,Z t1 p.dr t3⟩ ⟨Z T f.d5 U,Z X f.en g6,Z (K ⟨I,L,M⟩) f.ch g9⟩ f (Z ba E bc) A QB GS f.ch B N P s U0.drew V (s.r n) Q n me (Z xa m.next xc)):=by have hx:=a8.o.2.1.lt;refine⟨a8.o.2.2.1.bM aw,aF, λj W e g hg hr=> ?_,a8.o.1.bM aw,a8.o.2.1.bM aw,⟨bP,hx⟩,HL.o⟩;have h1:=(Dl.ge aF hr).1;have h2:=((a8.o.2.2.1.rs j W e).lt g hg).2;omega
 have K1:u1.cell? ⟨A,10,M⟩=K (Z GS f.ch f.ch)/\u1.cell? Q=K (Ac Ab (n:Int))/\u1.cell? ⟨GS,n,M⟩=K (Z va (s.r n).length vc):=⟨AS aw bf,AS aw b0,AS aw b1⟩
 clear aF aw;go_simp;refine ae.out _ _ K1 (λao=> ?_);clear ae KC;refine wpAnyH_take (i:=9) (v:= ?_) rfl kR kR kR (λ_ _ _ h=>h) (Or.inl ⟨by rfl,?_⟩) (by assumption) ?_;rotate_left
 . (intro w l;(try dsimp only at l);go_simp;(try with_reducible rfl))
 refine wpAnyH_done kR ?_ _;clear ao K1 bf b0 b1 a8 HL;go_upto_region 2 with fail
 refine An (λu'=>Aa (IR w u' ⟨Z r1 p.a7 r3,Z k1 p.aC k3,Z f1 p.cC f3,Z t1 p.dr t3⟩ ⟨Z T f.d5 U,Z X f.en g6,Z (K ⟨I,L,M⟩) f.ch g9⟩ f (Z ba E bc) A QB GS f.ch B N P s U0.drew V (s.r n) Q n me (Z xa m.next xc))) F1 ?_;clear F1;rintro U1 F1;have bV:(U0.drew:Nat)=U0.heap.size:=rfl;rw[bV]at F1;clear bV;generalize U0.heap.size=S at F1⊢;obtain⟨R0,bL⟩:∃R,R=Cv p f (me+1-n) n (s.r n) s.r s.d:=⟨_,rfl⟩;have aQ:Aa (Cv p f (me+1-n) n (s.r n) s.r s.d=R0):=bL.symm;clear bL;obtain⟨x0,x1,x2⟩:=Fx F1.o.xb;go_wp2_with fail;clear x0 x1 x2;go_loopw [6] (λi wr=>∃(d:Nat) (P:List J) (sh:List Int) (R:Nat->List Int) (D:Nat) (V:J),n<=d/\d<=me+1/\i=Ac Ab d/\Aa (Cv p f (me+1-d) d sh R D=R0)/\Aa (IR w wr ⟨Z r1 p.a7 r3,Z k1 p.aC k3,Z f1 p.cC f3,Z t1 p.dr t3⟩ ⟨Z T f.d5 U,Z X f.en g6,Z (K ⟨I,L,M⟩) f.ch g9⟩ f (Z ba E bc) A QB GS f.ch B N P ⟨s.c,R,D⟩ S V sh Q n me (Z xa m.next xc))) (λi _=>me+1-(intOf i).toNat)
 case atStart=>exact⟨n,P,_,s.r,s.d,V,oM,oM,rfl,aQ,F1⟩
 case round=>
 clear F1;clear V P;obtain⟨d,P,sh,R,D,V,dm,dp,rfl,HK,F⟩:=hrel;have dx:sh.length<=64:=kT F.o.sl F.o.ty.dl;obtain⟨x0,x1,x2⟩:=Fx F.o.xb;by_cases cY:d<=me;case pos=>
  have cZ:(d:Int)<=(me:Int):=oM;have dq:(d:Int)<(f.ch:Int):=oM;obtain⟨y,hy⟩:∃y,f.ch[d]?=K y:=⟨_,an oM⟩;have HY:Aa (f.ch[d]?=K y):=hy;clear hy;go_upto_region 5 with fail
  clear x0 x1 x2;have au:Aa (IR w wr.drew ⟨Z r1 p.a7 r3,Z k1 p.aC k3,Z f1 p.cC f3,Z t1 p.dr t3⟩ ⟨Z T f.d5 U,Z X f.en g6,Z (K ⟨I,L,M⟩) f.ch g9⟩ f (Z ba E bc) A QB GS f.ch B N P ⟨s.c,R,D⟩ S V sh Q n me (Z xa m.next xc)):=F.o.bM (Aj _);clear F;have bo:wr.drew.cell? ⟨A,10,M⟩=K (Z GS f.ch f.ch):=au.o.ty.tb.cell 10;refine wp_region_held_drew (S:= λO=>O.cell? ⟨A,10,M⟩=K (Z GS f.ch f.ch)) kR bo (λao=> ?_);refine wpAnyH_take (i:=0) (v:= ?_) rfl kR kR kR (λ_ _ _ h=>h) (Or.inl ⟨by rfl,?_⟩) (by assumption) ?_;rotate_left
  . (intro w l;(try dsimp only at l);go_simp;(try with_reducible rfl))
  refine wpAnyH_take (i:=1) (v:= ?_) rfl kR kR kR (λ_ _ _ h=>h) (Or.inl ⟨by rfl,?_⟩) (by assumption) ?_;rotate_left
  . (intro w l;(try dsimp only at l);go_simp;(try with_reducible rfl))
  refine wpAnyH_take (i:=2) (v:= ?_) rfl kR kR kR (λ_ _ _ h=>h) (Or.inl ⟨by rfl,?_⟩) (by assumption) ?_;rotate_left
  . (intro w l;(try dsimp only at l);go_simp;(try with_reducible rfl))
  refine wpAnyH_take (i:=3) (v:= ?_) rfl kR kR kR (λ_ _ _ h=>h) (Or.inl ⟨by rfl,?_⟩) (by assumption) ?_;rotate_left
  . (intro w l;(try dsimp only at l);go_simp;(try with_reducible rfl))
  refine wpAnyH_take (i:=4) (v:= ?_) rfl kR kR kR (λ_ _ _ h=>h) (Or.inl ⟨by rfl,?_⟩) (by assumption) ?_;rotate_left
  . (intro w l;(try dsimp only at l);go_simp;(try with_reducible rfl))
  refine wpAnyH_take (i:=5) (v:= ?_) rfl kR kR kR (λ_ _ _ h=>h) (Or.inl ⟨by rfl,?_⟩) (by assumption) ?_;rotate_left
  . (intro w l;(try dsimp only at l);go_simp;(try with_reducible rfl))
  refine wpAnyH_ready (rs:=[6]) kR sP ?_;refine AllReadyH.cons rfl (λKC ae=> ?_) AllReadyH.nil;go_simp;refine(Mv S V sh wr.drew au.o.st oM).mono ?_;rintro e u3 ⟨a3,c3,rfl,aU,b3⟩;have H3:Aa (IR w u3 ⟨Z r1 p.a7 r3,Z k1 p.aC k3,Z f1 p.cC f3,Z t1 p.dr t3⟩ ⟨Z T f.d5 U,Z X f.en g6,Z (K ⟨I,L,M⟩) f.ch g9⟩ f (Z ba E bc) A QB GS f.ch B N P ⟨s.c,R,D⟩ S V sh Q n me (Z xa m.next xc)):=au.o.bM b3;have aR:Aa (Cm u3 B (Z a3 sh c3) sh/\(∀(i:Nat) (W:J),P[i]?=K W->∀g,(Z a3 sh c3).ownBlock=K g->W.ownBlock≠K g)/\∀g,(Z a3 sh c3).ownBlock=K g->¬Dl S V g):=by
   refine⟨Bb aU au.o.ty.sz, λi W e g hg e2=> ?_, λg hg e2=> ?_⟩
   . have h1:=(aU.lt g hg).1;have h2:=((au.o.ty.rs i W e).lt g e2).2;omega
   have h1:=(aU.lt g hg).1;have h2:=(Dl.ge au.o.st e2).2;omega
  clear aU b3;go_simp;refine ae.out _ _ (by have:=H3.o.ty.tb.cell 10;exact this) (λao=> ?_);clear ae KC;refine wpAnyH_take (i:=7) (v:= ?_) rfl kR kR kR (λ_ _ _ h=>h) (Or.inl ⟨by rfl,?_⟩) (by assumption) ?_;rotate_left
  . (intro w l;(try dsimp only at l);go_simp;(try with_reducible rfl))
  refine wpAnyH_ready (rs:=[8]) kR sP ?_;refine AllReadyH.cons rfl (λKC ae=> ?_) AllReadyH.nil;have bF:=H3.o.ty.sa.cellAt d oM;have dd:=H3.o.ty.sa.frozenAt d;obtain⟨V1,bO⟩:∃V,P[d]?=K V:=⟨_,an (by rw[H3.o.ty.sl];omega)⟩;rw[bO]at bF;have H4:Aa (IR w (u3.setCell ⟨GS,d,M⟩ (Z a3 sh c3)) ⟨Z r1 p.a7 r3,Z k1 p.aC k3,Z f1 p.cC f3,Z t1 p.dr t3⟩ ⟨Z T f.d5 U,Z X f.en g6,Z (K ⟨I,L,M⟩) f.ch g9⟩ f (Z ba E bc) A QB GS f.ch B N (P.set d (Z a3 sh c3)) ⟨s.c,CE R d sh,D⟩ S V sh Q n me (Z xa m.next xc)):=H3.o.jf aR.o.1 aR.o.2.1 aR.o.2.2;go_simp;refine ae.out _ _ (by have:=H4.o.ty.tb.cell 10;exact this) (λao=> ?_);clear ae KC;refine wpAnyH_done kR ?_ _;clear ao bo bF dd bO aR H3 au;go_upto_region 6 with fail
  refine An (λu'=>Aa (IR w u' ⟨Z r1 p.a7 r3,Z k1 p.aC k3,Z f1 p.cC f3,Z t1 p.dr t3⟩ ⟨Z T f.d5 U,Z X f.en g6,Z (K ⟨I,L,M⟩) f.ch g9⟩ f (Z ba E bc) A QB GS f.ch B N (P.set d (Z a3 sh c3)) ⟨s.c,CE R d sh,D⟩ S V sh Q n me (Z xa m.next xc))) H4 ?_;clear H4;rintro U5 F5;generalize P.set d (Z a3 sh c3)=aA at F5;have aj:Aa (IR w U5.drew ⟨Z r1 p.a7 r3,Z k1 p.aC k3,Z f1 p.cC f3,Z t1 p.dr t3⟩ ⟨Z T f.d5 U,Z X f.en g6,Z (K ⟨I,L,M⟩) f.ch g9⟩ f (Z ba E bc) A QB GS f.ch B N aA ⟨s.c,CE R d sh,D⟩ S V sh Q n me (Z xa m.next xc)):=F5.o.bM (Aj _);clear F5;have bz:Aa (∀u',Ad w w u'->u'.cell? ⟨I,L+d*4,M⟩=K (Ac Ab y.op)/\u'.cell? ⟨I,L+d*4+1,M⟩=K (Ac Ab y.a)/\u'.cell? ⟨I,L+d*4+2,M⟩=K (Ac Ab y.b)/\u'.cell? ⟨I,L+d*4+3,M⟩=K (Ac Ab y.c)):= λu' hu=>by obtain⟨dh,dz,de,bG,j0,j1,j2,j3⟩:=KL H.o.1.rf.2.2 HY.o;simp only[jc,kK,mA,lO,mg]at bG;obtain⟨⟨rfl,rfl⟩,_⟩:=bG;exact⟨AS hu j0,AS hu j1,AS hu j2,AS hu j3⟩
  have KS:∀{O:Y} {D':WI} {cA:List J},Ff w O ⟨Z r1 p.a7 r3,Z k1 p.aC k3,Z f1 p.cC f3,Z t1 p.dr t3⟩ ⟨Z T f.d5 U,Z X f.en g6,Z (K ⟨I,L,M⟩) f.ch g9⟩ f (Z ba E bc) A QB GS f.ch B N cA D'->O.cell? A=K (Z r1 p.a7 r3)/\O.cell? ⟨A,1,M⟩=K (Z k1 p.aC k3)/\O.cell? ⟨A,2,M⟩=K (Z f1 p.cC f3)/\O.cell? ⟨A,3,M⟩=K (Z t1 p.dr t3)/\O.cell? ⟨A,4,M⟩=K (Z T f.d5 U)/\O.cell? ⟨A,5,M⟩=K (Ac Ab f.gz)/\O.cell? ⟨A,6,M⟩=K (Z X f.en g6)/\O.cell? ⟨A,7,M⟩=K (Z (K ⟨I,L,M⟩) f.ch g9)/\O.cell? ⟨I,L+d*4,M⟩=K (Ac Ab y.op)/\O.cell? ⟨I,L+d*4+1,M⟩=K (Ac Ab y.a)/\O.cell? ⟨I,L+d*4+2,M⟩=K (Ac Ab y.b)/\O.cell? ⟨I,L+d*4+3,M⟩=K (Ac Ab y.c):= λaM=>by obtain⟨j0,j1,j2,j3⟩:=bz.o _ aM.gG;obtain⟨q0,q1,q2,q3,q4,q5,q6,q7,_⟩:=XL aM.tb;exact⟨q0,q1,q2,q3,q4,q5,q6,q7,j0,j1,j2,j3⟩
  refine wp_region_held_drew (S:= λO=>O.cell? A=K (Z r1 p.a7 r3)/\O.cell? ⟨A,1,M⟩=K (Z k1 p.aC k3)/\O.cell? ⟨A,2,M⟩=K (Z f1 p.cC f3)/\O.cell? ⟨A,3,M⟩=K (Z t1 p.dr t3)/\O.cell? ⟨A,4,M⟩=K (Z T f.d5 U)/\O.cell? ⟨A,5,M⟩=K (Ac Ab f.gz)/\O.cell? ⟨A,6,M⟩=K (Z X f.en g6)/\O.cell? ⟨A,7,M⟩=K (Z (K ⟨I,L,M⟩) f.ch g9)/\O.cell? ⟨I,L+d*4,M⟩=K (Ac Ab y.op)/\O.cell? ⟨I,L+d*4+1,M⟩=K (Ac Ab y.a)/\O.cell? ⟨I,L+d*4+2,M⟩=K (Ac Ab y.b)/\O.cell? ⟨I,L+d*4+3,M⟩=K (Ac Ab y.c)) kR (KS aj.o.ty) (λao=> ?_)
  refine wpAnyH_take (i:=0) (v:= ?_) rfl kR kR kR (λ_ _ _ h=>h) (Or.inl ⟨by rfl,?_⟩) (by assumption) ?_;rotate_left
  . (intro w l;(try dsimp only at l);go_simp;(try with_reducible rfl))
  refine wpAnyH_take (i:=1) (v:= ?_) rfl kR kR kR (λ_ _ _ h=>h) (Or.inl ⟨by rfl,?_⟩) (by assumption) ?_;rotate_left
  . (intro w l;(try dsimp only at l);go_simp;(try with_reducible rfl))
  refine wpAnyH_take (i:=2) (v:= ?_) rfl kR kR kR (λ_ _ _ h=>h) (Or.inl ⟨by rfl,?_⟩) (by assumption) ?_;rotate_left
  . (intro w l;(try dsimp only at l);go_simp;(try with_reducible rfl))
  refine wpAnyH_take (i:=3) (v:= ?_) rfl kR kR kR (λ_ _ _ h=>h) (Or.inl ⟨by rfl,?_⟩) (by assumption) ?_;rotate_left
  . (intro w l;(try dsimp only at l);go_simp;(try with_reducible rfl))
  refine wpAnyH_take (i:=4) (v:= ?_) rfl kR kR kR (λ_ _ _ h=>h) (Or.inl ⟨by rfl,?_⟩) (by assumption) ?_;rotate_left
  . (intro w l;(try dsimp only at l);go_simp;(try with_reducible rfl))
  refine wpAnyH_take (i:=5) (v:= ?_) rfl kR kR kR (λ_ _ _ h=>h) (Or.inl ⟨by rfl,?_⟩) (by assumption) ?_;rotate_left
  . (intro w l;(try dsimp only at l);go_simp;(try with_reducible rfl))
  refine wpAnyH_take (i:=6) (v:= ?_) rfl kR kR kR (λ_ _ _ h=>h) (Or.inl ⟨by rfl,?_⟩) (by assumption) ?_;rotate_left
  . (intro w l;(try dsimp only at l);go_simp;(try with_reducible rfl))
  refine wpAnyH_take (i:=7) (v:= ?_) rfl kR kR kR (λ_ _ _ h=>h) (Or.inl ⟨by rfl,?_⟩) (by assumption) ?_;rotate_left
  . (intro w l;(try dsimp only at l);go_simp;(try with_reducible rfl))
  refine wpAnyH_take (i:=8) (v:= ?_) rfl kR kR kR (λ_ _ _ h=>h) (Or.inl ⟨by rfl,?_⟩) (by assumption) ?_;rotate_left
  . (intro w l;(try dsimp only at l);go_simp;(try with_reducible rfl))
  refine wpAnyH_take (i:=9) (v:= ?_) rfl kR kR kR (λ_ _ _ h=>h) (Or.inl ⟨by rfl,?_⟩) (by assumption) ?_;rotate_left
  . (intro w l;(try dsimp only at l);go_simp;(try with_reducible rfl))
  refine wpAnyH_take (i:=10) (v:= ?_) rfl kR kR kR (λ_ _ _ h=>h) (Or.inl ⟨by rfl,?_⟩) (by assumption) ?_;rotate_left
  . (intro w l;(try dsimp only at l);go_simp;(try with_reducible rfl))
  refine wpAnyH_take (i:=11) (v:= ?_) rfl kR kR kR (λ_ _ _ h=>h) (Or.inl ⟨by rfl,?_⟩) (by assumption) ?_;rotate_left
  . (intro w l;(try dsimp only at l);go_simp;(try with_reducible rfl))
  refine wpAnyH_take (i:=12) (v:= ?_) rfl kR kR kR (λ_ _ _ h=>h) (Or.inl ⟨by rfl,?_⟩) (by assumption) ?_;rotate_left
  . (intro w l;(try dsimp only at l);go_simp;(try with_reducible rfl))
  refine wpAnyH_take (i:=13) (v:= ?_) rfl kR kR kR (λ_ _ _ h=>h) (Or.inl ⟨by rfl,?_⟩) (by assumption) ?_;rotate_left
  . (intro w l;(try dsimp only at l);go_simp;(try with_reducible rfl))
  refine wpAnyH_ready (rs:=[14]) kR sP ?_;refine AllReadyH.cons rfl (λKC ae=> ?_) AllReadyH.nil;go_simp;refine(Ky ⟨Z r1 p.a7 r3,Z k1 p.aC k3,Z f1 p.cC f3,Z t1 p.dr t3⟩ p ⟨Z T f.d5 U,Z X f.en g6,Z (K ⟨I,L,M⟩) f.ch g9⟩ f y S V sh w U5.drew H.o.1.ps H.o.1.pf H.o.1.fs H.o.1.rp H.o.1.rf (H.o.1.ok y (i8 HY.o)) (by have:=aj.o.lo;have:=aj.o.ty.lo;have:=aj.o.ty.ne;omega) aj.o.ty.gG aj.o.st oM).mono ?_;rintro e u6 ⟨rfl,aD,cj⟩;have F6:Aa (Yi w u6 ⟨Z r1 p.a7 r3,Z k1 p.aC k3,Z f1 p.cC f3,Z t1 p.dr t3⟩ ⟨Z T f.d5 U,Z X f.en g6,Z (K ⟨I,L,M⟩) f.ch g9⟩ f (Z ba E bc) A QB GS f.ch B N aA ⟨s.c,CE R d sh,D⟩ S Q n me (Z xa m.next xc)):=aj.o.io aD;have aI:Aa (A6 p f y sh=0->∃V',Du u6 S V' (Bv p f y sh)/\NL aA (Dl S V')):= λe=>by obtain⟨V',h1,h2⟩:=cj e;exact⟨V',h1,aj.o.apC h2⟩
  clear aD cj;go_simp;refine ae.out _ _ (KS F6.o.ty) (λao=> ?_);clear ae KC;refine wpAnyH_take (i:=15) (v:= ?_) rfl kR kR kR (λ_ _ _ h=>h) (Or.inl ⟨by rfl,?_⟩) (by assumption) ?_;rotate_left
  . (intro w l;(try dsimp only at l);go_simp;(try with_reducible rfl))
  refine wpAnyH_done kR ?_ _;clear ao aj KS bz;have aq:Cv p f (me+1-d) d sh R D=R0:=HK.o;rw[JJ HY.o cY]at aq;have aH:Aa (A6 p f y sh=0->(Bv p f y sh).length<=64):=Oe;generalize A6 p f y sh=cc at aI aq aH⊢;generalize Bv p f y sh=oo at aI aq aH⊢;by_cases aS:cc=0;case neg=>(have dk:(cc != 0)=true:=by simpa using aS);(have aG:Aa (am=.inl (cc,d)):=by rw[<-bB.o,Pj HM.o.1 HM.o.2,aQ.o,<-aq,lE aS]<;>rfl);clear aq aI aH;obtain⟨q0,q1,q2,q3⟩:=Bi F6.o.rb;obtain⟨bH,bI,bJ,bK⟩:=Qj F6.o.rb;go_wp2_with fail;have G:Aa _:=(((F6.o.rb.set 0 (Ac Ab (cc))).set 1 (Ac Ab ((d:Int)))).set 2 (Ac Ab 0)).set 3 (Z M 0 0);simp only[kV,lI,lM]at G;clear q0 q1 q2 q3;obtain⟨q0,q1,q2,q3⟩:=Bi G.o;refine kY (v:=.agg #[Ac Ab (cc),Ac Ab ((d:Int)),Ac Ab 0,Z M 0 0]) (by simp[results,Tryz.results31,go_sem,q0,q1,q2,q3]) rfl ?_;have bp:=F6.o.ty.gG;have l1:=F6.o.lo;have l2:=F6.o.ty.ne;have l3:=F6.o.ty.lo;rw[aG.o];exact⟨rfl,aS,((((bp.setCell oS _).setCell oS _).setCell oS _).setCell oS _)⟩
  case pos=>
   subst aS;rw[lS rfl]at aq;have cu:Aa _:=aq;obtain⟨V6,cg,bR⟩:=aI.o rfl;have aZ:Aa (Du u6 S V6 oo/\NL aA (Dl S V6)):=⟨cg,bR⟩
   have dw:oo.length<=64:=aH.o rfl;have di:D<=64:=F6.o.ty.dl;clear aq cg bR aI aH;have cD:=(F6.o.ty.bM (Aj _)).tb.cell 11;simp only[kL,jt,kI]at cD;have dA:=(F6.o.ty.bM (Aj _)).tb.frozen 11;(have F9:Aa (IR w (u6.setCell ⟨A,11,M⟩ (Ac Ab (max (D:Int) (oo:Int)))).drew ⟨Z r1 p.a7 r3,Z k1 p.aC k3,Z f1 p.cC f3,Z t1 p.dr t3⟩ ⟨Z T f.d5 U,Z X f.en g6,Z (K ⟨I,L,M⟩) f.ch g9⟩ f (Z ba E bc) A QB GS f.ch B N aA ⟨s.c,CE R d sh,max D oo⟩ S V6 oo Q n me (Z xa m.next xc)):=by have d6:max (D:Int) (oo:Int)=((max D oo:Nat):Int):=oM;rw[d6];exact(F6.o.jq aZ.o.1 aZ.o.2 oM oM).bM (Aj _));(go_upto_region 9 with fail);go_region_with (go_at_call 69;refine(Fo S V6 oo u6.drew (aZ.o.1.bM (Aj _))).mono ?_;rintro e u7 ⟨rfl,rfl⟩);all_goals
    go_wp2_with fail;go_roundw;(case rel=>exact⟨d+1,aA,oo,CE R d sh,max D oo,V6,oM,oM,by go_num,cu,F9⟩);exact oI
 case neg=>
  have cR:d=me+1:=oM;have cZ:¬(d:Int)<=(me:Int):=oM;have bu:Aa (Ma E me ((m.next.map Int.toNat).drop 0) sh s.c R D am):=by have e:=HK.o;rw[Lh cR]at e;show Ma E me ((m.next.map Int.toNat).drop 0) sh s.c R D am;unfold Ma;rw[List.drop_zero,<-bB.o,Pj HM.o.1 HM.o.2,aQ.o,<-e]<;>rfl
  clear HK aQ;go_wp2_with fail;clear x0 x1 x2;go_loopw [68] (λq wr=>∃(i:Nat) (P:List J) (C:Nat->Bool) (R:Nat->List Int),i<= ↑m.next/\q=Ac Ab i/\Aa (Ma E me ((m.next.map Int.toNat).drop i) sh C R D am)/\Aa (IR w wr ⟨Z r1 p.a7 r3,Z k1 p.aC k3,Z f1 p.cC f3,Z t1 p.dr t3⟩ ⟨Z T f.d5 U,Z X f.en g6,Z (K ⟨I,L,M⟩) f.ch g9⟩ f (Z ba E bc) A QB GS f.ch B (N+i) P ⟨C,R,D⟩ S V sh Q n me (Z xa m.next xc))) (λq _=> ↑m.next-(intOf q).toNat)
  case atStart=>exact⟨0,P,s.c,R,oM,rfl,bu,F⟩
  case round=>
  clear F bu;clear R P;obtain⟨i,P,C,R,hi,rfl,HA,F⟩:=hrel;by_cases cX:i< ↑m.next
  case pos=>
   obtain⟨z,hz⟩:∃z,m.next[i]?=K z:=⟨_,an cX⟩;obtain⟨t,cH,d8⟩:=H.o.2.2.2.1 z (i8 hz);subst cH;rcases H.o.2.2.1.2 with⟨q0,_⟩|⟨gn,on,cn,q1,bT⟩
   . omega
   simp only[jc,lO]at q1;obtain⟨d9,db⟩:=q1;subst d9;clear db;have n0:=Rd.elem Ao bT i _ hz 0 _ rfl;rw[lr,kZ,<-F.o.ty.gG.cell (jC n0)]at n0;obtain⟨m1,aT⟩:∃m,E[t]?=K m:=⟨_,an d8⟩;obtain⟨ta,te,bg,cG,df,dg⟩:=H.o.2.2.2.2.part t m1 aT;have HN:Aa ((m.next.map Int.toNat).drop i=t::(m.next.map Int.toNat).drop (i+1)/\E[t]?=K m1/\m1.gK=(ta:Int)/\Fk E t=ta):=⟨Ki (by rw[lG,hz];simp),aT,bg,I9 aT bg⟩
   clear bT hz aT bg cG;have cW:(i:Int)<(m.next:Int):=oM;have d7:sh.length<=64:=kT F.o.sl F.o.ty.dl;go_wp2_with fail;refine(Of w wr ⟨Z r1 p.a7 r3,Z k1 p.aC k3,Z f1 p.cC f3,Z t1 p.dr t3⟩ ⟨Z T f.d5 U,Z X f.en g6,Z (K ⟨I,L,M⟩) f.ch g9⟩ f (Z ba E bc) A QB GS f.ch B (N+i) P ⟨C,R,D⟩ E S V sh t ta m1 F.o.ty H.o.2.1 HN.o.2.1 HN.o.2.2.1 oM cQ cM oM F.o.st (by have:=F.o.lo;omega) F.o.ap d7).mono ?_;rintro e bt (⟨aJ,bb,rfl,bS,bC⟩|⟨aJ,rfl,V',aM,aF,bQ,aD⟩)
   . have ah:Aa (IR w bt ⟨Z r1 p.a7 r3,Z k1 p.aC k3,Z f1 p.cC f3,Z t1 p.dr t3⟩ ⟨Z T f.d5 U,Z X f.en g6,Z (K ⟨I,L,M⟩) f.ch g9⟩ f (Z ba E bc) A QB GS f.ch B (N+i) P ⟨C,R,D⟩ S V sh Q n me (Z (K ⟨gn,on,M⟩) m.next xc)):=F.o.bM bC;have aP:Aa ((bb=true↔sh=R ta)/\C t=true):=⟨bS,aJ⟩
     clear bS aJ bC F n0;(cases bb);(case false=>have aG:Aa (am=.inl (4,me)):=Ma.bad (by rw[<-HN.o.1];exact HA.o) aP.o.2 (λe=>by rw[HN.o.2.2.2]at e;have:=aP.o.1.2 e.symm;cases this);obtain⟨x0,x1,x2⟩:=Fx ah.o.xb;obtain⟨q0,q1,q2,q3⟩:=Bi ah.o.rb;obtain⟨bH,bI,bJ,bK⟩:=Qj ah.o.rb;go_wp2_with fail;have G:Aa _:=(((ah.o.rb.set 0 (Ac Ab (4))).set 1 (Ac Ab ((me:Int)))).set 2 (Ac Ab 0)).set 3 (Z M 0 0);simp only[kV,lI,lM]at G;clear q0 q1 q2 q3;obtain⟨q0,q1,q2,q3⟩:=Bi G.o;refine kY (v:=.agg #[Ac Ab (4),Ac Ab ((me:Int)),Ac Ab 0,Z M 0 0]) (by simp[results,Tryz.results31,go_sem,q0,q1,q2,q3]) rfl ?_;have bp:=ah.o.ty.gG;have l1:=ah.o.lo;have l2:=ah.o.ty.ne;have l3:=ah.o.ty.lo;rw[aG.o];exact⟨rfl,dC,((((bp.setCell oS _).setCell oS _).setCell oS _).setCell oS _)⟩);case true=>have aY:Aa (Ma E me ((m.next.map Int.toNat).drop (i+1)) sh C R D am):=Ma.same (by rw[<-HN.o.1];exact HA.o) aP.o.2 (by rw[HN.o.2.2.2];exact(aP.o.1.1 rfl).symm);have aX:Aa (IR w bt ⟨Z r1 p.a7 r3,Z k1 p.aC k3,Z f1 p.cC f3,Z t1 p.dr t3⟩ ⟨Z T f.d5 U,Z X f.en g6,Z (K ⟨I,L,M⟩) f.ch g9⟩ f (Z ba E bc) A QB GS f.ch B (N+(i+1)) P ⟨C,R,D⟩ S V sh Q n me (Z (K ⟨gn,on,M⟩) m.next xc)):=ah.o.more oM;go_wp2_with fail;go_roundw;(case rel=>exact⟨i+1,P,C,R,oM,by go_num,aY,aX⟩);exact oI
   (have aX:Aa (IR w bt ⟨Z r1 p.a7 r3,Z k1 p.aC k3,Z f1 p.cC f3,Z t1 p.dr t3⟩ ⟨Z T f.d5 U,Z X f.en g6,Z (K ⟨I,L,M⟩) f.ch g9⟩ f (Z ba E bc) A QB GS f.ch B (N+(i+1)) (P.set ta V') ⟨IF C t,CE R ta sh,D⟩ S V sh Q n me (Z (K ⟨gn,on,M⟩) m.next xc)):=by have l1:=F.o.lo;have l2:=F.o.ty.ne;exact⟨aM,aF,bQ,aD.gR F.o.xb oM,aD.gR F.o.rb oM,F.o.lo,F.o.sl⟩);(have aY:Aa (Ma E me ((m.next.map Int.toNat).drop (i+1)) sh (IF C t) (CE R ta sh) D am):=by have:=Ma.new (by rw[<-HN.o.1];exact HA.o) aJ;rw[HN.o.2.2.2]at this;exact this);clear aM aF bQ aD F n0 aJ;go_wp2_with fail;go_roundw;(case rel=>exact⟨i+1,_,_,_,oM,by go_num,aY,aX⟩);exact oI
  case neg=>have dt:i=m.next.length:=oM;(have aG:Aa (am=.inr ⟨C,R,D⟩):=by have:=HA.o;have cT:(m.next.map Int.toNat).drop i=[]:=List.drop_eq_nil_of_le (by rw[kW];omega);rw[cT]at this;exact this.symm);have cW:¬(i:Int)<(m.next:Int):=oM;obtain⟨q0,q1,q2,q3⟩:=Bi F.o.rb;obtain⟨bH,bI,bJ,bK⟩:=Qj F.o.rb;go_wp2_with fail;have G:Aa _:=(((F.o.rb.set 0 (Ac Ab (0))).set 1 (Ac Ab (0))).set 2 (Ac Ab 0)).set 3 (Z M 0 0);simp only[kV,lI,lM]at G;clear q0 q1 q2 q3;obtain⟨q0,q1,q2,q3⟩:=Bi G.o;refine kY (v:=.agg #[Ac Ab (0),Ac Ab (0),Ac Ab 0,Z M 0 0]) (by simp[results,Tryz.results31,go_sem,q0,q1,q2,q3]) rfl ?_;have l1:=F.o.lo;have l2:=F.o.ty.ne;have l3:=F.o.ty.lo;have cI:=((((DV.refl (λk=>k=Q+1) wr).setCell (ad:=⟨Q+1,0,M⟩) (.inl rfl) (Ac Ab 0)).setCell (ad:=⟨Q+1,1,M⟩) (.inl rfl) (Ac Ab 0)).setCell (ad:=⟨Q+1,2,M⟩) (.inl rfl) (Ac Ab 0)).setCell (ad:=⟨Q+1,3,M⟩) (.inl rfl) (Z M 0 0);have cJ:=F.o.ty.io cI (λk (e:k=Q+1)=>oM) F.o.apX;rw[aG.o];exact⟨rfl,P,N+i,oM,cJ⟩
end Go.Proofs.YtjnglocdoljgkaaGreat
