import Derived.Test.YtkgohaigebcgoaaGreatDoorCh9
import Derived.Deep.LoopGhost
import Derived.BigRegion
namespace Go.Proofs.YtkgohaigebcgoaaGreatDoor
open Go.ChangeShapes Go.WideShapes Go.ChangeAt Go.RowKit Go.Proofs.Tryz
set_option linter.unusedVariables false
open Go.Value renaming slice → Z,int → Ag
open Option renaming some → K,none → M
open Go renaming Value → J,World → Y,Calls → Ai,TypeId → Aj
open Go.RowKit renaming Hid → Ae,Below → Ah
open Go.IntKind renaming i64 → Af
open Go.Obj renaming cells → Ak
open Go.Ending renaming returned → Am
open Go.Proofs.Tryz renaming prog → Aq
open Go.World renaming alloc → Ac,ownsRow → Ab,setCell → Aa
open List renaming flatMap → Ad
set_option maxHeartbeats 8000000
set_option maxRecDepth 100000
variable {C:List (J×List MC)}{q n G:Nat}{p:MP}{l ar:List MC}{f:MF}{g:MG}{x:MI}{t e:Aj}{w u U:Y}{a0 a c s:J}{A:Array J}{I:Nat->Int}{E:Nat->List Nat}{m:MB}{ys:List J}{xs:List MI}
theorem H1(P:Program)(w:Y)(a:Addr)(m:Mode)(f:Fn)(x y:Array J):(store a (.func f x y) m).run P w=stored P w a (.func f x y) m:=run_store P w a _ m rfl
theorem IB(g o c n:Nat)(E:Nat->List Nat)(sv:J)(T:List Nat)(B:J)(a:List Nat)(w:Y)(hn:n<=1024)(hE:∀b,b<n->∀x∈E b,x<n)(au:∀b,(E b).length<=2048)(h:Gb w g o n E)(hT:∀x∈T,x<n)(aG:T.length<=4096)(X:Lb w sv T)(hS:(B=Z M 0 0/\a=[])\/∃x F R:Nat,a=[x]/\x<n/\B=Z F 1 R/\w F=K ↑(x:Int)):
 Ai Aq 57 #[Z (K ⟨g,o,M⟩) n c,sv,B] w λe w'=>∃V S O,e=Am V/\Vs E a [] T S O/\Kk w' w V O/\Ah w w w':=by
 have H:=Aw (lN h (lN hE (lN au (lN hT X))));obtain⟨at_,ct,rfl⟩:=Rd.aD X;clear h hE au hT X;have aJ:= @run_makeMap Aq;have aI:∀(fn:Fn) (first cap:Array J) (w:Y),(Instr.makeFunc fn first cap).run Aq w=.ok (.func fn first cap) w:= λ_ _ _ _=>rfl
 go_enter func57,ntmps57;go_upto_region 3 with fail
 refine Av (λu=>Ae (Ay u w #[Z (K ⟨g,o,M⟩) n c] 28/\Ay u ((w:Nat)+1) #[Z M 0 0] 27/\AQ u ((w:Nat)+1+1) 0 (.map [])/\Ay u ((w:Nat)+1+1+1) #[.map (K ((w:Nat)+1+1))] 164/\Ah w w u)) ?_ ?_
 . have b1:=Al w (Ak #[Z (K ⟨g,o,M⟩) n c] 28);have k1:=Ay.new w #[Z (K ⟨g,o,M⟩) n c] 28;have z1:(Ac w (Ak #[Z (K ⟨g,o,M⟩) n c] 28)).heap.size= ↑w+1:=sP
   generalize Ac w (Ak #[Z (K ⟨g,o,M⟩) n c] 28)=v at b1 k1 z1⊢;have Q:=Al v (Ak #[Z M 0 0] 27);have k2:=Ay.new v #[Z M 0 0] 27;have z2:(Ac v (Ak #[Z M 0 0] 27)).heap.size= ↑w+1+1:=by simp[z1]
   rw[z1]at k2;generalize Ac v (Ak #[Z M 0 0] 27)=r at Q k2 z2⊢;have z:=Al r (.map #[] 0);have k3:AQ (Ac r (.map #[] 0)) r 0 (.map []):=World.ownsMap_made _ _ _ _;have z3:(Ac r (.map #[] 0)).heap.size= ↑w+1+1+1:=by simp[z2]
   rw[z2]at k3;generalize Ac r (.map #[] 0)=W3 at z k3 z3⊢;have A:=Al W3 (Ak #[.map (K ((w:Nat)+1+1))] 164);have k4:=Ay.new W3 #[.map (K ((w:Nat)+1+1))] 164;rw[z3]at k4;exact⟨((k1.av Q).av z).av A,(k2.av z).av A,k3.av A,k4,Ar (Ar (Ar b1 lR Q) lR z) lR A⟩
 intro q d;have s0:q ⟨(w:Nat)+1+1+1,0,M⟩=K (.map (K ((w:Nat)+1+1))):=d.2.2.2.1.cell 0;have aa:Ae (Ai Aq 59 #[.map (K ((w:Nat)+1+1)),B] q λe I=>e=Am (.tuple #[])/\(∃C D,AQ I ((w:Nat)+1+1) C D/\C+Bq a n<=n+1/\∀x:Nat,Go.Maps.has D (.int Af (x:Int))=a.contains x)/\q.grownBy I (K ((w:Nat)+1+1))):=by
  rcases hS with⟨rfl,rfl⟩|⟨x,F,R,rfl,hx,rfl,hc⟩
  . refine(Wl _ q).mono ?_;rintro e I ⟨rfl,rfl⟩;exact⟨rfl,⟨0,.map [],d.2.2.1,by rw[GY];omega, λx=>rfl⟩,⟨rfl,rfl,rfl,Nat.le_refl _, λ_ _ _=>rfl⟩⟩
  refine(Da _ 0 F R _ (x:Int) q (Dh oM) oM (Az d.2.2.2.2 hc) (by have:=lT hc;simp only[]at this;omega) d.2.2.1).mono ?_;rintro e I ⟨rfl,U,W⟩;refine⟨rfl,⟨_,_,U,?_, λy=> ?_⟩,W⟩
  . have:=FP [] n x hx sP;rw[GY]at this;omega
  rw[Ep _ (oD d.2.2.1)];by_cases e:y=x
  . subst e;simp
  have:¬(y:Int)=(x:Int):=oM;simp[e,this];rfl
 clear hS;go_wp2_with fail;refine aa.mono ?_;rintro e f ⟨rfl,aq,t⟩;have p:=Aw (lN (d.1.gb t oT) (lN (d.2.1.gb t sP) (lN aq (lN (d.2.2.2.1.gb t sP) (d.2.2.2.2.grown t d.2.2.2.2.size (λj hj=>by cases hj;omega))))));clear aq t aa d s0;have aK:= @H1 Aq;have kF:=Ay.new f #[.nilFunc] 219;have c9:(Ac f (Ak #[.nilFunc] 219)) f=K .nilFunc:=kF.cell 0;have f9:=kF.frozen 0;have ae:Ae (PO w (Ac f (Ak #[.func (.func 134) #[] #[.pointer (K ⟨(w:Nat)+1+1+1,0,M⟩),.pointer w,.pointer f,.pointer (K ⟨(w:Nat)+1,0,M⟩)]] 219)) n ((w:Nat)+1+1) ((w:Nat)+1+1+1) w f ((w:Nat)+1) (Z (K ⟨g,o,M⟩) n c) (Z M 0 0) a []):=by have s:=Al f (Ak #[qg ((w:Nat)+1+1+1) w f ((w:Nat)+1)] 219);obtain⟨C,D,U,W,h3⟩:=p.2.2.1;refine⟨⟨C,D,U.av s,W,h3⟩,p.2.2.2.1.av s,p.1.av s,Ay.new f _ _,p.2.1.av s,mX _ _ _ _,Ar p.2.2.2.2 lR s,⟨oM,oM⟩,?_⟩;have:=KL n (S:=[]) (S':=a) (λx hx=>by cases hx);rw[GY]at this;simpa using this
 go_upto_region 6 with fail
 refine Av (λu=>Ae (PO w u n ((w:Nat)+1+1) ((w:Nat)+1+1+1) w f ((w:Nat)+1) (Z (K ⟨g,o,M⟩) n c) (Z M 0 0) a [])) ae ?_;intro U2 L;clear ae kF c9 f9 p;obtain⟨m,ai⟩:∃m,m=f.heap.size:=⟨_,rfl⟩;rw[<-ai]at L⊢;clear ai;go_wp2;go_loopw [19] (λi wr=>∃(k:Nat) (V:J) (S O:List Nat),k<= ↑T/\i=.int Af k/\Ae (Vs E a [] (T.take k) S O/\PO w wr n ((w:Nat)+1+1) ((w:Nat)+1+1+1) w m ((w:Nat)+1) (Z (K ⟨g,o,M⟩) n c) V S O)) (λi _=> ↑T-(intOf i).toNat)
 case atStart=>exact⟨0,_,a,[],oM,rfl,by simpa using Vs.nil a [],L⟩
 clear L;obtain⟨k,V,S,O,hk,rfl,l⟩:=hrel;by_cases aE:k< ↑T
 . have aH:(k:Int)<(T:Int):=oM;obtain⟨y,G⟩:∃y,T[k]?=K y:=⟨_,an aE⟩;have aF:y<n:=H.2.2.2.1 y (lP G);obtain⟨ga,oa,rfl,_,y0⟩:=H.2.2.2.2.at_ G;(replace y0:=Az l.2.cq y0);have f0:wr m=K (.func (.func 134) #[] #[.pointer (K ⟨(w:Nat)+1+1+1,0,M⟩),.pointer w,.pointer m,.pointer (K ⟨(w:Nat)+1,0,M⟩)]):=l.2.wb.cell 0;(have HT:Ae (T.take (k+1)=T.take k++[y]):=by obtain⟨hl,rfl⟩:=f7.1 G;exact mZ hl);clear G;go_wp2_with fail;refine(Ym w g o c n ((w:Nat)+1+1) ((w:Nat)+1+1+1) w m ((w:Nat)+1) E hn H.2.1 H.2.2.1 H.1 _ S O y V wr rfl aF l.2 (λ_=>l.2.len)).mono ?_;rintro e u3 ⟨rfl,V3,P,N,ax,aj,aA⟩;have HN:Ae (Vs E a [] (T.take (k+1)) P N/\PO w u3 n ((w:Nat)+1+1) ((w:Nat)+1+1+1) w m ((w:Nat)+1) (Z (K ⟨g,o,M⟩) n c) V3 P N):=by refine⟨?_,aj⟩;rw[HT];exact l.1.jt ax
   clear ax aj aA y0 f0;go_wp2;go_roundw;(case rel=>exact⟨k+1,V3,P,N,oM,by go_num,HN⟩);exact oI
 obtain rfl:k=T.length:=oM;have l0:wr ⟨(w:Nat)+1,0,M⟩=K V:=l.2.lb.cell 0;have HF:Ae (Vs E a [] T S O):=by have:=l.1;rw[mm lR]at this;exact this
 go_wp2;go_ret;exact⟨V,S,O,rfl,HF,l.2.list,l.2.cq⟩
theorem Ta(xs:List MI)(x:MI)(e:Nat)(a:IY x=true/\e+1< ↑xs)(b:¬Bt x=true):Bc xs x e=[]++[((e:Int)+1)]:=by unfold Bc;rw[mE a,lY (λq=>b q.1)];rfl
theorem S6(xs:List MI)(x:MI)(e:Nat)(a:IY x=true/\e+1< ↑xs)(b:Bt x=true)(h:x.c=((e+1:Nat):Int)):Bc xs x e=[]++[((e:Int)+1)]:=by unfold Bc;rw[mE a,lY (λq=>q.2 ⟨a.1,a.2,h⟩)];rfl
theorem S8(xs:List MI)(x:MI)(e:Nat)(a:IY x=true/\e+1< ↑xs)(b:Bt x=true)(h:¬x.c=((e+1:Nat):Int)):Bc xs x e=[]++[((e:Int)+1)]++[x.c]:=by unfold Bc;rw[mE a,mE ⟨b, λq=>h q.2.2⟩];rfl
theorem S7(xs:List MI)(x:MI)(e:Nat)(a:¬(IY x=true/\e+1< ↑xs))(b:Bt x=true):Bc xs x e=[]++[x.c]:=by unfold Bc;rw[lY a,mE ⟨b, λq=>a ⟨q.1,q.2.1⟩⟩]
theorem S9(xs:List MI)(x:MI)(e:Nat)(a:¬(IY x=true/\e+1< ↑xs))(b:¬Bt x=true):Bc xs x e=[]:=by unfold Bc;rw[lY a,lY (λq=>b q.1)];rfl
theorem RL{q:Prop}(h:q:=by
 obtain⟨x0,x1,x2,x3⟩:=MI.kE (n:=0) HC HX HU1.cq;go_wp2_with fail;refine(CA x _).mono ?_;rintro e4 u4 ⟨rfl,b4⟩;have HU4:Ae (NP w u4 sN []):=HU1.av b4;clear b4;clear x0 x1 x2 x3;cases hgo:Bt x
 . go_wp2;go_ret;exact⟨_,rfl,by rw[S9 xs x e h1 (by rw[hgo];exact nU)];exact HU4.row,HU4.cq⟩
 obtain⟨hc0,hc1⟩:=HG.o e x HX hgo;go_wp2_with fail;refine(It M 0 x.c _).mono ?_;rintro e5 u5 ⟨rfl,hu⟩;have hu2:=hu.symm;clear hu;subst hu2;go_wp2_with (at_builtin;refine wpList_append_lies _ rfl _ _ 27 rfl w 2 k0 (iZ 0) 1 8 underlying27 hk hx0 hx1 hx2 rfl (by decide) _ ([]:List Int).length (Ad At ([]:List Int)) rfl (HU4.av (Al _ (Ak #[iZ (x.c)] 2))).row u4 1 1 [iZ (x.c)] rfl rfl (Fw u4 (x.c)) (λu hu=>by simp at hu;subst hu;rfl) (by omega) (by simp[maxLen]) (by simp) (HU4.av (Al _ (Ak #[iZ (x.c)] 2))).cq.size _ rfl ?_;intro g3 cap3 w3 hown hgrow hat hlt3;have HU5:Ae (NP w w3 (sG g3 (0+1) cap3) ([]++[x.c])):=HU4.jt hown rfl hgrow;clear hown hgrow hat hlt3);go_wp2;go_ret;exact⟨_,rfl,by rw[S7 xs x e h1 hgo];exact HU5.row,HU5.cq⟩):q:=h
theorem Mv(s:J)(xs:List MI)(x:MI)(e:Nat)(w:Y)(E:xs.length<=1024)(z:Ge xs)(b:xs[e]?=K x)(h:Rd w 4 s xs (Ad MI.cells xs)):
 Ai Aq 55 #[s,e] w λp A=>∃r,p=Am r/\Ab A w 2 1 r (Bc xs x e).length (Ad At (Bc xs x e))/\Ah w w A:=by
 obtain⟨k0,hk,hx0,hx1,hx2⟩:=nE Ct;have D:e<xs.length:=(f7.1 b).1;have HX:Ae (xs[e]?=K x):=b;have HG:Ae (Ge xs):=z;rcases h.2 with⟨G,_⟩|⟨g,o,c,rfl,hc1⟩
 . omega
 have HC:Ae (∀j v,(Ad MI.cells xs)[j]?=K v->w ⟨g,o+j,M⟩=K v):=hc1;clear h hc1 z b;generalize t:xs.length=n at E D;have f:Ae (↑xs=n):=t
 clear t;have I:(e:Int)<(n:Int):=oM;have k:Ae (NP w w sN []):=⟨mP _ _,mX _ _ _ _⟩;obtain⟨x0,x1,x2,x3⟩:=MI.kE (n:=0) HC HX (mP w w);go_enter func55,ntmps55;go_wp2_with fail;refine(LZ x _).mono ?_;rintro p d ⟨rfl,m⟩;have HU1:Ae (NP w d sN []):=k.av m;clear m x0 x1 x2 x3 k;cases hon:IY x
 . have h1:¬(IY x=true/\e+1< ↑xs):= λq=>by rw[hon]at q;exact absurd q.1 nU
   exact RL
 go_wp2_with fail;refine(Oc ((e:Int)+1) n _ oM).mono ?_;rintro H L ⟨rfl,hu⟩;have hu2:=hu.symm;clear hu;subst hu2;by_cases y:e+1<n
 . have h1:IY x=true/\e+1<xs.length:=⟨hon,by rw[f];exact y⟩
   rw[show decide (0<=(e:Int)+1/\(e:Int)+1<(n:Int))=true from oT]
   obtain⟨x0,x1,x2,x3⟩:=MI.kE (n:=0) HC HX HU1.cq;go_wp2_with (at_builtin;refine wpList_append_lies _ rfl _ _ 27 rfl w 2 k0 (iZ 0) 1 8 underlying27 hk hx0 hx1 hx2 rfl dC _ ([]:List Int).length (Ad At ([]:List Int)) rfl (HU1.av (Al _ (Ak #[iZ ((e:Int)+1)] 2))).row d 1 1 [iZ ((e:Int)+1)] rfl rfl (Fw d ((e:Int)+1)) (λu hu=>by simp at hu;subst hu;rfl) oM (by simp[maxLen]) sP (HU1.av (Al _ (Ak #[iZ ((e:Int)+1)] 2))).cq.size _ rfl ?_;intro g3 cap3 w3 hown hgrow hat hlt3;have l:Ae (NP w w3 (sG g3 (0+1) cap3) ([]++[(e:Int)+1])):=HU1.jt hown rfl hgrow;clear hown hgrow hat hlt3;obtain⟨x0,x1,x2,x3⟩:=MI.kE (n:=0) HC HX l.cq);go_wp2_with fail;refine(CA x _).mono ?_;rintro e4 u4 ⟨rfl,b4⟩;have HU4:Ae (NP w u4 (sG g3 (0+1) cap3) ([]++[((e:Int)+1)])):=l.av b4;clear b4;clear x0 x1 x2 x3;cases hgo:Bt x
   . go_wp2;go_ret;exact⟨_,rfl,by rw[Ta xs x e h1 (by rw[hgo];exact nU)];exact HU4.row,HU4.cq⟩
   obtain⟨hc0,hc1⟩:=HG.o e x HX hgo;have f5:=HU4.row.cellAt 0 sP;simp only[nO,mv,At,nW,lO]at f5;go_wp2_with fail;refine(O8 g3 cap3 ((e:Int)+1) x.c _ f5).mono ?_;rintro e5 u5 ⟨rfl,hu⟩;have hu2:=hu.symm;clear hu;subst hu2;by_cases a:x.c=(e:Int)+1
   . rw[show decide (x.c=(e:Int)+1)=true from by simpa using a];go_wp2;go_ret;exact⟨_,rfl,by rw[S6 xs x e h1 hgo (by rw[a];push_cast;rfl)];exact HU4.row,HU4.cq⟩
   rw[show decide (x.c=(e:Int)+1)=false from by simpa using a];go_wp2_with (at_builtin;refine wpList_append_lies _ rfl _ _ 27 rfl w 2 k0 (iZ 0) 1 8 underlying27 hk hx0 hx1 hx2 rfl dC _ (([]++[((e:Int)+1)]):List Int).length (Ad At (([]++[((e:Int)+1)]):List Int)) rfl (HU4.av (Al _ (Ak #[iZ (x.c)] 2))).row u4 1 1 [iZ (x.c)] rfl rfl (Fw u4 (x.c)) (λu hu=>by simp at hu;subst hu;rfl) oM (by simp[maxLen]) sP (HU4.av (Al _ (Ak #[iZ (x.c)] 2))).cq.size _ rfl ?_;intro C B F hown hgrow hat hlt3;have HU5:Ae (NP w F (sG C ((([]++[((e:Int)+1)]):List Int).length+1) B) (([]++[((e:Int)+1)])++[x.c])):=HU4.jt hown rfl hgrow;clear hown hgrow hat hlt3);go_wp2;go_ret;exact⟨_,rfl,by rw[S8 xs x e h1 hgo (λq=>a (by rw[q];push_cast;rfl))];exact HU5.row,HU5.cq⟩
 have h1:¬(IY x=true/\e+1< ↑xs):= λq=>y (by rw[<-f];exact q.2)
 rw[show decide (0<=(e:Int)+1/\(e:Int)+1<(n:Int))=false from oT]
 exact RL
theorem Mn{p:Nat}{r:J×List MC}(b:C[q]?=K r)(z:MC):Eh (C.map Prod.snd) q p z=(C.set q (r.1,r.2.set p z)).map Prod.snd:=by
 unfold Eh;rw[List.map_set];apply nj;intro j;rw[List.getElem?_modify,List.getElem?_set];by_cases a:q=j
 . subst a;have:=(f7.1 b).1;obtain⟨_,rfl⟩:=f7.1 b;simp[this]
 cases (List.map Prod.snd C)[j]?<;>simp[a]
theorem SX{z:MC}(h:l[q]?=K z)(f:MC->MC):l.modify q f=l.set q (f z):=by
 apply nj;intro j;rw[List.getElem?_modify,List.getElem?_set];by_cases a:q=j
 . subst a;have:=(f7.1 h).1;obtain⟨_,rfl⟩:=f7.1 h;simp[this]
 cases l[j]?<;>simp[a]
structure FI(p:MP)(f:MF)(g:MG)(x:MI)(C:List (J×List MC))(ar:List MC):Prop where
 prog:AY p 0
 ins:AV p f x
 three:C.length= ↑p.az
 cells:∀(i:Nat) (r:J×List MC) rt,C[i]?=K r->p.az[i]?=K rt->r.2.map MC.type=rt
 aB:g.aB.map MC.type=f.aP++f.aB
 lwf:∀z∈g.aB,z.wf
 awf:∀z∈ar,z.wf
 ij: ↑ar=(AA p f x).length
theorem FI.loc(h:FI p f g x C ar)(e:x.op=2\/x.op=3\/x.op=27):∃(q:Nat) (z:MC),x.a=q/\g.aB[q]?=K z/\z.type=AJ f x.a:=by
 obtain⟨q,c,b⟩:=h.ins.local e;rw[<-h.aB,mN]at b;cases hz:g.aB[q]? with
 |none=>rw[hz]at b;cases b
 | some z=>rw[hz]at b;exact⟨q,z,c,hz,mD b⟩
theorem FI.cell(h:FI p f g x C ar)(e:x.op=4\/x.op=5\/x.op=6\/x.op=7):∃(q m:Nat) (r:J×List MC) (rt:List Int),x.a=q/\x.b=m/\C[q]?=K r/\p.az[q]?=K rt/\r.2.map MC.type=rt/\rt[m]?=K (CU p x)/\r.2.length<=256/\C.length=3:=by
 have j:=h.prog.parts.1.1;obtain⟨q,z,rt,n,s,c,u⟩:=h.ins.cell j e;have d:=(f7.1 c).1;have k:C[q]?=K (C[q]'(by rw[h.three];exact d)):=an _
 have l:=h.cells q _ rt k c;refine⟨q,z,_,rt,n,s,k,c,l,u,?_,by rw[h.three,j]⟩;have t:Je rt:=h.prog.parts.1.2 q d rt c;have:(C[q]'(by rw[h.three];exact d)).2.length=rt.length:=by rw[<-l,mQ]
 rw[this];exact t.1
theorem JO{ts:List Int}{k:Nat}{t:Int}(b:l.map MC.type=ts)(a:ts[k]?=K t):∃z,l[k]?=K z/\z.type=t:=by
 rw[<-b,mN]at a;cases hz:l[k]? with
 |none=>rw[hz]at a;cases a
 |some z=>rw[hz]at a;exact⟨z,rfl,mD a⟩
theorem FI.masked(h:FI p f g x C ar)(e:x.op=6\/x.op=7):∃(q k d:Nat) (r:J×List MC),x.a=q/\x.b=k/\x.c=d/\d<256/\C[q]?=K r/\r.2.length<=256/\C.length=3/\∀l:Nat,∃z,r.2[k+(l &&& d)]?=K z/\z.type=CU p x:=by
 obtain⟨q,k,r,rt,n,s,w,v,F,A,B,D⟩:=h.cell oM;have m:=h.ins.jK e;obtain⟨d,y⟩:=mJ m.low;have G:=m.jy;refine⟨q,k,d,r,n,s,y,oM,w,B,D, λl=> ?_⟩;have H:l &&& d<=d:=Nat.and_le_right;have j:=m.one (l &&& d) (by rw[y];omega);have u:q<=2:=by have:=(f7.1 w).1;omega
 rw[n,s]at j;rw[<-Int.natCast_add,Ee u v,Ee u v]at j;have t:=m.there;rw[n,s,Ee u v]at t;rw[mI,mI,A]at j;rw[mI,A]at t;have E:rt[k+(l &&& d)]?=K (CU p x):=by
  cases e5:rt[k+(l &&& d)]? with
  |none=>rw[e5]at j;exact absurd j.symm t
  |some z=>rw[e5]at j;exact congrArg K j
 exact JO F E
theorem PD{z:MC}(h:z.wf):∃a:Nat,z.word=a/\a<=4294967295:=by
 have b:=h.2;have c:0<=z.word/\z.word<=4294967295:=by simpa[RT,Lit.wf,IntKind.min,IntKind.max,IntKind.signed,IntKind.bits]using b
 obtain⟨a,hw⟩:=mJ c.1;exact⟨a,hw,oM⟩
theorem Em(h:ar.length=2):∃c d,ar=[c,d]:=by
 match ar,h with
 |[a,b],_=>exact⟨a,b,rfl⟩
theorem GR(h:ar.length=1):∃b,ar=[b]:=by
 match ar,h with
 |[a],_=>exact⟨a,rfl⟩
theorem CI{b:Nat}(h:Ay w b #[a0,a,c] t):w b=K a0/\w ⟨b,1,M⟩=K a/\w ⟨b,2,M⟩=K c:=⟨h.cell 0,h.cell 1,h.cell 2⟩
theorem Bw(w:Y)(A B:Array J)(s t:Aj):Ay (Ac (Ac w (Ak A s)) (Ak B t)) w A s/\Ay (Ac (Ac w (Ak A s)) (Ak B t)) ((w:Nat)+1) B t/\Ah w w (Ac (Ac w (Ak A s)) (Ak B t)):=by
 have c:=Al w (Ak A s);have a:=Al (Ac w (Ak A s)) (Ak B t);refine⟨(Ay.new w _ _).av a,?_,Ar c lR a⟩;have b:=Ay.new (Ac w (Ak A s)) B t;have d:(Ac w (Ak A s)).heap.size= ↑w+1:=sP
 rw[d]at b;exact b
theorem Gw(w:Y)(A B C:Array J)(s t r:Aj):Ay (Ac (Ac (Ac w (Ak A s)) (Ak B t)) (Ak C r)) w A s/\Ay (Ac (Ac (Ac w (Ak A s)) (Ak B t)) (Ak C r)) ((w:Nat)+1) B t/\Ay (Ac (Ac (Ac w (Ak A s)) (Ak B t)) (Ak C r)) ((w:Nat)+1+1) C r/\Ah w w (Ac (Ac (Ac w (Ak A s)) (Ak B t)) (Ak C r)):=by
 obtain⟨e,f,g⟩:=Bw w A B s t;generalize c:Ac (Ac w (Ak A s)) (Ak B t)=u at*;have d:(u:Nat)= ↑w+1+1:=by rw[<-c];simp
 have a:=Al u (Ak C r);have b:=Ay.new u C r;rw[d]at b;exact⟨e.av a,f.av a,b,Ar g lR a⟩
theorem ML.jn(a b:ML):a=b↔a.head=b.head/\a.back=b.back/\a.a7=b.a7:=by obtain⟨c,d,e⟩:=a;obtain⟨f,g,h⟩:=b;simp
structure PF(w6 u:Y)(X:Nat)(Vb Vo Vi:J)(Is:List Int)(Vl:J)(ys:List (ML×J×J)):Prop where
 eI:Ay u X #[iZ 0,iZ 0,Vb,Vo,Vi,Vl] 61
 fg:CO u w6 ((Vi,Is)::Gn ys)
 km:Ab u w6 65 3 Vl ys (Ad FV ys)
 fx:∀k,k< ↑w6->k≠X->u.heap[k]?=w6.heap[k]?
 size:(w6:Nat)<= ↑u
 cq:Ah X w6 u
 lt:X< ↑w6
theorem Jw(E:Nat->List Nat)(D L:Nat->Nat->Bool)(n b:Nat):Bv E D L n (b+1)=Bv E D L n b++(if AP E D n b=[]then[]else[⟨(b:Int),ints (AP E D n b),ints ((List.range n).filter (L b))⟩]):=by
 unfold Bv;rw[pA,List.filterMap_append];by_cases h:AP E D n b=[]
 . simp[h]
 simp[h]
def zv(I:Nat->Int)(n:Nat):List J:=(List.range n).map λi=>Ag Af (I i)
theorem Ig(I:Nat->Int)(n:Nat):(zv I n).length=n:=by simp[zv]
theorem RP(I:Nat->Int)(n i:Nat)(h:i<n):(zv I n)[i]?=K ↑(I i):=by simp[zv,h]
theorem r7{I b:Nat->Int}{i:Nat}{x:Int}(h:∀j,b j=if j=i then x else I j):(zv I n).set i x=zv b n:=by
 apply nj;intro j;by_cases a:j<n
 . rw[RP _ _ _ a,h j];by_cases e:j=i
   . subst e;rw[nK (by rw[Ig];exact a),mE rfl]
   rw[ni oM,RP _ _ _ a,lY e]
 rw[mc (by simp[Ig];omega),mc (by rw[Ig];omega)]
theorem rZ(n:Nat):List.replicate n (Ag Af (-1))=zv (λ_=> -1) n:=by
 apply nj;intro j;by_cases a:j<n
 . rw[RP _ _ _ a];simp[a]
 rw[mc oT,mc (by rw[Ig];omega)]
theorem Z0(I:Nat->Int)(n:Nat):zv I n=Ad At ((List.range n).map I):=by
 unfold zv;rw[List.flatMap_map];induction List.range n with
 |nil=>rfl
 |cons x r a=>simp[At,a]
structure DW(w u:Y)(G n:Nat)(A:Array J)(gi:Nat)(I:Nat->Int):Prop where
 eI:∃x0 x1 x2 x3,A=#[x0,x1,x2,x3]/\Ay u G #[x0,x1,x2,x3,Z gi n n] 101
 row:Ab u w 2 1 (Z gi n n) n (zv I n)
 fx:∀k,k< ↑w->k≠G->u.heap[k]?=w.heap[k]?
 cq:Ah G w u
 size:(w:Nat)<= ↑u
 lt:G< ↑w
theorem DW.av{d:Y}{G n b:Nat}(h:DW w u G n A b I)(a:Ah u u d):DW w d G n A b I:=by obtain⟨g,j,l,x3,e,k⟩:=h.eI;exact⟨⟨g,j,l,x3,e,k.av a⟩,AD h.row a lR, λk c f=>by rw[a.block k (nH c h.size)];exact h.fx k c f,h.cq.trans (a.mono (by have:=h.lt;have:=h.size;omega)),mC h.size a.size,h.lt⟩
theorem DW.cell{c:Nat}(h:DW w u G n A c I){a:Addr}{x:J}(b:w a=K x)(d:a.block≠G):u a=K x:=by have:=h.fx a.block (lT b) d;unfold World.cell? at*;rw[this];exact b
theorem DW.set{a:Nat}{c:Nat->Int}(h:DW w u G n A a I)(b:Nat)(x:Int)(d:∀j,c j=if j=b then x else I j):DW w (Aa u ⟨a,b,M⟩ x) G n A a c:=by
 obtain⟨l,m,p,x3,e,k⟩:=h.eI;have q:=(AZ h.row).1;have r:=h.lt;refine⟨⟨l,m,p,x3,e,k.other oS _⟩,?_, λk f g=> ?_,h.cq.setCell oS _,by rw[oN];exact h.size,h.lt⟩
 . have:=(h.row.stored b x).1;rw[r7 d]at this;exact this
 rw[oJ u _ k _ oS];exact h.fx k f g
structure Km(E:Nat->List Nat)(n:Nat)(pl:Nat->Nat)(k j:Nat)(I:Nat->Int):Prop where
 jk:Jc E n pl I
 kT:M7 E n pl I k j
 kn:∀x,x<n->pl x<j->Kn I x
 all:k=0\/∀x,x<n->Kn I x
 z:I 0=-1
theorem Km.step{l:Nat->Nat}{k j b:Nat}{a:Nat->Int}{z:Int}(c:EU E n l)(h:Km E n l k j I)(d:b<n)(f:b≠0)(G:l b=j)(F:Be n I (Bo E n b) z)(p:∀y,a y=if y=b then z else I y):Km E n l k (j+1) a:=by
 subst G;have s:=Ho E n b;obtain⟨m,D,u,v,w,A⟩:=JQ c h.jk d f s h.kn F;have B:∀y,y≠b->I y=a y:= λy H=>by rw[p y,lY H]
 have r:a b=(m:Int):=by rw[p b,mE rfl,D]
 obtain⟨C,t,L,N⟩:=h.jk.set c d f s h.kn u v w A B r;refine⟨C,h.kT.set c h.jk d f s h.kn h.all u v w A B r, λx g O=> ?_,h.all.imp id λq x g=>t x (q x g),?_⟩
 . by_cases e:x=b
   . subst e;exact .inr (by rw[r];omega)
   refine t x (h.kn x g ?_);have:=c.inj x b g d;omega
 rw[p 0,lY (Ne.symm f)];exact h.z
structure PU(E:Nat->List Nat)(n:Nat)(pl:Nat->Nat)(I:Nat->Int):Prop where
 jk:Jc E n pl I
 all:∀x,x<n->Kn I x
 jE:∀d x,x<n->(EP I d x↔Ea E d x)
 z:I 0=-1
theorem Y9(D:DataW Unit)(z y:Int):Go.Maps.has (D.del (.int Af z)) (.int Af y)=(Go.Maps.has D (.int Af y)&& !decide (y=z)):=by
 by_cases h:y=z
 . subst h;rw[Go.Maps.has_del_same];simp
 rw[Go.Maps.has_del_other (λe=>h (by cases e;rfl))];simp[h]
theorem Xs(G n gN cN L cO:Nat)(R:List Nat)(w:Y)(hn:n<=1024)(O:∀x∈R,x<n)(ax:R.length<=1024)(B:w.cell? G=K (Z gN n cN))(p:w.cell? ⟨G,2,M⟩=K (Z L R cO))(N:∀k x:Nat,R[k]?=K x->w.cell? ⟨L,k,M⟩=K (.int Af (x:Int))):
 Ai Aq 24 #[.pointer G] w λe w'=>∃(g cap:Nat) (c:List Int),e=Am (Z g c cap)/\Ab w' w 2 1 (Z g c cap) c (Ad At c)/\c.Pairwise (· < ·)/\(∀z,z∈c↔∃x:Nat,z=(x:Int)/\x<n/\x∉R)/\Ah w w w':=by
 have H:=Aw (lN B (lN p (lN N O)));have aF:= @run_makeMap Aq;have A:=Al w (.map #[] 0);have c0:=Az A B;have v:Ae (AQ (Ac w (.map #[] 0)) w 0 (.map [])/\Ah w w (Ac w (.map #[] 0))):=⟨World.ownsMap_made _ _ _ _,A⟩
 clear B p N O A;go_enter func24,ntmps24;go_wp2;go_loopw [13] (λi wr=>∃k:Nat,k<=n/\i=.int Af k/\Ae (∃b D,b<=k/\AQ wr w b D/\(∀z:Int,Go.Maps.has D (.int Af z)=decide (0<=z/\z<(k:Int)))/\Ah w w wr)) (λi _=>n-(intOf i).toNat)
 case atStart=>exact⟨0,oM,rfl,0,.map [],oM,v.1, λz=>by
  have:¬(0<=z/\z<((0:Nat):Int)):=oM
  simp only[this,decide_false];rfl,v.2⟩
 case round=>
  clear v c0;obtain⟨k,hk,rfl,m⟩:=hrel;obtain⟨b,D,aA,h,f,d⟩:=m.o;have a:=Aw (lN h (lN f d));clear h f d m;by_cases aE:k<n
  . have aj:(k:Int)<(n:Int):=oM;have l:Ae ((Ac wr (Ak #[k] 2)) wr=K ↑k/\AQ (Ac wr (Ak #[k] 2)) w b D/\¬(wr:Nat)= ↑w/\Ah w w (Ac wr (Ak #[k] 2))):=⟨(Ay.new wr #[k] 2).cell 0,a.1.av (Al _ _),by have:=oL a.1;omega,Ar a.2.2 lR (Al _ _)⟩
    go_wp2_with fail;refine(Da w b wr 1 D (k:Int) _ (Dh oM) oM l.1 l.2.2.1 l.2.1).mono ?_;rintro e X ⟨rfl,W,F⟩;have u:Ae (∃b D,b<=k+1/\AQ X w b D/\(∀z:Int,Go.Maps.has D (.int Af z)=decide (0<=z/\z<((k+1:Nat):Int)))/\Ah w w X):=by refine⟨_,_,oM,W, λz=> ?_,l.2.2.2.grown F l.2.2.2.size (λj s=>by cases s;exact Nat.le_refl _)⟩;rw[Ep D (oD a.1),a.2.1 z,pN];simp;omega
    clear W F;go_wp2;go_roundw;(case rel=>exact⟨k+1,oM,by go_num,u⟩);exact oI
  have aa:k=n:=oM;have aj:¬(k:Int)<(n:Int):=oM;rw[aa]at a;have c2:=Az a.2.2 H.2.1;go_wp2;go_loopw [26] (λi wr=>∃j:Nat,j<= ↑R/\i=.int Af j/\Ae (∃D,AQ wr w b D/\(∀z:Int,Go.Maps.has D (.int Af z)=(decide (0<=z/\z<(n:Int))&& !(ints (R.take j)).contains z))/\Ah w w wr)) (λi _=> ↑R-(intOf i).toNat)
  case atStart=>exact⟨0,oM,rfl,D,a.1, λz=>by rw[a.2.1 z];simp[ints],a.2.2⟩
  clear a c2;obtain⟨j,s,rfl,m⟩:=hrel;obtain⟨D,h,f,d⟩:=m.o;clear m;by_cases ae:j< ↑R
  . have ai:(j:Int)<(R:Int):=oM;obtain⟨x,t⟩:∃x,R[j]?=K x:=⟨_,an ae⟩;have aG:x<n:=H.2.2.2 x (lP t);have o0:=Az d (H.2.2.1 j x t);(have HT:Ae (R.take (j+1)=R.take j++[x]):=by obtain⟨hl,rfl⟩:=f7.1 t;exact mZ hl);have a:Ae ((∀z:Int,Go.Maps.has D (.int Af z)=(decide (0<=z/\z<(n:Int))&& !(ints (R.take j)).contains z))/\Ah w w wr):=⟨f,d⟩
    have Q:wr.ownsMap Aq 2 (unitElem (H:=Unit)) w b D:=h;have aq:=Dh (x:=x) oM;clear t f d h;go_wp2_with (at_delete;refine wpList_delete_own _ rfl _ _ 164 2 rfl 89 EX underlying164 _ w b D rfl Q _ _ rfl (og underlying2 aq) ?_;intro w1 S U);have u:Ae (∃D,AQ w1 w b D/\(∀z:Int,Go.Maps.has D (.int Af z)=(decide (0<=z/\z<(n:Int))&& !(ints (R.take (j+1))).contains z))/\Ah w w w1):=by refine⟨_,S, λz=> ?_,a.2.grown U.grown a.2.size (λj s=>by cases s;exact Nat.le_refl _)⟩;rw[Y9,a.1 z,HT];unfold ints;rw[nS,Bool.and_assoc];(congr 1);rw[pN];simp
    clear S U o0 Q;go_roundw;(case rel=>exact⟨j+1,oM,by go_num,u⟩);exact oI
  have au:j=R.length:=oM;have ai:¬(j:Int)<(R:Int):=oM;have a:Ae ((∀z:Int,Go.Maps.has D (.int Af z)=(decide (0<=z/\z<(n:Int))&& !(ints R).contains z))/\Ah w w wr/\AQ wr w b D):=by rw[mm oM]at f;exact⟨f,d,h⟩
  clear f d h;go_wp2_with fail;refine(I7 w b D _ oM a.2.2).mono ?_;rintro e u9 ⟨I,E,c,rfl,V,T,P,C⟩;have r:Ae (Ab u9 w 2 1 (Z I c E) c (Ad At c)/\c.Pairwise (· < ·)/\(∀z,z∈c↔∃x:Nat,z=(x:Int)/\x<n/\x∉R)/\Ah w w u9):=by
   refine⟨BG V a.2.1.size,T, λz=> ?_,Ar a.2.1 lR C⟩;rw[P,a.1 z];simp only[mu,mo,Bool.not_eq_true',List.contains_eq_mem,o9];unfold ints;constructor
   . rintro⟨_,⟨h1,p⟩,h3⟩;refine⟨z.toNat,oM,oM, λq=>h3 (mV.2 ⟨z.toNat,q,oM⟩)⟩
   rintro⟨x,rfl,h1,p⟩;refine⟨Dh oM,⟨oM,oM⟩, λq=>p ?_⟩;obtain⟨y,hy,e⟩:=mV.1 q;have:y=x:=oM;rw[<-this];exact hy
  clear V T P C;go_wp2;go_ret;exact⟨I,E,c,rfl,r.1,r.2.1,r.2.2.1,r.2.2.2⟩
structure JL(w:Y)(vb vo vi vl:J)(r:DQ):Prop where
 a7:KQ w vb r.a7
 dr:Rd w 1 vo r.dr (Ad At r.dr)
 fv:Rd w 1 vi r.fv (Ad At r.fv)
 cv:Ln w vl r.cv
def tD:Array J:=#[iZ 0,iZ 0,sN,sN,sN,sN]
def six(U:Y)(b:Nat)(a c d x3 e f:J):Y:=Aa (Aa (Aa (Aa (Aa (U.setCell b a) ⟨b,1,M⟩ c) ⟨b,2,M⟩ d) ⟨b,3,M⟩ x3) ⟨b,4,M⟩ e) ⟨b,5,M⟩ f
theorem ZR{b:Nat}{g j k l m n:J}(h:Ay U b #[g,j,k,l,m,n] t)(a c d x3 e f:J):Ay (six U b a c d x3 e f) b #[a,c,d,x3,e,f] t:=by have:=(((((h.set 0 a).set 1 c).set 2 d).set 3 x3).set 4 e).set 5 f;simpa[six]using this
theorem Gu{b:Nat}{g j l m n p:J}(h:Ay U b #[g,j,l,m,n,p] t)(a c d x3 e f:J):(six U b a c d x3 e f) b=K a/\(six U b a c d x3 e f) ⟨b,1,M⟩=K c/\(six U b a c d x3 e f) ⟨b,2,M⟩=K d/\(six U b a c d x3 e f) ⟨b,3,M⟩=K x3/\(six U b a c d x3 e f) ⟨b,4,M⟩=K e/\(six U b a c d x3 e f) ⟨b,5,M⟩=K f:=by have k:=ZR h a c d x3 e f;exact⟨k.cell 0,k.cell 1,k.cell 2,k.cell 3,k.cell 4,k.cell 5⟩
theorem Gt{B b:Nat}(h:Ah B w U)(a:B<=b)(c d e x3 f g:J):Ah B w (six U b c d e x3 f g):=(((((h.setCell a _).setCell a _).setCell a _).setCell a _).setCell a _).setCell a _
theorem Lj{base b k n:Nat}(h:Ab U base e k s n ys)(c:s.ownBlock≠K b)(d f g x3 j l:J):(six U b d f g x3 j l).ownsRow base e k s n ys:=mR (mR (mR (mR (mR (mR h (a:=⟨b,0,M⟩) c _) (a:=⟨b,1,M⟩) c _) (a:=⟨b,2,M⟩) c _) (a:=⟨b,3,M⟩) c _) (a:=⟨b,4,M⟩) c _) (a:=⟨b,5,M⟩) c _
theorem tR{base b k n:Nat}(h:Ab U base e k s n ys)(j:b<base)(a c d x3 f g:J):Rd (six U b a c d x3 f g) k s n ys:=Rd.eP (Lj h (λq=>by have:=(h.lt b q).1;omega) a c d x3 f g)
theorem S3{base b k n:Nat}(h:Ab U base e k s n ys)(a:b<base):s.ownBlock≠K b:= λq=>by have:=(h.lt b q).1;omega
theorem UL{S O:List Nat}{D a:Nat->Nat->Bool}(e:n=(AR xs).length)(f:E=nx (AR xs))(m:Bd xs)(s:xs[xs.length-1]?=K x)(p:IY x=false)(r:Vs E [] [] [0] S O)(q:∀c,c<n->c∈S)(g:∀d b,D d b=true↔Ea E d b)(l:∀b,b<n->∀t∈E b,¬MX O D b t)(j:∀b,b<n->(b=0/\I b=-1)\/b≠0/\∃c:Nat,c<n/\I b=(c:Int)/\Fm E b c)(k:∀h y,a h y=true↔AW E D n h y):Ba xs ⟨0,0,AR xs,ints O.reverse,(List.range n).map I,Bv E D a n n⟩:=by subst e f;exact Ba.good m s p r q g l j k
theorem WF(p:MP)(f:MF)(g:MG)(s:MS)(x:MI):(DR p f g s x).trap=s.trap/\(DR p f g s x).cost=s.cost/\(DR p f g s x).steps=s.steps:=by
 unfold DR;simp only[];by_cases c:x.op=0\/x.op=24
 . rw[mE c];exact⟨rfl,rfl,rfl⟩
 rw[lY c];clear c;by_cases c:x.op=1
 . rw[mE c];exact⟨rfl,rfl,rfl⟩
 rw[lY c];clear c;by_cases c:x.op=2
 . rw[mE c];exact⟨rfl,rfl,rfl⟩
 rw[lY c];clear c;by_cases c:x.op=3
 . rw[mE c];exact⟨rfl,rfl,rfl⟩
 rw[lY c];clear c;by_cases c:x.op=4
 . rw[mE c];exact⟨rfl,rfl,rfl⟩
 rw[lY c];clear c;by_cases c:x.op=5
 . rw[mE c];exact⟨rfl,rfl,rfl⟩
 rw[lY c];clear c;by_cases c:x.op=6
 . rw[mE c];exact⟨rfl,rfl,rfl⟩
 rw[lY c];clear c;by_cases c:x.op=7
 . rw[mE c];exact⟨rfl,rfl,rfl⟩
 rw[lY c];clear c;by_cases c:x.op=16\/x.op=19
 . rw[mE c];exact⟨rfl,rfl,rfl⟩
 rw[lY c];clear c;by_cases c:x.op=20\/x.op=21
 . rw[mE c];exact⟨rfl,rfl,rfl⟩
 rw[lY c];clear c;by_cases c:8<=x.op/\x.op<=18
 . rw[mE c];exact⟨rfl,rfl,rfl⟩
 rw[lY c];clear c;by_cases c:x.op=22
 . rw[mE c];exact⟨rfl,rfl,rfl⟩
 rw[lY c];clear c;by_cases c:x.op=23
 . rw[mE c];exact⟨rfl,rfl,rfl⟩
 rw[lY c];clear c;by_cases c:x.op=25
 . rw[mE c];exact⟨rfl,rfl,rfl⟩
 rw[lY c];clear c;by_cases c:x.op=26
 . rw[mE c];split<;>exact⟨rfl,rfl,rfl⟩
 rw[lY c];clear c;by_cases c:x.op=27
 . rw[mE c];split<;>exact⟨rfl,rfl,rfl⟩
 rw[lY c];clear c;by_cases c:x.op=28
 . rw[mE c];exact⟨rfl,rfl,rfl⟩
 rw[lY c];exact⟨rfl,rfl,rfl⟩
structure PZ(p:MP)(k:Nat)(s:MS):Prop where
 sh:IF p s
 wf:s.wf
 cost:s.cost<=8*(k:Int)
 steps:s.steps<=(k:Int)
theorem PZ.next{k:Nat}{s s':MS}(m:p.wf)(w:k<=1048576)(h:PZ p k s)(t:s.trap=0)(n:Bb p s s')(b:s'.trap=0)(l:s'.done=false):PZ p (k+1) s':=by
 cases n with
 |jump e1 e2 e3=>simp only[]at b;omega
 |trap e1 e2 e3 e4 e5 e6=>exact absurd b e6
 | does e1 e2 e3 e4 e5=>rename_i g f x;have a:=h.sh.prog.iR e2 e4;have v:=N3 a.1 a.2.1;have u:=h.cost;have y:=h.steps;have c0:=h.sh.cost;have z:=h.sh.steps;have e:IF p {s with steps:=s.steps+1,cost:=s.cost+Bl x.op}:=⟨h.sh.prog,⟨oS,oS⟩,⟨oS,oS⟩,h.sh.three,h.sh.cells,h.sh.jy,h.sh.stack,h.sh.ne0,h.sh.deep,h.sh.dk,h.sh.j9⟩;have j:({s with steps:=s.steps+1,cost:=s.cost+Bl x.op}:MS).wf:=⟨h.wf.trap,DB oS oS,DB oS oS,h.wf.cells,h.wf.stack,h.wf.dk⟩;obtain⟨q,r⟩:=Zu m e j e1 e2 e3 e4 e5 l;obtain⟨_,c,d⟩:=WF p f g {s with steps:=s.steps+1,cost:=s.cost+Bl x.op} x;exact⟨q,r,by rw[c];simp only[];omega,by rw[d];simp only[];omega⟩
inductive Do (p:MP):Nat->MS->MS->Prop
 |zero {s:MS}:Do p 0 s s
 |next {k:Nat} {s s1 s2:MS}:Do p k s s1->s1.trap=0->s1.done=false->Bb p s1 s2->Do p (k+1) s s2
theorem Do.one{k:Nat}{s a b:MS}(h:Do p k s a)(c:Do p k s b):a=b:=by
 induction h generalizing b with
 |zero=>cases c;rfl
 | next m n q f g=>
   cases c with
   | next d j l e=>obtain rfl:=g d;exact f.one e
def Tv(p:MP)(n:Nat)(s s':MS):Prop:=∃k,Do p k s s'/\(k=n\/(k<n/\(s'.trap≠0\/s'.done=true)))
theorem Do.ahead{k:Nat}{s a:MS}(h:Do p k s a):∀{j:Nat} {b:MS},Do p j s b->j<k->∃c,Do p j s c/\c.trap=0/\c.done=false:=by
 induction h with
 |zero=>intro j b d m;omega
 | @next k s s1 s2 f g l q n=>
   intro j b d m;by_cases e:j=k
   . subst e;exact⟨s1,f,g,l⟩
   exact n d oM
theorem Tv.one{s a b:MS}(h:Tv p n s a)(q:Tv p n s b):a=b:=by
 obtain⟨k,f,l⟩:=h;obtain⟨j,d,g⟩:=q;have t:k=j:=by
  rcases Nat.lt_trichotomy k j with e|e|e
  . obtain⟨c,c1,c2,c3⟩:=d.ahead f e;obtain rfl:=f.one c1;rcases l with l|⟨l,r⟩
    . omega
    simp[c2,c3]at r
  . exact e
  obtain⟨c,c1,c2,c3⟩:=f.ahead d e;obtain rfl:=d.one c1;rcases g with g|⟨g,m⟩
  . omega
  simp[c2,c3]at m
 subst t;exact f.one d
theorem Ec{b:Nat}{d:J}(h:Ay w b #[a0,a,c,d] t):w.cell? b=K a0/\w.cell? ⟨b,1,M⟩=K a/\w.cell? ⟨b,2,M⟩=K c/\w.cell? ⟨b,3,M⟩=K d:=⟨h.cell 0,h.cell 1,h.cell 2,h.cell 3⟩
theorem BO.few{a:List MC}{c:MT}(h:Jl xs m-1<m.cz):¬BO a xs m c:= λe=>by have:=e.1;omega
theorem BO.iff{h:List MC}{c:MT}{k:Nat}{y:MI}(p:Jl xs m=((k+1:Nat):Int))(s:m.cz<=(k:Int))(q:xs[k]?=K x)(r:xs[k+1]?=K y):BO h xs m c↔x.op=1/\y.op=3/\y.a=c.dT/\∃v,h[x.a.toNat]?=K v/\v.type=3/\v.word=c.init:=by
 have j:(((k+1:Nat):Int)-1).toNat=k:=oM;unfold BO;rw[p,j,lV,q,r];constructor
 . rintro⟨_,t,u,v,l,n,b,d,e,f,g⟩;(cases l);(cases n);exact⟨b,d,e,v,f,g⟩
 rintro⟨b,d,e,v,f,g⟩;exact⟨oM,x,y,v,rfl,rfl,b,d,e,f,g⟩
theorem UG{e:Nat}(h:m.last=(e:Int))(a:xs[e]?=K x)(q:x.op=25):Jl xs m=(e:Int)-1:=by unfold Jl;rw[h,lV,a];simp only[q,if_true]
theorem UF{e:Nat}(h:m.last=(e:Int))(a:xs[e]?=K x)(q:¬x.op=25):Jl xs m=(e:Int):=by unfold Jl;rw[h,lV,a];simp only[q,if_false]
structure VL where
 b:J
 k:J
def M4(w:Y)(v:VL)(m:ML):Prop:=M3 w (m,v.b,v.k)
def ML.small(m:ML):Prop:=m.back.length<=1048576/\m.a7.length<=1048576
theorem M4.av{c:Y}{v:VL}{m:ML}(h:M4 w v m){B:Nat}(b:Ah B w c)(a: ↑w<=B):M4 c v m:=⟨Rd.av h.1 b a,Rd.av h.2 b a⟩
end Go.Proofs.YtkgohaigebcgoaaGreatDoor
