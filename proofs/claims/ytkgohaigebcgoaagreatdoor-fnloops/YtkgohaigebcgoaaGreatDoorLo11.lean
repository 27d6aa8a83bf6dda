import Derived.Test.YtkgohaigebcgoaaGreatDoorLo9
import Derived.Deep.LoopGhost
import Derived.BigRegion
namespace Go.Proofs.YtkgohaigebcgoaaGreatDoor
open Go.ChangeShapes Go.WideShapes Go.ChangeAt Go.RowKit Go.Proofs.Tryz
set_option linter.unusedVariables false
open Go.Value renaming slice → Z,int → Ag
open Option renaming some → K,none → M
open Go renaming Value → J,World → Y,Calls → Ai,TypeId → Aj
open Go.RowKit renaming Hid → Ae,Below → Ah
open Go.IntKind renaming i64 → Af
open Go.Obj renaming cells → Ak
open Go.Ending renaming returned → Am
open Go.Proofs.Tryz renaming prog → Aq
open Go.World renaming alloc → Ac,ownsRow → Ab,setCell → Aa
open List renaming flatMap → Ad
set_option maxHeartbeats 8000000
set_option maxRecDepth 100000
variable {C:List (J×List MC)}{q n G B:Nat}{p:MP}{l ar:List MC}{f:MF}{g:MG}{x:MI}{t e:Aj}{w u d U:Y}{a0 a c s:J}{A:Array J}{I:Nat->Int}{E:Nat->List Nat}{m:MB}{ys:List J}{xs:List MI}{D:List (MB×J)}{L:List (J×List Int)}
theorem Ie(P:Program)(w:Y)(a:Addr)(m:Mode)(f:Fn)(x y:Array J):(store a (.func f x y) m).run P w=stored P w a (.func f x y) m:=run_store P w a _ m rfl
theorem II(g o c n:Nat)(E:Nat->List Nat)(sv:J)(T:List Nat)(B:J)(a:List Nat)(w:Y)(hn:n<=1024)(hE:∀b,b<n->∀x∈E b,x<n)(au:∀b,(E b).length<=2048)(h:Gh w g o n E)(hT:∀x∈T,x<n)(aG:T.length<=4096)(X:Lp w sv T)(hS:(B=Z M 0 0/\a=[])\/∃x F R:Nat,a=[x]/\x<n/\B=Z F 1 R/\w F=K ↑(x:Int)):
 Ai Aq 57 #[Z (K ⟨g,o,M⟩) n c,sv,B] w λe w'=>∃V S O,e=Am V/\Vs E a [] T S O/\K5 w' w V O/\Ah w w w':=by
 have H:=Aw (fd h (fd hE (fd au (fd hT X))));obtain⟨at_,ct,rfl⟩:=Rd.aP X;clear h hE au hT X;have aJ:= @run_makeMap Aq;have aI:∀(fn:Fn) (first cap:Array J) (w:Y),(Instr.makeFunc fn first cap).run Aq w=.ok (.func fn first cap) w:= λ_ _ _ _=>rfl
 go_enter func57,ntmps57;go_upto_region 3 with fail
 refine Av (λu=>Ae (Ay u w #[Z (K ⟨g,o,M⟩) n c] 28/\Ay u ((w:Nat)+1) #[Z M 0 0] 27/\AP u ((w:Nat)+1+1) 0 (.map [])/\Ay u ((w:Nat)+1+1+1) #[.map (K ((w:Nat)+1+1))] 164/\Ah w w u)) ?_ ?_
 . have b1:=Al w (Ak #[Z (K ⟨g,o,M⟩) n c] 28);have k1:=Ay.new w #[Z (K ⟨g,o,M⟩) n c] 28;have z1:(Ac w (Ak #[Z (K ⟨g,o,M⟩) n c] 28)).heap.size= ↑w+1:=sP
   generalize Ac w (Ak #[Z (K ⟨g,o,M⟩) n c] 28)=v at b1 k1 z1⊢;have Q:=Al v (Ak #[Z M 0 0] 27);have k2:=Ay.new v #[Z M 0 0] 27;have z2:(Ac v (Ak #[Z M 0 0] 27)).heap.size= ↑w+1+1:=by simp[z1]
   rw[z1]at k2;generalize Ac v (Ak #[Z M 0 0] 27)=r at Q k2 z2⊢;have z:=Al r (.map #[] 0);have k3:AP (Ac r (.map #[] 0)) r 0 (.map []):=World.ownsMap_made _ _ _ _;have z3:(Ac r (.map #[] 0)).heap.size= ↑w+1+1+1:=by simp[z2]
   rw[z2]at k3;generalize Ac r (.map #[] 0)=W3 at z k3 z3⊢;have A:=Al W3 (Ak #[.map (K ((w:Nat)+1+1))] 164);have k4:=Ay.new W3 #[.map (K ((w:Nat)+1+1))] 164;rw[z3]at k4;exact⟨((k1.av Q).av z).av A,(k2.av z).av A,k3.av A,k4,Ar (Ar (Ar b1 lR Q) lR z) lR A⟩
 intro q d;have s0:q ⟨(w:Nat)+1+1+1,0,M⟩=K (.map (K ((w:Nat)+1+1))):=d.2.2.2.1.cell 0;have aa:Ae (Ai Aq 59 #[.map (K ((w:Nat)+1+1)),B] q λe I=>e=Am (.tuple #[])/\(∃C D,AP I ((w:Nat)+1+1) C D/\C+Br a n<=n+1/\∀x:Nat,Go.Maps.has D (.int Af (x:Int))=a.contains x)/\q.grownBy I (K ((w:Nat)+1+1))):=by
  rcases hS with⟨rfl,rfl⟩|⟨x,F,R,rfl,hx,rfl,hc⟩
  . refine(WC _ q).mono ?_;rintro e I ⟨rfl,rfl⟩;exact⟨rfl,⟨0,.map [],d.2.2.1,by rw[Ha];omega, λx=>rfl⟩,⟨rfl,rfl,rfl,Nat.le_refl _, λ_ _ _=>rfl⟩⟩
  refine(Dh _ 0 F R _ (x:Int) q (Dm oM) oM (Az d.2.2.2.2 hc) (by have:=i7 hc;simp only[]at this;omega) d.2.2.1).mono ?_;rintro e I ⟨rfl,U,W⟩;refine⟨rfl,⟨_,_,U,?_, λy=> ?_⟩,W⟩
  . have:=FW [] n x hx sP;rw[Ha]at this;omega
  rw[Ew _ (lU d.2.2.1)];by_cases e:y=x
  . subst e;simp
  have:¬(y:Int)=(x:Int):=oM;simp[e,this];rfl
 clear hS;go_wp2_with fail;refine aa.mono ?_;rintro e f ⟨rfl,aq,t⟩;have p:=Aw (fd (d.1.gb t oT) (fd (d.2.1.gb t sP) (fd aq (fd (d.2.2.2.1.gb t sP) (d.2.2.2.2.grown t d.2.2.2.2.size (λj hj=>by cases hj;omega))))));clear aq t aa d s0;have aK:= @Ie Aq;have kF:=Ay.new f #[.nilFunc] 219;have c9:(Ac f (Ak #[.nilFunc] 219)) f=K .nilFunc:=kF.cell 0;have f9:=kF.frozen 0;have ae:Ae (PO w (Ac f (Ak #[.func (.func 134) #[] #[.pointer (K ⟨(w:Nat)+1+1+1,0,M⟩),.pointer w,.pointer f,.pointer (K ⟨(w:Nat)+1,0,M⟩)]] 219)) n ((w:Nat)+1+1) ((w:Nat)+1+1+1) w f ((w:Nat)+1) (Z (K ⟨g,o,M⟩) n c) (Z M 0 0) a []):=by have s:=Al f (Ak #[nX ((w:Nat)+1+1+1) w f ((w:Nat)+1)] 219);obtain⟨C,D,U,W,h3⟩:=p.2.2.1;refine⟨⟨C,D,U.av s,W,h3⟩,p.2.2.2.1.av s,p.1.av s,Ay.new f _ _,p.2.1.av s,kH _ _ _ _,Ar p.2.2.2.2 lR s,⟨oM,oM⟩,?_⟩;have:=KY n (S:=[]) (S':=a) (λx hx=>by cases hx);rw[Ha]at this;simpa using this
 go_upto_region 6 with fail
 refine Av (λu=>Ae (PO w u n ((w:Nat)+1+1) ((w:Nat)+1+1+1) w f ((w:Nat)+1) (Z (K ⟨g,o,M⟩) n c) (Z M 0 0) a [])) ae ?_;intro U2 L;clear ae kF c9 f9 p;obtain⟨m,ai⟩:∃m,m=f.heap.size:=⟨_,rfl⟩;rw[<-ai]at L⊢;clear ai;go_wp2;go_loopw [19] (λi wr=>∃(k:Nat) (V:J) (S O:List Nat),k<= ↑T/\i=.int Af k/\Ae (Vs E a [] (T.take k) S O/\PO w wr n ((w:Nat)+1+1) ((w:Nat)+1+1+1) w m ((w:Nat)+1) (Z (K ⟨g,o,M⟩) n c) V S O)) (λi _=> ↑T-(intOf i).toNat)
 case atStart=>exact⟨0,_,a,[],oM,rfl,by simpa using Vs.nil a [],L⟩
 clear L;obtain⟨k,V,S,O,hk,rfl,l⟩:=hrel;by_cases aE:k< ↑T
 . have aH:(k:Int)<(T:Int):=oM;obtain⟨y,G⟩:∃y,T[k]?=K y:=⟨_,an aE⟩;have aF:y<n:=H.2.2.2.1 y (hC G);obtain⟨ga,oa,rfl,_,y0⟩:=H.2.2.2.2.at_ G;(replace y0:=Az l.2.cq y0);have f0:wr m=K (.func (.func 134) #[] #[.pointer (K ⟨(w:Nat)+1+1+1,0,M⟩),.pointer w,.pointer m,.pointer (K ⟨(w:Nat)+1,0,M⟩)]):=l.2.wb.cell 0;(have HT:Ae (T.take (k+1)=T.take k++[y]):=by obtain⟨hl,rfl⟩:=f7.1 G;exact kN hl);clear G;go_wp2_with fail;refine(YL w g o c n ((w:Nat)+1+1) ((w:Nat)+1+1+1) w m ((w:Nat)+1) E hn H.2.1 H.2.2.1 H.1 _ S O y V wr rfl aF l.2 (λ_=>l.2.len)).mono ?_;rintro e u3 ⟨rfl,V3,P,N,ax,aj,aA⟩;have HN:Ae (Vs E a [] (T.take (k+1)) P N/\PO w u3 n ((w:Nat)+1+1) ((w:Nat)+1+1+1) w m ((w:Nat)+1) (Z (K ⟨g,o,M⟩) n c) V3 P N):=by refine⟨?_,aj⟩;rw[HT];exact l.1.fK ax
   clear ax aj aA y0 f0;go_wp2;go_roundw;(case rel=>exact⟨k+1,V3,P,N,oM,by go_num,HN⟩);exact oI
 obtain rfl:k=T.length:=oM;have l0:wr ⟨(w:Nat)+1,0,M⟩=K V:=l.2.lb.cell 0;have HF:Ae (Vs E a [] T S O):=by have:=l.1;rw[kP lR]at this;exact this
 go_wp2;go_ret;exact⟨V,S,O,rfl,HF,l.2.list,l.2.cq⟩
theorem Ti(xs:List MI)(x:MI)(e:Nat)(a:Ij x=true/\e+1< ↑xs)(b:¬Bv x=true):Bc xs x e=[]++[((e:Int)+1)]:=by unfold Bc;rw[jP a,jH (λq=>b q.1)];rfl
theorem Te(xs:List MI)(x:MI)(e:Nat)(a:Ij x=true/\e+1< ↑xs)(b:Bv x=true)(h:x.c=((e+1:Nat):Int)):Bc xs x e=[]++[((e:Int)+1)]:=by unfold Bc;rw[jP a,jH (λq=>q.2 ⟨a.1,a.2,h⟩)];rfl
theorem Tg(xs:List MI)(x:MI)(e:Nat)(a:Ij x=true/\e+1< ↑xs)(b:Bv x=true)(h:¬x.c=((e+1:Nat):Int)):Bc xs x e=[]++[((e:Int)+1)]++[x.c]:=by unfold Bc;rw[jP a,jP ⟨b, λq=>h q.2.2⟩];rfl
theorem Tf(xs:List MI)(x:MI)(e:Nat)(a:¬(Ij x=true/\e+1< ↑xs))(b:Bv x=true):Bc xs x e=[]++[x.c]:=by unfold Bc;rw[jH a,jP ⟨b, λq=>a ⟨q.1,q.2.1⟩⟩]
theorem Th(xs:List MI)(x:MI)(e:Nat)(a:¬(Ij x=true/\e+1< ↑xs))(b:¬Bv x=true):Bc xs x e=[]:=by unfold Bc;rw[jH a,jH (λq=>b q.1)];rfl
theorem RZ{q:Prop}(h:q:=by
 obtain⟨x0,x1,x2,x3⟩:=MI.iM (n:=0) HC HX HU1.cq;go_wp2_with fail;refine(CD x _).mono ?_;rintro e4 u4 ⟨rfl,b4⟩;have HU4:Ae (NP w u4 sN []):=HU1.av b4;clear b4;clear x0 x1 x2 x3;cases hgo:Bv x
 . go_wp2;go_ret;exact⟨_,rfl,by rw[Th xs x e h1 (by rw[hgo];exact lF)];exact HU4.row,HU4.cq⟩
 obtain⟨hc0,hc1⟩:=HG.o e x HX hgo;go_wp2_with fail;refine(Iz M 0 x.c _).mono ?_;rintro e5 u5 ⟨rfl,hu⟩;have hu2:=hu.symm;clear hu;subst hu2;go_wp2_with (at_builtin;refine wpList_append_lies _ rfl _ _ 27 rfl w 2 k0 (iZ 0) 1 8 underlying27 hk hx0 hx1 hx2 rfl (by decide) _ ([]:List Int).length (Ad As ([]:List Int)) rfl (HU4.av (Al _ (Ak #[iZ (x.c)] 2))).row u4 1 1 [iZ (x.c)] rfl rfl (FC u4 (x.c)) (λu hu=>by simp at hu;subst hu;rfl) (by omega) (by simp[maxLen]) (by simp) (HU4.av (Al _ (Ak #[iZ (x.c)] 2))).cq.size _ rfl ?_;intro g3 cap3 w3 hown hgrow hat hlt3;have HU5:Ae (NP w w3 (sG g3 (0+1) cap3) ([]++[x.c])):=HU4.fK hown rfl hgrow;clear hown hgrow hat hlt3);go_wp2;go_ret;exact⟨_,rfl,by rw[Tf xs x e h1 hgo];exact HU5.row,HU5.cq⟩):q:=h
theorem MK(s:J)(xs:List MI)(x:MI)(e:Nat)(w:Y)(D:xs.length<=1024)(y:Gk xs)(b:xs[e]?=K x)(h:Rd w 4 s xs (Ad MI.cells xs)):
 Ai Aq 55 #[s,e] w λm z=>∃r,m=Am r/\Ab z w 2 1 r (Bc xs x e).length (Ad As (Bc xs x e))/\Ah w w z:=by
 obtain⟨k0,hk,hx0,hx1,hx2⟩:=km Cy;have C:e<xs.length:=(f7.1 b).1;have HX:Ae (xs[e]?=K x):=b;have HG:Ae (Gk xs):=y;rcases h.2 with⟨F,_⟩|⟨g,o,c,rfl,hc1⟩
 . omega
 have HC:Ae (∀j v,(Ad MI.cells xs)[j]?=K v->w ⟨g,o+j,M⟩=K v):=hc1;clear h hc1 y b;generalize p:xs.length=n at D C;have f:Ae (↑xs=n):=p
 clear p;have H:(e:Int)<(n:Int):=oM;have i:Ae (NP w w sN []):=⟨jZ _ _,kH _ _ _ _⟩;obtain⟨x0,x1,x2,x3⟩:=MI.iM (n:=0) HC HX (jZ w w);go_enter func55,ntmps55;go_wp2_with fail;refine(Md x _).mono ?_;rintro m d ⟨rfl,l⟩;have HU1:Ae (NP w d sN []):=i.av l;clear l x0 x1 x2 x3 i;cases hon:Ij x
 . have h1:¬(Ij x=true/\e+1< ↑xs):= λq=>by rw[hon]at q;exact absurd q.1 lF
   exact RZ
 go_wp2_with fail;refine(Oc ((e:Int)+1) n _ oM).mono ?_;rintro G I ⟨rfl,hu⟩;have hu2:=hu.symm;clear hu;subst hu2;by_cases t:e+1<n
 . have h1:Ij x=true/\e+1<xs.length:=⟨hon,by rw[f];exact t⟩
   rw[show decide (0<=(e:Int)+1/\(e:Int)+1<(n:Int))=true from oT]
   obtain⟨x0,x1,x2,x3⟩:=MI.iM (n:=0) HC HX HU1.cq;go_wp2_with (at_builtin;refine wpList_append_lies _ rfl _ _ 27 rfl w 2 k0 (iZ 0) 1 8 underlying27 hk hx0 hx1 hx2 rfl dC _ ([]:List Int).length (Ad As ([]:List Int)) rfl (HU1.av (Al _ (Ak #[iZ ((e:Int)+1)] 2))).row d 1 1 [iZ ((e:Int)+1)] rfl rfl (FC d ((e:Int)+1)) (λu hu=>by simp at hu;subst hu;rfl) oM (by simp[maxLen]) sP (HU1.av (Al _ (Ak #[iZ ((e:Int)+1)] 2))).cq.size _ rfl ?_;intro g3 cap3 w3 hown hgrow hat hlt3;have k:Ae (NP w w3 (sG g3 (0+1) cap3) ([]++[(e:Int)+1])):=HU1.fK hown rfl hgrow;clear hown hgrow hat hlt3;obtain⟨x0,x1,x2,x3⟩:=MI.iM (n:=0) HC HX k.cq);go_wp2_with fail;refine(CD x _).mono ?_;rintro e4 u4 ⟨rfl,b4⟩;have HU4:Ae (NP w u4 (sG g3 (0+1) cap3) ([]++[((e:Int)+1)])):=k.av b4;clear b4;clear x0 x1 x2 x3;cases hgo:Bv x
   . go_wp2;go_ret;exact⟨_,rfl,by rw[Ti xs x e h1 (by rw[hgo];exact lF)];exact HU4.row,HU4.cq⟩
   obtain⟨hc0,hc1⟩:=HG.o e x HX hgo;have f5:=HU4.row.cellAt 0 sP;simp only[k7,ke,As,lI,f8]at f5;go_wp2_with fail;refine(Pb g3 cap3 ((e:Int)+1) x.c _ f5).mono ?_;rintro e5 u5 ⟨rfl,hu⟩;have hu2:=hu.symm;clear hu;subst hu2;by_cases a:x.c=(e:Int)+1
   . rw[show decide (x.c=(e:Int)+1)=true from by simpa using a];go_wp2;go_ret;exact⟨_,rfl,by rw[Te xs x e h1 hgo (by rw[a];push_cast;rfl)];exact HU4.row,HU4.cq⟩
   rw[show decide (x.c=(e:Int)+1)=false from by simpa using a];go_wp2_with (at_builtin;refine wpList_append_lies _ rfl _ _ 27 rfl w 2 k0 (iZ 0) 1 8 underlying27 hk hx0 hx1 hx2 rfl dC _ (([]++[((e:Int)+1)]):List Int).length (Ad As (([]++[((e:Int)+1)]):List Int)) rfl (HU4.av (Al _ (Ak #[iZ (x.c)] 2))).row u4 1 1 [iZ (x.c)] rfl rfl (FC u4 (x.c)) (λu hu=>by simp at hu;subst hu;rfl) oM (by simp[maxLen]) sP (HU4.av (Al _ (Ak #[iZ (x.c)] 2))).cq.size _ rfl ?_;intro B A E hown hgrow hat hlt3;have HU5:Ae (NP w E (sG B ((([]++[((e:Int)+1)]):List Int).length+1) A) (([]++[((e:Int)+1)])++[x.c])):=HU4.fK hown rfl hgrow;clear hown hgrow hat hlt3);go_wp2;go_ret;exact⟨_,rfl,by rw[Tg xs x e h1 hgo (λq=>a (by rw[q];push_cast;rfl))];exact HU5.row,HU5.cq⟩
 have h1:¬(Ij x=true/\e+1< ↑xs):= λq=>t (by rw[<-f];exact q.2)
 rw[show decide (0<=(e:Int)+1/\(e:Int)+1<(n:Int))=false from oT]
 exact RZ
theorem Mx{p:Nat}{r:J×List MC}(b:C[q]?=K r)(z:MC):En (C.map Prod.snd) q p z=(C.set q (r.1,r.2.set p z)).map Prod.snd:=by
 unfold En;rw[List.map_set];apply lN;intro j;rw[List.getElem?_modify,List.getElem?_set];by_cases a:q=j
 . subst a;have:=(f7.1 b).1;obtain⟨_,rfl⟩:=f7.1 b;simp[this]
 cases (List.map Prod.snd C)[j]?<;>simp[a]
theorem S6{z:MC}(h:l[q]?=K z)(f:MC->MC):l.modify q f=l.set q (f z):=by
 apply lN;intro j;rw[List.getElem?_modify,List.getElem?_set];by_cases a:q=j
 . subst a;have:=(f7.1 h).1;obtain⟨_,rfl⟩:=f7.1 h;simp[this]
 cases l[j]?<;>simp[a]
structure FM(p:MP)(f:MF)(g:MG)(x:MI)(C:List (J×List MC))(ar:List MC):Prop where
 prog:AX p 0
 ins:AW p f x
 three:C.length= ↑p.az
 cells:∀(i:Nat) (r:J×List MC) rt,C[i]?=K r->p.az[i]?=K rt->r.2.map MC.type=rt
 a7:g.a7.map MC.type=f.aD++f.a7
 lwf:∀z∈g.a7,z.wf
 awf:∀z∈ar,z.wf
 eZ: ↑ar=(AA p f x).length
theorem FM.loc(h:FM p f g x C ar)(e:x.op=2\/x.op=3\/x.op=27):∃(q:Nat) (z:MC),x.a=q/\g.a7[q]?=K z/\z.type=AJ f x.a:=by
 obtain⟨q,b,ht⟩:=h.ins.local e;rw[<-h.a7,jY]at ht;cases hz:g.a7[q]? with
 |none=>rw[hz]at ht;cases ht
 | some z=>rw[hz]at ht;exact⟨q,z,b,hz,jM ht⟩
theorem FM.cell(h:FM p f g x C ar)(e:x.op=4\/x.op=5\/x.op=6\/x.op=7):∃(q l:Nat) (r:J×List MC) (rt:List Int),x.a=q/\x.b=l/\C[q]?=K r/\p.az[q]?=K rt/\r.2.map MC.type=rt/\rt[l]?=K (CT p x)/\r.2.length<=256/\C.length=3:=by
 have i:=h.prog.parts.1.1;obtain⟨q,z,rt,m,n,c,ht⟩:=h.ins.cell i e;have d:=(f7.1 c).1;have j:C[q]?=K (C[q]'(by rw[h.three];exact d)):=an _
 have k:=h.cells q _ rt j c;refine⟨q,z,_,rt,m,n,j,c,k,ht,?_,by rw[h.three,i]⟩;have s:Ji rt:=h.prog.parts.1.2 q d rt c;have:(C[q]'(by rw[h.three];exact d)).2.length=rt.length:=by rw[<-k,kC]
 rw[this];exact s.1
theorem JZ{ts:List Int}{k:Nat}{t:Int}(a:l.map MC.type=ts)(ht:ts[k]?=K t):∃z,l[k]?=K z/\z.type=t:=by
 rw[<-a,jY]at ht;cases hz:l[k]? with
 |none=>rw[hz]at ht;cases ht
 |some z=>rw[hz]at ht;exact⟨z,rfl,jM ht⟩
theorem FM.masked(h:FM p f g x C ar)(e:x.op=6\/x.op=7):∃(q j d:Nat) (r:J×List MC),x.a=q/\x.b=j/\x.c=d/\d<256/\C[q]?=K r/\r.2.length<=256/\C.length=3/\∀k:Nat,∃z,r.2[j+(k &&& d)]?=K z/\z.type=CT p x:=by
 obtain⟨q,j,r,rt,m,n,v,u,D,ht,y,A⟩:=h.cell oM;have l:=h.ins.gv e;obtain⟨d,w⟩:=jW l.low;have E:=l.fS;refine⟨q,j,d,r,m,n,w,oM,v,y,A, λk=> ?_⟩;have F:k &&& d<=d:=Nat.and_le_right;have i:=l.one (k &&& d) (by rw[w];omega);have t:q<=2:=by have:=(f7.1 v).1;omega
 rw[m,n]at i;rw[<-Int.natCast_add,Ei t u,Ei t u]at i;have s:=l.there;rw[m,n,Ei t u]at s;rw[jQ,jQ,ht]at i;rw[jQ,ht]at s;have B:rt[j+(k &&& d)]?=K (CT p x):=by
  cases e5:rt[j+(k &&& d)]? with
  |none=>rw[e5]at i;exact absurd i.symm s
  |some z=>rw[e5]at i;exact congrArg K i
 exact JZ D B
theorem PQ{z:MC}(h:z.wf):∃a:Nat,z.word=a/\a<=4294967295:=by
 have b:=h.2;have c:0<=z.word/\z.word<=4294967295:=by simpa[Ql,Lit.wf,IntKind.min,IntKind.max,IntKind.signed,IntKind.bits]using b
 obtain⟨a,hw⟩:=jW c.1;exact⟨a,hw,oM⟩
theorem Et(h:ar.length=2):∃c d,ar=[c,d]:=by
 match ar,h with
 |[a,b],_=>exact⟨a,b,rfl⟩
theorem G5(h:ar.length=1):∃b,ar=[b]:=by
 match ar,h with
 |[a],_=>exact⟨a,rfl⟩
theorem Dv{b:Nat}(h:Ay w b #[a0,a,c] t):w b=K a0/\w ⟨b,1,M⟩=K a/\w ⟨b,2,M⟩=K c:=⟨h.cell 0,h.cell 1,h.cell 2⟩
theorem BT(w:Y)(A B:Array J)(s t:Aj):Ay (Ac (Ac w (Ak A s)) (Ak B t)) w A s/\Ay (Ac (Ac w (Ak A s)) (Ak B t)) ((w:Nat)+1) B t/\Ah w w (Ac (Ac w (Ak A s)) (Ak B t)):=by
 have c:=Al w (Ak A s);have a:=Al (Ac w (Ak A s)) (Ak B t);refine⟨(Ay.new w _ _).av a,?_,Ar c lR a⟩;have b:=Ay.new (Ac w (Ak A s)) B t;have d:(Ac w (Ak A s)).heap.size= ↑w+1:=sP
 rw[d]at b;exact b
theorem GG(w:Y)(A B C:Array J)(s t r:Aj):Ay (Ac (Ac (Ac w (Ak A s)) (Ak B t)) (Ak C r)) w A s/\Ay (Ac (Ac (Ac w (Ak A s)) (Ak B t)) (Ak C r)) ((w:Nat)+1) B t/\Ay (Ac (Ac (Ac w (Ak A s)) (Ak B t)) (Ak C r)) ((w:Nat)+1+1) C r/\Ah w w (Ac (Ac (Ac w (Ak A s)) (Ak B t)) (Ak C r)):=by
 obtain⟨e,f,g⟩:=BT w A B s t;generalize c:Ac (Ac w (Ak A s)) (Ak B t)=u at*;have d:(u:Nat)= ↑w+1+1:=by rw[<-c];simp
 have a:=Al u (Ak C r);have b:=Ay.new u C r;rw[d]at b;exact⟨e.av a,f.av a,b,Ar g lR a⟩
structure PF(w6 u:Y)(X:Nat)(Vb Vo Vi:J)(Is:List Int)(Vl:J)(ys:List (ML×J×J)):Prop where
 eP:Ay u X #[iZ 0,iZ 0,Vb,Vo,Vi,Vl] 61
 eT:CO u w6 ((Vi,Is)::Jz ys)
 iu:Ab u w6 65 3 Vl ys (Ad GQ ys)
 fx:∀k,k< ↑w6->k≠X->u.heap[k]?=w6.heap[k]?
 size:(w6:Nat)<= ↑u
 cq:Ah X w6 u
 lt:X< ↑w6
theorem Jy(E:Nat->List Nat)(D L:Nat->Nat->Bool)(n b:Nat):BA E D L n (b+1)=BA E D L n b++(if AO E D n b=[]then[]else[⟨(b:Int),ints (AO E D n b),ints ((List.range n).filter (L b))⟩]):=by
 unfold BA;rw[mR,List.filterMap_append];by_cases h:AO E D n b=[]
 . simp[h]
 simp[h]
def zv(I:Nat->Int)(n:Nat):List J:=(List.range n).map λi=>Ag Af (I i)
theorem Ip(I:Nat->Int)(n:Nat):(zv I n).length=n:=by simp[zv]
theorem R9(I:Nat->Int)(n i:Nat)(h:i<n):(zv I n)[i]?=K ↑(I i):=by simp[zv,h]
theorem pN{I b:Nat->Int}{i:Nat}{x:Int}(h:∀j,b j=if j=i then x else I j):(zv I n).set i x=zv b n:=by
 apply lN;intro j;by_cases a:j<n
 . rw[R9 _ _ _ a,h j];by_cases e:j=i
   . subst e;rw[kw (by rw[Ip];exact a),jP rfl]
   rw[lh oM,R9 _ _ _ a,jH e]
 rw[kO (by simp[Ip];omega),kO (by rw[Ip];omega)]
theorem pM(n:Nat):List.replicate n (Ag Af (-1))=zv (λ_=> -1) n:=by
 apply lN;intro j;by_cases a:j<n
 . rw[R9 _ _ _ a];simp[a]
 rw[kO oT,kO (by rw[Ip];omega)]
theorem nw(I:Nat->Int)(n:Nat):zv I n=Ad As ((List.range n).map I):=by
 unfold zv;rw[List.flatMap_map];induction List.range n with
 |nil=>rfl
 |cons x r a=>simp[As,a]
structure DW(w u:Y)(G n:Nat)(A:Array J)(gi:Nat)(I:Nat->Int):Prop where
 eP:∃x0 x1 x2 x3,A=#[x0,x1,x2,x3]/\Ay u G #[x0,x1,x2,x3,Z gi n n] 101
 row:Ab u w 2 1 (Z gi n n) n (zv I n)
 fx:∀k,k< ↑w->k≠G->u.heap[k]?=w.heap[k]?
 cq:Ah G w u
 size:(w:Nat)<= ↑u
 lt:G< ↑w
theorem DW.av{G n b:Nat}(h:DW w u G n A b I)(a:Ah u u d):DW w d G n A b I:=by obtain⟨g,i,j,x3,e,k⟩:=h.eP;exact⟨⟨g,i,j,x3,e,k.av a⟩,AC h.row a lR, λk c f=>by rw[a.block k (lA c h.size)];exact h.fx k c f,h.cq.trans (a.mono (by have:=h.lt;have:=h.size;omega)),jN h.size a.size,h.lt⟩
theorem DW.cell{c:Nat}(h:DW w u G n A c I){a:Addr}{x:J}(b:w a=K x)(d:a.block≠G):u a=K x:=by have:=h.fx a.block (i7 b) d;unfold World.cell? at*;rw[this];exact b
theorem DW.set{a:Nat}{c:Nat->Int}(h:DW w u G n A a I)(b:Nat)(x:Int)(d:∀j,c j=if j=b then x else I j):DW w (Aa u ⟨a,b,M⟩ x) G n A a c:=by
 obtain⟨i,l,m,x3,e,k⟩:=h.eP;have p:=(AY h.row).1;have q:=h.lt;refine⟨⟨i,l,m,x3,e,k.other oS _⟩,?_, λk f g=> ?_,h.cq.setCell oS _,by rw[lk];exact h.size,h.lt⟩
 . have:=(h.row.stored b x).1;rw[pN d]at this;exact this
 rw[lj u _ k _ oS];exact h.fx k f g
structure Kw(E:Nat->List Nat)(n:Nat)(pl:Nat->Nat)(k j:Nat)(I:Nat->Int):Prop where
 fE:Jf E n pl I
 jk:Nb E n pl I k j
 kn:∀x,x<n->pl x<j->Kn I x
 all:k=0\/∀x,x<n->Kn I x
 z:I 0=-1
theorem Kw.step{i:Nat->Nat}{k j b:Nat}{a:Nat->Int}{z:Int}(c:Fa E n i)(h:Kw E n i k j I)(d:b<n)(f:b≠0)(F:i b=j)(D:Bg n I (Bq E n b) z)(l:∀y,a y=if y=b then z else I y):Kw E n i k (j+1) a:=by
 subst F;have r:=Ht E n b;obtain⟨m,C,t,u,v,w⟩:=J7 c h.fE d f r h.kn D;have A:∀y,y≠b->I y=a y:= λy G=>by rw[l y,jH G]
 have p:a b=(m:Int):=by rw[l b,jP rfl,C]
 obtain⟨B,s,H,L⟩:=h.fE.set c d f r h.kn t u v w A p;refine⟨B,h.jk.set c h.fE d f r h.kn h.all t u v w A p, λx g N=> ?_,h.all.imp id λq x g=>s x (q x g),?_⟩
 . by_cases e:x=b
   . subst e;exact .inr (by rw[p];omega)
   refine s x (h.kn x g ?_);have:=c.inj x b g d;omega
 rw[l 0,jH (Ne.symm f)];exact h.z
structure Qc(E:Nat->List Nat)(n:Nat)(pl:Nat->Nat)(I:Nat->Int):Prop where
 fE:Jf E n pl I
 all:∀x,x<n->Kn I x
 gj:∀d x,x<n->(EW I d x↔Ed E d x)
 z:I 0=-1
theorem Zt(D:DataW Unit)(z y:Int):Go.Maps.has (D.del (.int Af z)) (.int Af y)=(Go.Maps.has D (.int Af y)&& !decide (y=z)):=by
 by_cases h:y=z
 . subst h;rw[Go.Maps.has_del_same];simp
 rw[Go.Maps.has_del_other (λe=>h (by cases e;rfl))];simp[h]
theorem XQ(G n gN cN L cO:Nat)(R:List Nat)(w:Y)(hn:n<=1024)(O:∀x∈R,x<n)(ax:R.length<=1024)(B:w.cell? G=K (Z gN n cN))(p:w.cell? ⟨G,2,M⟩=K (Z L R cO))(N:∀k x:Nat,R[k]?=K x->w.cell? ⟨L,k,M⟩=K (.int Af (x:Int))):
 Ai Aq 24 #[.pointer G] w λe w'=>∃(g cap:Nat) (c:List Int),e=Am (Z g c cap)/\Ab w' w 2 1 (Z g c cap) c (Ad As c)/\c.Pairwise (· < ·)/\(∀z,z∈c↔∃x:Nat,z=(x:Int)/\x<n/\x∉R)/\Ah w w w':=by
 have H:=Aw (fd B (fd p (fd N O)));have aF:= @run_makeMap Aq;have A:=Al w (.map #[] 0);have c0:=Az A B;have v:Ae (AP (Ac w (.map #[] 0)) w 0 (.map [])/\Ah w w (Ac w (.map #[] 0))):=⟨World.ownsMap_made _ _ _ _,A⟩
 clear B p N O A;go_enter func24,ntmps24;go_wp2;go_loopw [13] (λi wr=>∃k:Nat,k<=n/\i=.int Af k/\Ae (∃b D,b<=k/\AP wr w b D/\(∀z:Int,Go.Maps.has D (.int Af z)=decide (0<=z/\z<(k:Int)))/\Ah w w wr)) (λi _=>n-(intOf i).toNat)
 case atStart=>exact⟨0,oM,rfl,0,.map [],oM,v.1, λz=>by
  have:¬(0<=z/\z<((0:Nat):Int)):=oM
  simp only[this,decide_false];rfl,v.2⟩
 case round=>
  clear v c0;obtain⟨k,hk,rfl,m⟩:=hrel;obtain⟨b,D,aA,h,f,d⟩:=m.o;have a:=Aw (fd h (fd f d));clear h f d m;by_cases aE:k<n
  . have aj:(k:Int)<(n:Int):=oM;have l:Ae ((Ac wr (Ak #[k] 2)) wr=K ↑k/\AP (Ac wr (Ak #[k] 2)) w b D/\¬(wr:Nat)= ↑w/\Ah w w (Ac wr (Ak #[k] 2))):=⟨(Ay.new wr #[k] 2).cell 0,a.1.av (Al _ _),by have:=lg a.1;omega,Ar a.2.2 lR (Al _ _)⟩
    go_wp2_with fail;refine(Dh w b wr 1 D (k:Int) _ (Dm oM) oM l.1 l.2.2.1 l.2.1).mono ?_;rintro e X ⟨rfl,W,F⟩;have u:Ae (∃b D,b<=k+1/\AP X w b D/\(∀z:Int,Go.Maps.has D (.int Af z)=decide (0<=z/\z<((k+1:Nat):Int)))/\Ah w w X):=by refine⟨_,_,oM,W, λz=> ?_,l.2.2.2.grown F l.2.2.2.size (λj s=>by cases s;exact Nat.le_refl _)⟩;rw[Ew D (lU a.1),a.2.1 z,mi];simp;omega
    clear W F;go_wp2;go_roundw;(case rel=>exact⟨k+1,oM,by go_num,u⟩);exact oI
  have aa:k=n:=oM;have aj:¬(k:Int)<(n:Int):=oM;rw[aa]at a;have c2:=Az a.2.2 H.2.1;go_wp2;go_loopw [26] (λi wr=>∃j:Nat,j<= ↑R/\i=.int Af j/\Ae (∃D,AP wr w b D/\(∀z:Int,Go.Maps.has D (.int Af z)=(decide (0<=z/\z<(n:Int))&& !(ints (R.take j)).contains z))/\Ah w w wr)) (λi _=> ↑R-(intOf i).toNat)
  case atStart=>exact⟨0,oM,rfl,D,a.1, λz=>by rw[a.2.1 z];simp[ints],a.2.2⟩
  clear a c2;obtain⟨j,s,rfl,m⟩:=hrel;obtain⟨D,h,f,d⟩:=m.o;clear m;by_cases ae:j< ↑R
  . have ai:(j:Int)<(R:Int):=oM;obtain⟨x,t⟩:∃x,R[j]?=K x:=⟨_,an ae⟩;have aG:x<n:=H.2.2.2 x (hC t);have o0:=Az d (H.2.2.1 j x t);(have HT:Ae (R.take (j+1)=R.take j++[x]):=by obtain⟨hl,rfl⟩:=f7.1 t;exact kN hl);have a:Ae ((∀z:Int,Go.Maps.has D (.int Af z)=(decide (0<=z/\z<(n:Int))&& !(ints (R.take j)).contains z))/\Ah w w wr):=⟨f,d⟩
    have Q:wr.ownsMap Aq 2 (unitElem (H:=Unit)) w b D:=h;have aq:=Dm (x:=x) oM;clear t f d h;go_wp2_with (at_delete;refine wpList_delete_own _ rfl _ _ 164 2 rfl 89 Fe underlying164 _ w b D rfl Q _ _ rfl (mE underlying2 aq) ?_;intro w1 S U);have u:Ae (∃D,AP w1 w b D/\(∀z:Int,Go.Maps.has D (.int Af z)=(decide (0<=z/\z<(n:Int))&& !(ints (R.take (j+1))).contains z))/\Ah w w w1):=by refine⟨_,S, λz=> ?_,a.2.grown U.grown a.2.size (λj s=>by cases s;exact Nat.le_refl _)⟩;rw[Zt,a.1 z,HT];unfold ints;rw[k8,Bool.and_assoc];(congr 1);rw[mi];simp
    clear S U o0 Q;go_roundw;(case rel=>exact⟨j+1,oM,by go_num,u⟩);exact oI
  have au:j=R.length:=oM;have ai:¬(j:Int)<(R:Int):=oM;have a:Ae ((∀z:Int,Go.Maps.has D (.int Af z)=(decide (0<=z/\z<(n:Int))&& !(ints R).contains z))/\Ah w w wr/\AP wr w b D):=by rw[kP oM]at f;exact⟨f,d,h⟩
  clear f d h;go_wp2_with fail;refine(Ja w b D _ oM a.2.2).mono ?_;rintro e u9 ⟨I,E,c,rfl,V,T,P,C⟩;have r:Ae (Ab u9 w 2 1 (Z I c E) c (Ad As c)/\c.Pairwise (· < ·)/\(∀z,z∈c↔∃x:Nat,z=(x:Int)/\x<n/\x∉R)/\Ah w w u9):=by
   refine⟨BI V a.2.1.size,T, λz=> ?_,Ar a.2.1 lR C⟩;rw[P,a.1 z];simp only[ky,lC,Bool.not_eq_true',List.contains_eq_mem,mQ];unfold ints;constructor
   . rintro⟨_,⟨h1,p⟩,h3⟩;refine⟨z.toNat,oM,oM, λq=>h3 (kI.2 ⟨z.toNat,q,oM⟩)⟩
   rintro⟨x,rfl,h1,p⟩;refine⟨Dm oM,⟨oM,oM⟩, λq=>p ?_⟩;obtain⟨y,hy,e⟩:=kI.1 q;have:y=x:=oM;rw[<-this];exact hy
  clear V T P C;go_wp2;go_ret;exact⟨I,E,c,rfl,r.1,r.2.1,r.2.2.1,r.2.2.2⟩
structure JU(w:Y)(vb vo vi vl:J)(r:Ee):Prop where
 aC:K8 w vb r.aC
 dr:Rd w 1 vo r.dr (Ad As r.dr)
 eU:Rd w 1 vi r.eU (Ad As r.eU)
 cv:Sg w vl r.cv
def qC:Array J:=#[iZ 0,iZ 0,sN,sN,sN,sN]
def six(U:Y)(b:Nat)(a c d x3 e f:J):Y:=Aa (Aa (Aa (Aa (Aa (U.setCell b a) ⟨b,1,M⟩ c) ⟨b,2,M⟩ d) ⟨b,3,M⟩ x3) ⟨b,4,M⟩ e) ⟨b,5,M⟩ f
theorem Z5{b:Nat}{g i j k l m:J}(h:Ay U b #[g,i,j,k,l,m] t)(a c d x3 e f:J):Ay (six U b a c d x3 e f) b #[a,c,d,x3,e,f] t:=by have:=(((((h.set 0 a).set 1 c).set 2 d).set 3 x3).set 4 e).set 5 f;simpa[six]using this
theorem GC{b:Nat}{g i j l m n:J}(h:Ay U b #[g,i,j,l,m,n] t)(a c d x3 e f:J):(six U b a c d x3 e f) b=K a/\(six U b a c d x3 e f) ⟨b,1,M⟩=K c/\(six U b a c d x3 e f) ⟨b,2,M⟩=K d/\(six U b a c d x3 e f) ⟨b,3,M⟩=K x3/\(six U b a c d x3 e f) ⟨b,4,M⟩=K e/\(six U b a c d x3 e f) ⟨b,5,M⟩=K f:=by have k:=Z5 h a c d x3 e f;exact⟨k.cell 0,k.cell 1,k.cell 2,k.cell 3,k.cell 4,k.cell 5⟩
theorem GA{B b:Nat}(h:Ah B w U)(a:B<=b)(c d e x3 f g:J):Ah B w (six U b c d e x3 f g):=(((((h.setCell a _).setCell a _).setCell a _).setCell a _).setCell a _).setCell a _
theorem Lx{base b k n:Nat}(h:Ab U base e k s n ys)(c:s.ownBlock≠K b)(d f g x3 i j:J):(six U b d f g x3 i j).ownsRow base e k s n ys:=kK (kK (kK (kK (kK (kK h (a:=⟨b,0,M⟩) c _) (a:=⟨b,1,M⟩) c _) (a:=⟨b,2,M⟩) c _) (a:=⟨b,3,M⟩) c _) (a:=⟨b,4,M⟩) c _) (a:=⟨b,5,M⟩) c _
theorem qN{base b k n:Nat}(h:Ab U base e k s n ys)(i:b<base)(a c d x3 f g:J):Rd (six U b a c d x3 f g) k s n ys:=Rd.eS (Lx h (λq=>by have:=(h.lt b q).1;omega) a c d x3 f g)
theorem Tb{base b k n:Nat}(h:Ab U base e k s n ys)(a:b<base):s.ownBlock≠K b:= λq=>by have:=(h.lt b q).1;omega
theorem UQ{S O:List Nat}{D a:Nat->Nat->Bool}(e:n=(AQ xs).length)(f:E=nx (AQ xs))(l:Bb xs)(r:xs[xs.length-1]?=K x)(m:Ij x=false)(q:Vs E [] [] [0] S O)(p:∀c,c<n->c∈S)(g:∀d b,D d b=true↔Ed E d b)(k:∀b,b<n->∀t∈E b,¬PY O D b t)(i:∀b,b<n->(b=0/\I b=-1)\/b≠0/\∃c:Nat,c<n/\I b=(c:Int)/\Hk E b c)(j:∀h y,a h y=true↔AU E D n h y):Bl xs ⟨0,0,AQ xs,ints O.reverse,(List.range n).map I,BA E D a n n⟩:=by subst e f;exact Bl.good l r m q p g k i j
theorem Ef{b:Nat}{d:J}(h:Ay w b #[a0,a,c,d] t):w.cell? b=K a0/\w.cell? ⟨b,1,M⟩=K a/\w.cell? ⟨b,2,M⟩=K c/\w.cell? ⟨b,3,M⟩=K d:=⟨h.cell 0,h.cell 1,h.cell 2,h.cell 3⟩
theorem BR.few{a:List MC}{c:MT}(h:J8 xs m-1<m.cz):¬BR a xs m c:= λe=>by have:=e.1;omega
theorem BR.iff{h:List MC}{c:MT}{k:Nat}{y:MI}(n:J8 xs m=((k+1:Nat):Int))(r:m.cz<=(k:Int))(p:xs[k]?=K x)(q:xs[k+1]?=K y):BR h xs m c↔x.op=1/\y.op=3/\y.a=c.eI/\∃v,h[x.a.toNat]?=K v/\v.type=3/\v.word=c.init:=by
 have i:(((k+1:Nat):Int)-1).toNat=k:=oM;unfold BR;rw[n,i,i9,p,q];constructor
 . rintro⟨_,s,t,v,j,l,b,d,e,f,g⟩;(cases j);(cases l);exact⟨b,d,e,v,f,g⟩
 rintro⟨b,d,e,v,f,g⟩;exact⟨oM,x,y,v,rfl,rfl,b,d,e,f,g⟩
theorem UL{e:Nat}(h:m.last=(e:Int))(a:xs[e]?=K x)(q:x.op=25):J8 xs m=(e:Int)-1:=by unfold J8;rw[h,i9,a];simp only[q,if_true]
theorem UK{e:Nat}(h:m.last=(e:Int))(a:xs[e]?=K x)(q:¬x.op=25):J8 xs m=(e:Int):=by unfold J8;rw[h,i9,a];simp only[q,if_false]
structure VL where
 b:J
 k:J
theorem W9(p:MP)(f:MF)(g:MG)(s:MS)(x:MI):(Eb p f g s x).trap=s.trap/\(Eb p f g s x).cost=s.cost/\(Eb p f g s x).steps=s.steps:=by
 unfold Eb;simp only[];by_cases c:x.op=0\/x.op=24
 . rw[jP c];exact⟨rfl,rfl,rfl⟩
 rw[jH c];clear c;by_cases c:x.op=1
 . rw[jP c];exact⟨rfl,rfl,rfl⟩
 rw[jH c];clear c;by_cases c:x.op=2
 . rw[jP c];exact⟨rfl,rfl,rfl⟩
 rw[jH c];clear c;by_cases c:x.op=3
 . rw[jP c];exact⟨rfl,rfl,rfl⟩
 rw[jH c];clear c;by_cases c:x.op=4
 . rw[jP c];exact⟨rfl,rfl,rfl⟩
 rw[jH c];clear c;by_cases c:x.op=5
 . rw[jP c];exact⟨rfl,rfl,rfl⟩
 rw[jH c];clear c;by_cases c:x.op=6
 . rw[jP c];exact⟨rfl,rfl,rfl⟩
 rw[jH c];clear c;by_cases c:x.op=7
 . rw[jP c];exact⟨rfl,rfl,rfl⟩
 rw[jH c];clear c;by_cases c:x.op=16\/x.op=19
 . rw[jP c];exact⟨rfl,rfl,rfl⟩
 rw[jH c];clear c;by_cases c:x.op=20\/x.op=21
 . rw[jP c];exact⟨rfl,rfl,rfl⟩
 rw[jH c];clear c;by_cases c:8<=x.op/\x.op<=18
 . rw[jP c];exact⟨rfl,rfl,rfl⟩
 rw[jH c];clear c;by_cases c:x.op=22
 . rw[jP c];exact⟨rfl,rfl,rfl⟩
 rw[jH c];clear c;by_cases c:x.op=23
 . rw[jP c];exact⟨rfl,rfl,rfl⟩
 rw[jH c];clear c;by_cases c:x.op=25
 . rw[jP c];exact⟨rfl,rfl,rfl⟩
 rw[jH c];clear c;by_cases c:x.op=26
 . rw[jP c];split<;>exact⟨rfl,rfl,rfl⟩
 rw[jH c];clear c;by_cases c:x.op=27
 . rw[jP c];split<;>exact⟨rfl,rfl,rfl⟩
 rw[jH c];clear c;by_cases c:x.op=28
 . rw[jP c];exact⟨rfl,rfl,rfl⟩
 rw[jH c];exact⟨rfl,rfl,rfl⟩
structure Qe(p:MP)(k:Nat)(s:MS):Prop where
 sh:IP p s
 wf:s.wf
 cost:s.cost<=8*(k:Int)
 steps:s.steps<=(k:Int)
theorem Qe.next{k:Nat}{s s':MS}(j:p.wf)(u:k<=1048576)(h:Qe p k s)(q:s.trap=0)(l:Bf p s s')(ht:s'.trap=0)(i:s'.done=false):Qe p (k+1) s':=by
 cases l with
 |jump e1 e2 e3=>simp only[]at ht;omega
 |trap e1 e2 e3 e4 e5 e6=>exact absurd ht e6
 | does e1 e2 e3 e4 e5=>rename_i g f x;have a:=h.sh.prog.ft e2 e4;have t:=N1 a.1 a.2.1;have r:=h.cost;have v:=h.steps;have c0:=h.sh.cost;have w:=h.sh.steps;have d:IP p {s with steps:=s.steps+1,cost:=s.cost+B4 x.op}:=⟨h.sh.prog,⟨oS,oS⟩,⟨oS,oS⟩,h.sh.three,h.sh.cells,h.sh.fS,h.sh.stack,h.sh.ne0,h.sh.deep,h.sh.dk,h.sh.fW⟩;have e:({s with steps:=s.steps+1,cost:=s.cost+B4 x.op}:MS).wf:=⟨h.wf.trap,C9 oS oS,C9 oS oS,h.wf.cells,h.wf.stack,h.wf.dk⟩;obtain⟨m,n⟩:=ZP j d e e1 e2 e3 e4 e5 i;obtain⟨_,b,c⟩:=W9 p f g {s with steps:=s.steps+1,cost:=s.cost+B4 x.op} x;exact⟨m,n,by rw[b];simp only[];omega,by rw[c];simp only[];omega⟩
inductive Cs (p:MP):Nat->MS->MS->Prop
 |zero {s:MS}:Cs p 0 s s
 |next {k:Nat} {s s1 s2:MS}:Cs p k s s1->s1.trap=0->s1.done=false->Bf p s1 s2->Cs p (k+1) s s2
theorem Cs.one{k:Nat}{s a b:MS}(h:Cs p k s a)(c:Cs p k s b):a=b:=by
 induction h generalizing b with
 |zero=>cases c;rfl
 | next l m n f g=>
   cases c with
   | next d i j e=>obtain rfl:=g d;exact f.one e
def TC(p:MP)(n:Nat)(s s':MS):Prop:=∃k,Cs p k s s'/\(k=n\/(k<n/\(s'.trap≠0\/s'.done=true)))
theorem Cs.ahead{k:Nat}{s a:MS}(h:Cs p k s a):∀{j:Nat} {b:MS},Cs p j s b->j<k->∃c,Cs p j s c/\c.trap=0/\c.done=false:=by
 induction h with
 |zero=>intro j b d l;omega
 | @next k s s1 s2 f g i n m=>
   intro j b d l;by_cases e:j=k
   . subst e;exact⟨s1,f,g,i⟩
   exact m d oM
theorem TC.one{s a b:MS}(h:TC p n s a)(m:TC p n s b):a=b:=by
 obtain⟨k,f,i⟩:=h;obtain⟨j,d,g⟩:=m;have r:k=j:=by
  rcases Nat.lt_trichotomy k j with e|e|e
  . obtain⟨c,c1,c2,c3⟩:=d.ahead f e;obtain rfl:=f.one c1;rcases i with i|⟨i,q⟩
    . omega
    simp[c2,c3]at q
  . exact e
  obtain⟨c,c1,c2,c3⟩:=f.ahead d e;obtain rfl:=d.one c1;rcases g with g|⟨g,l⟩
  . omega
  simp[c2,c3]at l
 subst r;exact f.one d
def Vv(xs:List MI)(m:MB):MB:=⟨m.cz,m.last,Bc xs (xs.getD m.last.toNat ⟨0,0,0,0⟩) m.last.toNat⟩
def Li(xs:List MI):List MB:=(Lj xs xs).map (Vv xs)
theorem H5(xs:List MI):(Li xs).length=(lds xs xs).length:=by unfold Li;rw[kC,FV]
theorem Qw(L:List Nat)(n b a q:Nat)(c:L[b]?=K a)(d:(L++[n])[b+1]?=K q):(build L n)[b]?=K ⟨(a:Int),(q:Int)-1,[]⟩:=by
 unfold build;rw[mA,c];have e:(L.tail++[n])[b]?=K q:=by
  cases L with
  |nil=>simp at c
  |cons y r=>simpa using d
 rw[e]
def z3:List J:=[iZ 0,iZ 0,sN]
structure IW(w u:Y)(xs:List MI)(gl cl bl j:Nat)(D:List (MB×J)):Prop where
 row:Ab u w 97 3 (sG bl (lds xs xs).length (lds xs xs).length) (lds xs xs).length ((List.replicate j z3).flatten++Ad Dq D)
 eT:CO u w ((sG gl (lds xs xs).length cl,(lds xs xs).map Int.ofNat)::DQ D)
 done:D.map Prod.fst=(Li xs).drop j
 cq:Ah w w u
theorem IW.lead{a cl b j:Nat}(h:IW w u xs a cl b j D):Ab u w 2 1 (sG a (lds xs xs).length cl) (lds xs xs).length (Ad As ((lds xs xs).map Int.ofNat)):=by have:=h.eT.own _ (kt);simpa using this
theorem CO.av{a:Y}(h:CO u B L)(b:Ah u u a):CO a B L:=⟨λr c=>AC (h.own r c) b lR,h.sep⟩
theorem CO.add{y:J×List Int}{b:J}{c:List Int}(h:CO u B (y::L))(i:Ah u u d)(j:Ab d u 2 1 b c (Ad As c))(k:B<= ↑u):CO d B (y::(b,c)::L):=by
 have f:∀r∈y::L,Kq (b,c) r:=by intro r a g l e;have p:=j.lt g l;have q:=(h.own r a).lt g e;omega
 obtain⟨m,n⟩:=kY.1 h.sep;refine⟨?_,kY.2 ⟨?_,kY.2 ⟨λr a=>f r (by simp[a]),n⟩⟩⟩
 . intro r a;simp only[jK]at a;rcases a with rfl|rfl|a
   . exact AC (h.own _ sP) i lR
   . exact BI j k
   exact AC (h.own r (by simp[a])) i lR
 intro r a;simp only[jK]at a;rcases a with rfl|a
 . exact(f y sP).symm
 exact m r a
theorem CO.fZ{base g:Nat}{a k n c:Nat}{xs:List J}(h:CO w base L)(b:Ab w a 97 k (sG g n c) n xs)(i:Nat)(x:J):CO (Aa w ⟨g,i,M⟩ x) base L:=⟨λy d=>MJ (h.own y d) b dC i x,h.sep⟩
theorem Z3(A R:List J)(a b c c0 c1 c2:J)(i:Nat)(h: ↑A=i):(((A++([a,b,c]++R)).set i c0).set (i+1) c1).set (i+2) c2=A++([c0,c1,c2]++R):=by subst h;simp[List.set_append_right]
theorem RY(b:Nat)(R:List J):(List.replicate (b+1) z3).flatten++R=(List.replicate b z3).flatten++(z3++R):=by rw[List.replicate_succ'];simp
theorem Tw(b:Nat):(List.replicate b z3).flatten.length=b*3:=by rw[List.length_flatten];simp[z3]
theorem IW.next{wr:Y}{j cl c b a q e:Nat}{ar:Option Addr}{d:Nat}(h:IW w wr xs j cl c (b+1) D)(f:Ah wr wr u)(z:Ab u wr 2 1 (Z ar (Bc xs x e).length d) (Bc xs x e).length (Ad As (Bc xs x e)))(k:(lds xs xs)[b]?=K a)(y:(lds xs xs++[xs.length])[b+1]?=K q)(s:(q:Int)-1=(e:Int))(A:xs[e]?=K x):
 IW w (Aa (Aa (Aa u ⟨c,b*3,M⟩ a) ⟨c,b*3+1,M⟩ e) ⟨c,b*3+2,M⟩ (Z ar (Bc xs x e).length d)) xs j cl c b ((⟨(a:Int),(e:Int),Bc xs x e⟩,Z ar (Bc xs x e).length d)::D):=by
 have i:=AC h.row f lR;have l:=(i.stored (b*3) a).1;have m:=(l.stored (b*3+1) e).1;have n:=(m.stored (b*3+2) (Z ar (Bc xs x e).length d)).1;rw[RY,show z3++Ad Dq D=[Ag Af 0,iZ 0,sN]++Ad Dq D from rfl,Z3 _ _ _ _ _ _ _ _ _ (Tw b)]at n;have g:=(AY i).1;have v:=Qw _ _ _ _ _ k y;refine⟨?_,?_,?_,(((Ar h.cq lR f).setCell g _).setCell g _).setCell g _⟩
 . rw[ke];exact n
 . have f0:=CO.add h.eT f z h.cq.size;exact((f0.fZ i _ _).fZ l _ _).fZ m _ _
 have t:b<(Li xs).length:=by rw[H5];exact(f7.1 k).1
 rw[lM,h.done,lV t];congr 1
 have p:(Li xs)[b]?=K (Vv xs ⟨(a:Int),(q:Int)-1,[]⟩):=by unfold Li;rw[jY,Cl,v];rfl
 have r:=(f7.1 p).2;rw[r];unfold Vv;rw[s,i9,jQ,A];rfl
end Go.Proofs.YtkgohaigebcgoaaGreatDoor
