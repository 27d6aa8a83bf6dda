import Derived.Test.YtkgohaigebcgoaaGreatDoorLo40
import Derived.Test.YtkgohaigebcgoaaGreatDoorLo41
namespace Go.Proofs.YtkgohaigebcgoaaGreatDoor
open Go.ChangeShapes Go.WideShapes Go.ChangeAt Go.RowKit Go.Proofs.Tryz
set_option linter.unusedVariables false
open Option renaming some → K
open Go renaming Value → J,World → Y,Calls → Ai
open Go.Value renaming slice → Z,int → Ag,agg → An
open Go.RowKit renaming Hid → Ae,Below → Ah
open Go.IntKind renaming i64 → Af
open Go.Obj renaming cells → Ak
open Go.Proofs.Tryz renaming prog → Aq
open Go.World renaming alloc → Ac
open List renaming flatMap → Ad
set_option maxHeartbeats 8000000
set_option maxRecDepth 100000
variable {u b w:Y}{a B:Nat}{t c n c':Int}{d:Bool}{X:VS}{v:VP}{p:MP}{C:List (J×List MC)}{F:List (MG×J)}
theorem Qo(a k:Nat)(b:k<30):(B9 a)[k]?=K (oC a k):=by
 have h:k=0\/k=1\/k=2\/k=3\/k=4\/k=5\/k=6\/k=7\/k=8\/k=9\/k=10\/k=11\/k=12\/k=13\/k=14\/k=15\/k=16\/k=17\/k=18\/k=19\/k=20\/k=21\/k=22\/k=23\/k=24\/k=25\/k=26\/k=27\/k=28\/k=29:=oM
 rcases h with rfl|rfl|rfl|rfl|rfl|rfl|rfl|rfl|rfl|rfl|rfl|rfl|rfl|rfl|rfl|rfl|rfl|rfl|rfl|rfl|rfl|rfl|rfl|rfl|rfl|rfl|rfl|rfl|rfl|rfl<;>rfl
theorem BF.made{b:Array J}{f:J}(i:Ay u a b 87)(h:Wm b t d c n X f)(g:∀k,k<30->b[128+k]?=(B9 a)[k]?):BF u a t d c n X f:=⟨b,i,⟨h.c0,h.c1,h.c2,h.c3,h.c4,h.c5,h.c6,h.c7,h.rows, λk e=>(g k e).trans (Qo a k e),h.size⟩⟩
structure LC(w u:Y)(v:VP)(vm:VM)(p:MP)(B M:Nat)(hv:J)(t:Int)(d:Bool)(c n:Int)(X:VS)(C:List (J×List MC))(K:List MC)(F:List (MG×J)):Prop where
 at_:JP w u v vm
 mb:BF u M t d c n X hv
 own:AB u B X C K F
 hd:Fr u B v p hv
 hB:B<= ↑u
 low: ↑w+1+1<B
 hM:B<=M
theorem LC.av{f:Y}{g:VM}{b:Nat}{e:J}{K:List MC}(h:LC w u v g p B b e t d c n X C K F)(a:Ah u u f):LC w f v g p B b e t d c n X C K F:=⟨h.at_.av a,h.mb.av a,h.own.grow a,h.hd.av h.hB a,jN h.hB a.size,h.low,h.hM⟩
theorem LC.next{x:VM}{i:J}{s r:Int}{q:Bool}{f:VS}{l:List (J×List MC)}{K K':List MC}{m:List (MG×J)}(h:LC w u v x p B a i t d c n X C K F)(y:BF b a s q c' r f i)(z:AB b B f l K' m)(g:Bp (λj=>j=a\/Dt X C F j) u b):LC w b v x p B a i s q c' r f l K' m:=
 ⟨h.at_.low (g.below h.hB (λk A e=>by
  rcases e with e|e
  . have:=h.hM;omega
  have:=(h.own.ltOf e).1;omega)) h.low,y,z,h.hd.eX h.hB h.hM h.own h.mb g,jN h.hB g.size,h.low,h.hM⟩
theorem V5{m:MM}{k:Nat}{i:Y}{r:VM}{d:Nat}{q:J}{g f:Int}{e:Bool}{l:VS}{a:List (J×List MC)}{K K':List MC}{b:List (MG×J)}(h:LC w u v r p B d q 0 false c n X C K F/\Gl p m k (A3 0 false c n C K F))(D:p.wf)(y:k<=1048576)(z:BF i d g e c' f l q)(A:AB i B l a K' b)(E:Bf p (A3 0 false c n C K F) (A3 g e c' f a K' b))(x:Bp (λj=>j=d\/Dt X C F j) u i):Ae (LC w i v r p B d q g e c' f l a K' b/\Gl p m (k+1) (A3 g e c' f a K' b)):=by have s:=h.1.next z A x;have t:=h.2.next D y rfl rfl E;exact⟨s,t⟩
theorem Hv(v:VP)(p:MP)(vm:VM)(m:MM)(aj:Int)(nn:Nat)(w:Y)(hn:nn=(min aj 1048576).toNat)(hl:Fb aj)(hs:p.small)(hw:p.wf)(h:ET w v p)(aM:EY w v.r p.az)(aO:FZ w v.f p.aB)(ms:m.small)(mw:m.wf)(hm:YQ w vm m):
 Ai Aq 8 #[An #[v.r,v.k,v.f,v.t],An #[vm.i,vm.o,vm.k],aj] w (ov w p m nn):=by
 obtain⟨D,E,U,V,W,t3,f1,f3,rfl⟩:=h.sl;obtain⟨am,cm,em⟩:=hm.ins.aP;obtain⟨ao,co,eo⟩:=hm.outs.aP;obtain⟨ak,ck,ek⟩:=hm.keeps.aP;obtain⟨vi,vo,bx⟩:=vm;simp only[]at em eo ek;subst em eo ek;have H:Ae (p.small/\p.wf/\ET w ⟨Z D p.az E,Z U p.b8 V,Z f1 p.aB f3,Z W p.bO t3⟩ p/\EY w (Z D p.az E) p.az/\FZ w (Z f1 p.aB f3) p.aB/\m.small/\m.wf/\YQ w ⟨Z am m.ins cm,Z ao m.outs co,Z ak m.keeps ck⟩ m):=⟨hs,hw,h,aM,aO,ms,mw,hm⟩
 clear hs hw h aM aO ms mw hm;have E0:Ae (JP w _ ⟨Z D p.az E,Z U p.b8 V,Z f1 p.aB f3,Z W p.bO t3⟩ ⟨Z am m.ins cm,Z ao m.outs co,Z ak m.keeps ck⟩):=JP.of w ⟨Z D p.az E,Z U p.b8 V,Z f1 p.aB f3,Z W p.bO t3⟩ ⟨Z am m.ins cm,Z ao m.outs co,Z ak m.keeps ck⟩;go_enter func8,ntmps8;go_upto_region 1 with fail
 refine Av (λu=>Ae (JP w u ⟨Z D p.az E,Z U p.b8 V,Z f1 p.aB f3,Z W p.bO t3⟩ ⟨Z am m.ins cm,Z ao m.outs co,Z ak m.keeps ck⟩)) E0 ?_;rintro U0 E1;clear E0;have p0:=E1.pb.cell 0;have p1:=E1.pb.cell 1;have p2:=E1.pb.cell 2;have p3:=E1.pb.cell 3;have I:=E1.mb.cell 0;have O:=E1.mb.cell 1;have P:=E1.mb.cell 2;simp only[i5,f8,i6]at p0 p1 p2 p3 I O P;go_wp2_with fail;refine(Nq ⟨Z D p.az E,Z U p.b8 V,Z f1 p.aB f3,Z W p.bO t3⟩ p ⟨Z am m.ins cm,Z ao m.outs co,Z ak m.keeps ck⟩ m U0 H.1 H.2.1 (H.2.2.1.av E1.cq lR) (H.2.2.2.1.av E1.cq lR) (H.2.2.2.2.1.av E1.cq lR) H.2.2.2.2.2.1 H.2.2.2.2.2.2.1 (H.2.2.2.2.2.2.2.av E1.cq lR)).mono ?_;rintro e u1 ⟨C,K,F,T,X,rfl,aJ,bj,ae,b1⟩;obtain⟨x1,x2,x3⟩:=X;obtain⟨b,q,ax⟩:=AF ae.cells;obtain⟨g,s,aA⟩:=AF (ae.eT.own (x2,K) sP);obtain⟨j,y,aE⟩:=AF ae.dk;simp only[]at ax aA aE;subst ax aA aE;have HR:Ae (Gl p m 0 (A3 T false 0 0 C K F)):=Gl.of aJ H.1 H.2.2.2.2.2.2.1;have aR:=E1.lt;have E2:Ae (Uj w (Ac u1 (Ak #[T,false,Ag Af 0,Ag Af 0,Z b C q,Z g K s,Z j F y] 48)) ⟨Z D p.az E,Z U p.b8 V,Z f1 p.aB f3,Z W p.bO t3⟩ ⟨Z am m.ins cm,Z ao m.outs co,Z ak m.keeps ck⟩ U0 u1 T false 0 0 ⟨Z b C q,Z g K s,Z j F y⟩ C K F):=⟨(E1.av b1).av (Al _ _),Ay.new _ _ _,ae.grow (Al _ _),by rw[l8];exact Nat.le_succ_of_le b1.size,aR,b1.size⟩;clear aJ bj ae b1 E1 p0 p1 p2 p3 I O P;go_upto_region 2 with fail
 generalize u1.heap.size=N at E2⊢;generalize U0.heap.size=B at E2 aR;refine Av (λu=>Ae (Uj w u ⟨Z D p.az E,Z U p.b8 V,Z f1 p.aB f3,Z W p.bO t3⟩ ⟨Z am m.ins cm,Z ao m.outs co,Z ak m.keeps ck⟩ B N T false 0 0 ⟨Z b C q,Z g K s,Z j F y⟩ C K F)) E2 ?_;rintro U1 E3;clear E2;clear u1 U0;have I:=E3.sb.cell 0;have O:=E3.sb.cell 1;have P:=E3.sb.cell 2;have m3:=E3.sb.cell 3;have Q:=E3.sb.cell 4;have R:=E3.sb.cell 5;have S:=E3.sb.cell 6;simp only[i5,f8,i6]at I O P m3 Q R S;go_wp2_with fail;refine(Mi T 0 0 false b g j C q K s F y U1).mono ?_;rintro e u2 ⟨he,b2⟩;have E4:Ae (Uj w u2 ⟨Z D p.az E,Z U p.b8 V,Z f1 p.aB f3,Z W p.bO t3⟩ ⟨Z am m.ins cm,Z ao m.outs co,Z ak m.keeps ck⟩ B N T false 0 0 ⟨Z b C q,Z g K s,Z j F y⟩ C K F):=E3.av b2;clear b2 E3 I O P m3 Q R S;clear U1;by_cases G:T≠0\/false=true
 . obtain rfl:=he.true G;have HE:Ae (FO p m nn (A3 T false 0 0 C K F)/\(A3 T false 0 0 C K F).small):=⟨HR.ends (ku _) (.inr G),HR.small⟩
   clear he G;have hz: ↑w+1+1<N:=lA E4.low E4.hN
   have HO:Ae (AB u2 w ⟨Z b C q,Z g K s,Z j F y⟩ C K F):=E4.own.base (by have:=E4.low;omega);have I:=E4.sb.cell 0;have O:=E4.sb.cell 1;have P:=E4.sb.cell 2;have m3:=E4.sb.cell 3;have Q:=E4.sb.cell 4;have R:=E4.sb.cell 5;have S:=E4.sb.cell 6;simp only[i5,f8,i6]at I O P m3 Q R S;have r0:=E4.at_.rb.cell 0;have D:=E4.at_.rb.cell 1;have r2:=E4.at_.rb.cell 2;have E:=E4.at_.rb.cell 3;have r4:=E4.at_.rb.cell 4;have r5:=E4.at_.rb.cell 5;have r6:=E4.at_.rb.cell 6;have z0:=E4.at_.rb.frozen 0;have z1:=E4.at_.rb.frozen 1;have z2:=E4.at_.rb.frozen 2;have z3:=E4.at_.rb.frozen 3;have z4:=E4.at_.rb.frozen 4;have z5:=E4.at_.rb.frozen 5;have z6:=E4.at_.rb.frozen 6;simp only[i5,f8,i6]at r0 D r2 E r4 r5 r6;go_wp2_with fail;have A:=E4.at_.rb.w7 T false (Ag Af 0) (Ag Af 0) (Z b C q) (Z g K s) (Z j F y);have q0:=A.cell 0;have q1:=A.cell 1;have q2:=A.cell 2;have q3:=A.cell 3;have q4:=A.cell 4;have q5:=A.cell 5;have q6:=A.cell 6;simp only[i5,f8,i6]at q0 q1 q2 q3 q4 q5 q6;have OW:=HO.o7 E4.at_.rb T false (Ag Af 0) (Ag Af 0) (Z b C q) (Z g K s) (Z j F y);exact kA (v:=An #[T,false,Ag Af 0,Ag Af 0,Z b C q,Z g K s,Z j F y]) (by simp[results,results8,go_sem,q0,q1,q2,q3,q4,q5,q6]) rfl ⟨T,false,0,0,⟨Z b C q,Z g K s,Z j F y⟩,C,K,F,rfl,OW,HE.1,HE.2,qX E4.at_.cq oM _ _ _ _ _ _ _⟩
 obtain rfl:=he.false G;obtain rfl:T=0:=kV λe=>G (.inl e)
 clear he G;have aZ:=H.2.2.2.2.1;obtain⟨ys,aW,aX,aq⟩:=aZ;have aa:Ae (Ah w w u2/\ ↑w<=B):=⟨E4.at_.cq,by have:=E4.low;omega⟩
 have HY:Ae (ys.map Prod.fst=p.aB/\(∀u,Ah B u2 u->Rd u 4 (Z f1 p.aB f3) p.aB (Ad DF ys))/\∀x∈ys,(∀u,Ah B u2 u->FH u x.2 x.1)/\BP x.2.p/\BP x.2.l):=⟨aW, λu hu=>aX.av (aa.1.trans (hu.mono aa.2)) lR, λx hx=>⟨λu hu=>(aq x hx).1.av (aa.1.trans (hu.mono aa.2)) lR,(aq x hx).2⟩⟩
 clear aW aX aq;have I:=E4.sb.cell 0;have O:=E4.sb.cell 1;have P:=E4.sb.cell 2;have m3:=E4.sb.cell 3;have Q:=E4.sb.cell 4;have R:=E4.sb.cell 5;have S:=E4.sb.cell 6;have p0:=E4.at_.pb.cell 0;have p1:=E4.at_.pb.cell 1;have p2:=E4.at_.pb.cell 2;have p3:=E4.at_.pb.cell 3;simp only[i5,f8,i6]at I O P m3 Q R S p0 p1 p2 p3;go_wp2_with fail;refine(Ms ⟨Z D p.az E,Z U p.b8 V,Z f1 p.aB f3,Z W p.bO t3⟩ p B 0 false 0 0 ⟨Z b C q,Z g K s,Z j F y⟩ u2 E4.hB H.1 (H.2.2.1.av E4.at_.cq lR) ys HY.1 HY.2.1 HY.2.2).mono ?_;rintro e u4 ⟨M,hv,bq,HH,rfl,hM,aK,aS,aI,aQ,b4⟩;have E5:Ae (LC w u4 ⟨Z D p.az E,Z U p.b8 V,Z f1 p.aB f3,Z W p.bO t3⟩ ⟨Z am m.ins cm,Z ao m.outs co,Z ak m.keeps ck⟩ p B M hv 0 false 0 0 ⟨Z b C q,Z g K s,Z j F y⟩ C K F):=⟨E4.at_.av b4,BF.made aK aS aI,E4.own.grow b4,⟨HH,aQ⟩,jN E4.hB b4.size,E4.low,jN E4.hB hM⟩;clear hM aK aS aI aQ b4 E4 I O P m3 Q R S p0 p1 p2 p3 HY aa;clear u2;have bi:=LD hl;clear hl;obtain⟨L,hL,bf,br⟩:∃L:Int,min aj 1048576=L/\nn=L.toNat/\L<=1048576:=⟨_,rfl,hn,oM⟩
 clear hn;go_wp2;clear hL bi;go_loopw [20] (λi wr=>∃(k:Nat) (t:Int) (d:Bool) (c n:Int) (b g j:Option Addr) (q s y:Nat) (C:List (J×List MC)) (K:List MC) (F:List (MG×J)),k<=nn/\i=Ag Af k/\Ae (LC w wr ⟨Z D p.az E,Z U p.b8 V,Z f1 p.aB f3,Z W p.bO t3⟩ ⟨Z am m.ins cm,Z ao m.outs co,Z ak m.keeps ck⟩ p B M hv t d c n ⟨Z b C q,Z g K s,Z j F y⟩ C K F/\Gl p m k (A3 t d c n C K F))) (λi _=>nn-(intOf i).toNat)
 case atStart=>exact⟨0,0,false,0,0,b,g,j,q,s,y,C,K,F,oM,rfl,E5,HR⟩
 clear E5 HR;obtain⟨k,t,d,c,n,b,g,j,q,s,y,C,K,F,hk,rfl,z⟩:=hrel;have bu: ↑w+1+1<M:=by have:=z.1.low;have:=z.1.hM;omega
 by_cases bt:(k:Int)<L
 . obtain⟨I,O,P,m3,Q,R,S,_⟩:=z.1.mb.at;simp only[]at Q R S;have bg:k<=1048576:=oM;go_wp2_with fail;refine(Mi t c n d b g j C q K s F y wr).mono ?_;rintro e u2 ⟨he,b2⟩;have a:Ae (LC w u2 ⟨Z D p.az E,Z U p.b8 V,Z f1 p.aB f3,Z W p.bO t3⟩ ⟨Z am m.ins cm,Z ao m.outs co,Z ak m.keeps ck⟩ p B M hv t d c n ⟨Z b C q,Z g K s,Z j F y⟩ C K F/\Gl p m k (A3 t d c n C K F)):=⟨z.1.av b2,z.2⟩
   clear b2 z I O P m3 Q R S;by_cases G:t≠0\/d=true
   . obtain rfl:=he.true G;have HE:Ae (FO p m nn (A3 t d c n C K F)/\(A3 t d c n C K F).small):=⟨a.2.ends hk (.inr G),a.2.small⟩
     clear he G;have HO:Ae (AB u2 w ⟨Z b C q,Z g K s,Z j F y⟩ C K F):=a.1.own.base (by have:=a.1.low;omega);obtain⟨I,O,P,m3,Q,R,S,_⟩:=a.1.mb.at;simp only[]at Q R S;have r0:=a.1.at_.rb.cell 0;have D:=a.1.at_.rb.cell 1;have r2:=a.1.at_.rb.cell 2;have E:=a.1.at_.rb.cell 3;have r4:=a.1.at_.rb.cell 4;have r5:=a.1.at_.rb.cell 5;have r6:=a.1.at_.rb.cell 6;have z0:=a.1.at_.rb.frozen 0;have z1:=a.1.at_.rb.frozen 1;have z2:=a.1.at_.rb.frozen 2;have z3:=a.1.at_.rb.frozen 3;have z4:=a.1.at_.rb.frozen 4;have z5:=a.1.at_.rb.frozen 5;have z6:=a.1.at_.rb.frozen 6;simp only[i5,f8,i6]at r0 D r2 E r4 r5 r6;go_wp2_with fail;have A:=a.1.at_.rb.w7 t d c n (Z b C q) (Z g K s) (Z j F y);have q0:=A.cell 0;have q1:=A.cell 1;have q2:=A.cell 2;have q3:=A.cell 3;have q4:=A.cell 4;have q5:=A.cell 5;have q6:=A.cell 6;simp only[i5,f8,i6]at q0 q1 q2 q3 q4 q5 q6;have OW:=HO.o7 a.1.at_.rb t d c n (Z b C q) (Z g K s) (Z j F y);exact kA (v:=An #[t,d,c,n,Z b C q,Z g K s,Z j F y]) (by simp[results,results8,go_sem,q0,q1,q2,q3,q4,q5,q6]) rfl ⟨t,d,c,n,⟨Z b C q,Z g K s,Z j F y⟩,C,K,F,rfl,OW,HE.1,HE.2,qX a.1.at_.cq oM _ _ _ _ _ _ _⟩
   obtain rfl:=he.false G;(obtain rfl:t=0:=kV λe=>G (.inl e));obtain rfl:d=false:=by
    cases d
    . rfl
    exact absurd (.inr rfl) G
   clear he G;go_wp2_with fail;refine(YD ⟨Z D p.az E,Z U p.b8 V,Z f1 p.aB f3,Z W p.bO t3⟩ p c n ⟨Z b C q,Z g K s,Z j F y⟩ C K F hv B M u2 a.1.hB a.1.hM a.1.own a.1.mb a.1.hd (a.2.going rfl rfl).sh (a.2.going rfl rfl).wf H.1 H.2.1 (λu hu=>H.2.2.1.av (a.1.at_.cq.trans (hu.mono (by have:=a.1.low;omega))) lR)).mono ?_;rintro e u5 ⟨rfl,t',d',c',n',X',C',K',F',aY,ai,aT,au⟩;obtain⟨z1,z2,z3⟩:=X';obtain⟨g4,h4,aF⟩:=AF ai.cells;obtain⟨g5,h5,aG⟩:=AF (ai.eT.own (z2,K') sP);obtain⟨g6,h6,aH⟩:=AF ai.dk;simp only[]at aF aG aH;subst aF aG aH;have HN:=V5 a H.2.1 bg aY ai aT au;clear aY ai aT au a;go_wp2;go_roundw;(case rel=>exact⟨k+1,t',d',c',n',g4,g5,g6,h4,h5,h6,C',K',F',oM,by go_num,HN⟩);exact oI
 have HE:Ae (FO p m nn (A3 t d c n C K F)/\(A3 t d c n C K F).small):=⟨z.2.ends hk (.inl oM),z.2.small⟩
 clear bf;have HO:Ae (AB wr w ⟨Z b C q,Z g K s,Z j F y⟩ C K F):=z.1.own.base (by have:=z.1.low;omega);obtain⟨I,O,P,m3,Q,R,S,_⟩:=z.1.mb.at;simp only[]at Q R S;have r0:=z.1.at_.rb.cell 0;have D:=z.1.at_.rb.cell 1;have r2:=z.1.at_.rb.cell 2;have E:=z.1.at_.rb.cell 3;have r4:=z.1.at_.rb.cell 4;have r5:=z.1.at_.rb.cell 5;have r6:=z.1.at_.rb.cell 6;have z0:=z.1.at_.rb.frozen 0;have z1:=z.1.at_.rb.frozen 1;have z2:=z.1.at_.rb.frozen 2;have z3:=z.1.at_.rb.frozen 3;have z4:=z.1.at_.rb.frozen 4;have z5:=z.1.at_.rb.frozen 5;have z6:=z.1.at_.rb.frozen 6;simp only[i5,f8,i6]at r0 D r2 E r4 r5 r6;go_wp2_with fail;have A:=z.1.at_.rb.w7 t d c n (Z b C q) (Z g K s) (Z j F y);have q0:=A.cell 0;have q1:=A.cell 1;have q2:=A.cell 2;have q3:=A.cell 3;have q4:=A.cell 4;have q5:=A.cell 5;have q6:=A.cell 6;simp only[i5,f8,i6]at q0 q1 q2 q3 q4 q5 q6;have OW:=HO.o7 z.1.at_.rb t d c n (Z b C q) (Z g K s) (Z j F y);exact kA (v:=An #[t,d,c,n,Z b C q,Z g K s,Z j F y]) (by simp[results,results8,go_sem,q0,q1,q2,q3,q4,q5,q6]) rfl ⟨t,d,c,n,⟨Z b C q,Z g K s,Z j F y⟩,C,K,F,rfl,OW,HE.1,HE.2,qX z.1.at_.cq oM _ _ _ _ _ _ _⟩
structure Uh(w:Y)(v:BQ)(xs:List MI)(ks:List MC):Prop where
 aU:Rd w 4 (Z v.c.a v.c.n v.c.c) xs (Ad MI.cells xs)
 cap: ↑xs<=v.c.c
 kn:ks.length<=1048576
 kr:Rd w 2 (Z v.k.a v.k.n v.k.c) ks (Ad MC.cells ks)
 con:∀x∈xs,x.op=1->0<=x.a/\x.a.toNat< ↑ks
theorem Uh.av{v:BQ}{xs:List MI}{b:List MC}(h:Uh w v xs b)(a:Ah w w u):Uh u v xs b:=⟨h.aU.av a lR,h.cap,h.kn,h.kr.av a lR,h.con⟩
structure pQ(w u:Y)(v:BQ)(h:Nat)(x y:Fs)(c:MT):Prop where
 body:Ay u w v.cells 111
 loop:Ay u ((w:Nat)+1) #[h,Z x.a x.n x.c,Z y.a y.n y.c] 65
 fj:Ay u ((w:Nat)+1+1) #[c.func,c.head,c.eI,Ag .u32 c.init] 37
 cq:Ah w w u
theorem pQ.av{v:BQ}{h:Nat}{x y:Fs}{c:MT}(H:pQ w u v h x y c)(a:Ah u u b):pQ w b v h x y c:=⟨H.body.av a,H.loop.av a,H.fj.av a,Ar H.cq lR a⟩
theorem L4(v:BQ)(h:Nat)(x y:Fs)(F:List (MB×J))(xs:List MI)(l:List MC)(d:List Int)(c:MT)(m0:MB)(w:Y)(B:JQ w v F xs)(t:(F.map Prod.fst)[h]?=K m0)(p:∀z∈F,YP w z.2 z.1/\z.1.next.length<=1048576)(N:Rd w 1 (Z y.a y.n y.c) d (Ad As d))(ai:d.length<=1024)(hc:Uh w v xs l):
 Ai Aq 72 #[An v.cells,An #[h,Z x.a x.n x.c,Z y.a y.n y.c],An #[c.func,c.head,c.eI,Ag .u32 c.init]] w λe w'=>AM e (¬∃(b:Nat) (m:MB),(F.map Prod.fst)[b]?=K m/\(h:Int)∈m.next/\¬((b:Int)∈d)/\¬BR l xs m c)/\Ah w w w':=by
 have hh:h<F.length:=by have:=(f7.1 t).1;simpa using this
 obtain⟨_,g,o,_,_,_,_,q,A,_⟩:=B.at hh;have H:=Aw (fd B (fd p (fd N (fd ai hc))));have C:=Aw (fd q A);have aa:Ae (y.n= ↑d):=by obtain⟨ya,yc,ey⟩:=N.aP;simp only[i8]at ey;exact ey.2.1
 have aK:F.length<=1024:=B.len;clear B t p N ai hc q A hh;have r:=GG w v.cells #[h,Z x.a x.n x.c,Z y.a y.n y.c] #[c.func,c.head,c.eI,Ag .u32 c.init] 111 65 37;go_enter func72,ntmps72;go_upto_region 1 with fail
 refine Av (λu=>Ae (pQ w u v h x y c)) ⟨r.1,r.2.1,r.2.2.1,r.2.2.2⟩ ?_;rintro U E1;clear r;obtain⟨p0,p1,p2,p3,p4,p5,p6,p7,p8,p9,ax,S,aA,aE,aF⟩:=CY E1.body;simp only[C.1,C.2]at S;go_wp2_with fail;go_loopw [14] (λi wr=>∃k:Nat,k<= ↑F/\i=iZ k/\Ae (∀(j:Nat) (m:MB),j<k->(F.map Prod.fst)[j]?=K m->¬((h:Int)∈m.next/\¬((j:Int)∈d)/\¬BR l xs m c))/\Ae (pQ w wr v h x y c)) (λi _=> ↑F-(intOf i).toNat)
 case atStart=>exact⟨0,oM,rfl, λj m hj=>absurd hj oM,E1⟩
 case round=>
 clear E1 p0 p1 p2 p3 p4 p5 p6 p7 p8 p9 ax S aA aE aF;obtain⟨k,hk,rfl,X,E1⟩:=hrel;by_cases aI:k< ↑F
 case pos=>
  obtain⟨m,g',o',ma,me,nx,t,q,A,i0,O,P,e1,e2,aM,aO,ae⟩:=H.1.at aI;rw[C.1]at q;simp only[jJ,lT,mD]at q;obtain⟨rfl,rfl⟩:=q;obtain⟨p,L⟩:=H.2.1 _ (hC ae);simp only[]at p L;obtain⟨Q,R,aG⟩:=Rd.aP p;subst aG;rw[<-E1.cq.cell (i7 i0)]at i0;rw[<-E1.cq.cell (i7 O)]at O;rw[<-E1.cq.cell (i7 P)]at P;have HM:=Aw (fd t (fd p (fd L (fd e1 e2))));have E:Ae (¬((h:Int)∈m.next/\¬((k:Int)∈d)/\¬BR l xs m c)->∀(j:Nat) (m:MB),j<k+1->(F.map Prod.fst)[j]?=K m->¬((h:Int)∈m.next/\¬((j:Int)∈d)/\¬BR l xs m c)):= λaJ j m' hj I=>by
   by_cases e:j=k
   . subst e;rw[HM.1]at I;have em:=jM I;subst em;exact aJ
   exact X.o j m' oM I
  have s1:¬g=wr.heap.size:=lL (i7 i0);have s2:g<wr.heap.size:=i7 i0;clear t p L ae e1 e2 A;go_upto_region 4 with fail
  refine Av (λu=>Ae (pQ w u v h x y c/\Ay u wr #[ma,me,Z Q m.next R] 97)) ⟨E1.av (Al _ _),Ay.new _ _ _⟩ ?_
  rintro UA f;generalize wr.heap.size=YB at f⊢;clear i0 O P s1 s2 E1;obtain⟨b0,b1,b2⟩:=Dv f.2;obtain⟨l0,l1,l2⟩:=Dv f.1.loop;rw[aa]at l2;go_wp2_with fail;refine(Fh Q R m.next (h:Int) UA HM.2.2.1 (Rd.av HM.2.1 f.1.cq lR)).mono ?_;rintro e u2 ⟨⟨q1,rfl,aj⟩,rfl⟩;have T:=Aw aj;clear aj;cases q1
  case false=>
   have s:Ae (¬((h:Int)∈m.next/\¬((k:Int)∈d)/\¬BR l xs m c)):= λe=>(by have:=T.2 e.1;cases this)
   go_wp2;go_roundw;(case rel=>exact⟨k+1,oM,by go_num,E.o s,f.1⟩);exact oI
  go_wp2_with fail;have G:Ae (Rd w 1 (Z y.a d y.c) d (Ad As d)):=by have:=H.2.2.1;rw[aa]at this;exact this
  refine(Fh y.a y.c d (k:Int) u2 (jN H.2.2.2.1 oM) (Rd.av G f.1.cq lR)).mono ?_;rintro e u3 ⟨⟨q2,rfl,aq⟩,rfl⟩;have V:=Aw aq;clear aq;cases q2
  case true=>
   have s:Ae (¬((h:Int)∈m.next/\¬((k:Int)∈d)/\¬BR l xs m c)):= λe=>e.2.1 (V.1 (by first|rfl|trivial))
   go_wp2;go_roundw;(case rel=>exact⟨k+1,oM,by go_num,E.o s,f.1⟩);exact oI
  obtain⟨p0,p1,p2,p3,p4,p5,p6,p7,p8,p9,ax,S,aA,aE,aF⟩:=CY f.1.body;obtain⟨c0,c1,c2,c3⟩:=Ef f.1.fj;go_wp2_with fail;have D:=Lm v (Z Q m.next R) xs l m c u3 H.1.top (H.2.2.2.2.av f.1.cq).aU H.2.2.2.2.cap H.2.2.2.2.kn (H.2.2.2.2.av f.1.cq).kr H.2.2.2.2.con (H.1.eP k m HM.1);rw[HM.2.2.2.1,HM.2.2.2.2]at D;refine D.mono ?_;rintro e u4 ⟨⟨q3,rfl,au⟩,bb⟩;have W:=Aw au;have E4:=Aw (f.1.av bb);clear au bb D;cases q3
  case true=>
   have s:Ae (¬((h:Int)∈m.next/\¬((k:Int)∈d)/\¬BR l xs m c)):= λe=>e.2.2 (W.1 (by first|rfl|trivial))
   go_wp2;go_roundw;(case rel=>exact⟨k+1,oM,by go_num,E.o s,E4⟩);exact oI
  have HN:Ae (¬¬∃(b:Nat) (m:MB),(F.map Prod.fst)[b]?=K m/\(h:Int)∈m.next/\¬((b:Int)∈d)/\¬BR l xs m c):= λe=>e ⟨k,m,HM.1,T.1 (by first|rfl|trivial), λe=>(by have:=V.2 e;cases this), λe=>(by have:=W.2 e;cases this)⟩
  go_wp2;go_ret;exact⟨.no HN,E4.cq⟩
 have aH:k=F.length:=oM;subst aH;have G:Ae (¬∃(b:Nat) (m:MB),(F.map Prod.fst)[b]?=K m/\(h:Int)∈m.next/\¬((b:Int)∈d)/\¬BR l xs m c):= λ⟨b,m,h1,h2⟩=>X.o b m (by have:=(f7.1 h1).1;simpa using this) h1 h2
 go_wp2;go_ret;exact⟨.fk G,E1.cq⟩
end Go.Proofs.YtkgohaigebcgoaaGreatDoor
