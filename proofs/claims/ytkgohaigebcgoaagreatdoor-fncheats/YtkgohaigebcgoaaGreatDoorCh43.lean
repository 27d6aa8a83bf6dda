import Derived.Test.YtkgohaigebcgoaaGreatDoorCh41
import Derived.Test.YtkgohaigebcgoaaGreatDoorCh42
namespace Go.Proofs.YtkgohaigebcgoaaGreatDoor
open Go.ChangeShapes Go.WideShapes Go.ChangeAt Go.RowKit Go.Proofs.Tryz
set_option linter.unusedVariables false
open Option renaming some → K
open Go renaming Value → J,World → Y,Calls → Ai
open Go.Value renaming slice → Z,int → Ag,agg → An
open Go.RowKit renaming Hid → Ae,Below → Ah
open Go.IntKind renaming i64 → Af
open Go.Obj renaming cells → Ak
open Go.Proofs.Tryz renaming prog → Aq
open Go.World renaming alloc → Ac
open List renaming flatMap → Ad
set_option maxHeartbeats 8000000
set_option maxRecDepth 100000
variable {u b w:Y}{a B:Nat}{t c n c':Int}{d:Bool}{X:VS}{v:VP}{p:MP}{C:List (J×List MC)}{F:List (MG×J)}
theorem P9(a k:Nat)(b:k<30):(BT a)[k]?=K (qz a k):=by
 have h:k=0\/k=1\/k=2\/k=3\/k=4\/k=5\/k=6\/k=7\/k=8\/k=9\/k=10\/k=11\/k=12\/k=13\/k=14\/k=15\/k=16\/k=17\/k=18\/k=19\/k=20\/k=21\/k=22\/k=23\/k=24\/k=25\/k=26\/k=27\/k=28\/k=29:=oM
 rcases h with rfl|rfl|rfl|rfl|rfl|rfl|rfl|rfl|rfl|rfl|rfl|rfl|rfl|rfl|rfl|rfl|rfl|rfl|rfl|rfl|rfl|rfl|rfl|rfl|rfl|rfl|rfl|rfl|rfl|rfl<;>rfl
theorem BC.made{b:Array J}{f:J}(j:Ay u a b 87)(h:V7 b t d c n X f)(g:∀k,k<30->b[128+k]?=(BT a)[k]?):BC u a t d c n X f:=⟨b,j,⟨h.c0,h.c1,h.c2,h.c3,h.c4,h.c5,h.c6,h.c7,h.rows, λk e=>(g k e).trans (P9 a k e),h.size⟩⟩
structure Lo(w u:Y)(v:VP)(vm:VM)(p:MP)(B M:Nat)(hv:J)(t:Int)(d:Bool)(c n:Int)(X:VS)(C:List (J×List MC))(K:List MC)(F:List (MG×J)):Prop where
 at_:JH w u v vm
 mb:BC u M t d c n X hv
 own:AB u B X C K F
 hd:Fl u B v p hv
 hB:B<= ↑u
 low: ↑w+1+1<B
 hM:B<=M
theorem Lo.av{f:Y}{g:VM}{b:Nat}{e:J}{K:List MC}(h:Lo w u v g p B b e t d c n X C K F)(a:Ah u u f):Lo w f v g p B b e t d c n X C K F:=⟨h.at_.av a,h.mb.av a,h.own.grow a,h.hd.av h.hB a,mC h.hB a.size,h.low,h.hM⟩
theorem Lo.next{z:VM}{l:J}{y s:Int}{r:Bool}{f:VS}{m:List (J×List MC)}{K K':List MC}{q:List (MG×J)}(h:Lo w u v z p B a l t d c n X C K F)(A:BC b a y r c' s f l)(D:AB b B f m K' q)(g:Bp (λj=>j=a\/Dm X C F j) u b):Lo w b v z p B a l y r c' s f m K' q:=
 ⟨h.at_.low (g.below h.hB (λk E e=>by
  rcases e with e|e
  . have:=h.hM;omega
  have:=(h.own.ltOf e).1;omega)) h.low,A,D,h.hd.gv h.hB h.hM h.own h.mb g,mC h.hB g.size,h.low,h.hM⟩
theorem VG{m:MM}{k:Nat}{l:Y}{s:VM}{d:Nat}{r:J}{g f:Int}{e:Bool}{q:VS}{a:List (J×List MC)}{K K':List MC}{b:List (MG×J)}(h:Lo w u v s p B d r 0 false c n X C K F/\Gf p m k (A3 0 false c n C K F))(G:p.wf)(A:k<=1048576)(D:BC l d g e c' f q r)(E:AB l B q a K' b)(H:Bb p (A3 0 false c n C K F) (A3 g e c' f a K' b))(z:Bp (λj=>j=d\/Dm X C F j) u l):Ae (Lo w l v s p B d r g e c' f q a K' b/\Gf p m (k+1) (A3 g e c' f a K' b)):=by have t:=h.1.next D E z;have y:=h.2.next G A rfl rfl H;exact⟨t,y⟩
theorem QS(v:VP)(p:MP)(vm:VM)(m:MM)(aj:Int)(nn:Nat)(w:Y)(hn:nn=(min aj 1048576).toNat)(hl:Fa aj)(hs:p.small)(hw:p.wf)(h:Eb w v p)(aM:D8 w v.r p.az)(aO:EZ w v.f p.aC)(ms:m.small)(mw:m.wf)(hm:Yr w vm m):
 Ai Aq 8 #[An #[v.r,v.k,v.f,v.t],An #[vm.i,vm.o,vm.k],aj] w (qw w p m nn):=by
 obtain⟨D,E,V,W,t1,t3,f1,f3,rfl⟩:=h.sl;obtain⟨am,cm,em⟩:=hm.ins.aD;obtain⟨ao,co,eo⟩:=hm.outs.aD;obtain⟨ak,ck,ek⟩:=hm.keeps.aD;obtain⟨vi,vo,bx⟩:=vm;simp only[]at em eo ek;subst em eo ek;have H:Ae (p.small/\p.wf/\Eb w ⟨Z D p.az E,Z V p.b8 W,Z f1 p.aC f3,Z t1 p.bO t3⟩ p/\D8 w (Z D p.az E) p.az/\EZ w (Z f1 p.aC f3) p.aC/\m.small/\m.wf/\Yr w ⟨Z am m.ins cm,Z ao m.outs co,Z ak m.keeps ck⟩ m):=⟨hs,hw,h,aM,aO,ms,mw,hm⟩
 clear hs hw h aM aO ms mw hm;have E0:Ae (JH w _ ⟨Z D p.az E,Z V p.b8 W,Z f1 p.aC f3,Z t1 p.bO t3⟩ ⟨Z am m.ins cm,Z ao m.outs co,Z ak m.keeps ck⟩):=JH.of w ⟨Z D p.az E,Z V p.b8 W,Z f1 p.aC f3,Z t1 p.bO t3⟩ ⟨Z am m.ins cm,Z ao m.outs co,Z ak m.keeps ck⟩;go_enter func8,ntmps8;go_upto_region 1 with fail
 refine Av (λu=>Ae (JH w u ⟨Z D p.az E,Z V p.b8 W,Z f1 p.aC f3,Z t1 p.bO t3⟩ ⟨Z am m.ins cm,Z ao m.outs co,Z ak m.keeps ck⟩)) E0 ?_;rintro U0 G;clear E0;have p0:=G.pb.cell 0;have p1:=G.pb.cell 1;have p2:=G.pb.cell 2;have p3:=G.pb.cell 3;have O:=G.mb.cell 0;have P:=G.mb.cell 1;have Q:=G.mb.cell 2;simp only[lQ,lO,lS]at p0 p1 p2 p3 O P Q;go_wp2_with fail;refine(Nn ⟨Z D p.az E,Z V p.b8 W,Z f1 p.aC f3,Z t1 p.bO t3⟩ p ⟨Z am m.ins cm,Z ao m.outs co,Z ak m.keeps ck⟩ m U0 H.1 H.2.1 (H.2.2.1.av G.cq lR) (H.2.2.2.1.av G.cq lR) (H.2.2.2.2.1.av G.cq lR) H.2.2.2.2.2.1 H.2.2.2.2.2.2.1 (H.2.2.2.2.2.2.2.av G.cq lR)).mono ?_;rintro e u1 ⟨C,K,F,U,X,rfl,aJ,bj,ae,b1⟩;obtain⟨x1,x2,x3⟩:=X;obtain⟨b,q,ax⟩:=AF ae.cells;obtain⟨g,s,aA⟩:=AF (ae.fg.own (x2,K) sP);obtain⟨j,y,aE⟩:=AF ae.dk;simp only[]at ax aA aE;subst ax aA aE;have HR:Ae (Gf p m 0 (A3 U false 0 0 C K F)):=Gf.of aJ H.1 H.2.2.2.2.2.2.1;have aR:=G.lt;have E2:Ae (Ub w (Ac u1 (Ak #[U,false,Ag Af 0,Ag Af 0,Z b C q,Z g K s,Z j F y] 48)) ⟨Z D p.az E,Z V p.b8 W,Z f1 p.aC f3,Z t1 p.bO t3⟩ ⟨Z am m.ins cm,Z ao m.outs co,Z ak m.keeps ck⟩ U0 u1 U false 0 0 ⟨Z b C q,Z g K s,Z j F y⟩ C K F):=⟨(G.av b1).av (Al _ _),Ay.new _ _ _,ae.grow (Al _ _),by rw[oQ];exact Nat.le_succ_of_le b1.size,aR,b1.size⟩;clear aJ bj ae b1 G p0 p1 p2 p3 O P Q;go_upto_region 2 with fail
 generalize u1.heap.size=N at E2⊢;generalize U0.heap.size=B at E2 aR;refine Av (λu=>Ae (Ub w u ⟨Z D p.az E,Z V p.b8 W,Z f1 p.aC f3,Z t1 p.bO t3⟩ ⟨Z am m.ins cm,Z ao m.outs co,Z ak m.keeps ck⟩ B N U false 0 0 ⟨Z b C q,Z g K s,Z j F y⟩ C K F)) E2 ?_;rintro U1 E3;clear E2;clear u1 U0;have O:=E3.sb.cell 0;have P:=E3.sb.cell 1;have Q:=E3.sb.cell 2;have m3:=E3.sb.cell 3;have R:=E3.sb.cell 4;have S:=E3.sb.cell 5;have T:=E3.sb.cell 6;simp only[lQ,lO,lS]at O P Q m3 R S T;go_wp2_with fail;refine(L9 U 0 0 false b g j C q K s F y U1).mono ?_;rintro e u2 ⟨he,b2⟩;have E4:Ae (Ub w u2 ⟨Z D p.az E,Z V p.b8 W,Z f1 p.aC f3,Z t1 p.bO t3⟩ ⟨Z am m.ins cm,Z ao m.outs co,Z ak m.keeps ck⟩ B N U false 0 0 ⟨Z b C q,Z g K s,Z j F y⟩ C K F):=E3.av b2;clear b2 E3 O P Q m3 R S T;clear U1;by_cases I:U≠0\/false=true
 . obtain rfl:=he.true I;have HE:Ae (Il p m nn (A3 U false 0 0 C K F)/\(A3 U false 0 0 C K F).small):=⟨HR.ends (oC _) (.inr I),HR.small⟩
   clear he I;have hz: ↑w+1+1<N:=nH E4.low E4.hN
   have HO:Ae (AB u2 w ⟨Z b C q,Z g K s,Z j F y⟩ C K F):=E4.own.base (by have:=E4.low;omega);have O:=E4.sb.cell 0;have P:=E4.sb.cell 1;have Q:=E4.sb.cell 2;have m3:=E4.sb.cell 3;have R:=E4.sb.cell 4;have S:=E4.sb.cell 5;have T:=E4.sb.cell 6;simp only[lQ,lO,lS]at O P Q m3 R S T;have r0:=E4.at_.rb.cell 0;have D:=E4.at_.rb.cell 1;have r2:=E4.at_.rb.cell 2;have E:=E4.at_.rb.cell 3;have r4:=E4.at_.rb.cell 4;have r5:=E4.at_.rb.cell 5;have r6:=E4.at_.rb.cell 6;have z0:=E4.at_.rb.frozen 0;have z1:=E4.at_.rb.frozen 1;have z2:=E4.at_.rb.frozen 2;have z3:=E4.at_.rb.frozen 3;have z4:=E4.at_.rb.frozen 4;have z5:=E4.at_.rb.frozen 5;have z6:=E4.at_.rb.frozen 6;simp only[lQ,lO,lS]at r0 D r2 E r4 r5 r6;go_wp2_with fail;have A:=E4.at_.rb.w7 U false (Ag Af 0) (Ag Af 0) (Z b C q) (Z g K s) (Z j F y);have q0:=A.cell 0;have q1:=A.cell 1;have q2:=A.cell 2;have q3:=A.cell 3;have q4:=A.cell 4;have q5:=A.cell 5;have q6:=A.cell 6;simp only[lQ,lO,lS]at q0 q1 q2 q3 q4 q5 q6;have OW:=HO.o7 E4.at_.rb U false (Ag Af 0) (Ag Af 0) (Z b C q) (Z g K s) (Z j F y);exact mM (v:=An #[U,false,Ag Af 0,Ag Af 0,Z b C q,Z g K s,Z j F y]) (by simp[results,results8,go_sem,q0,q1,q2,q3,q4,q5,q6]) rfl ⟨U,false,0,0,⟨Z b C q,Z g K s,Z j F y⟩,C,K,F,rfl,OW,HE.1,HE.2,uh E4.at_.cq oM _ _ _ _ _ _ _⟩
 obtain rfl:=he.false I;obtain rfl:U=0:=mr λe=>I (.inl e)
 clear he I;have aZ:=H.2.2.2.2.1;obtain⟨ys,aW,aX,aq⟩:=aZ;have aa:Ae (Ah w w u2/\ ↑w<=B):=⟨E4.at_.cq,by have:=E4.low;omega⟩
 have HY:Ae (ys.map Prod.fst=p.aC/\(∀u,Ah B u2 u->Rd u 4 (Z f1 p.aC f3) p.aC (Ad GH ys))/\∀x∈ys,(∀u,Ah B u2 u->FD u x.2 x.1)/\BR x.2.p/\BR x.2.l):=⟨aW, λu hu=>aX.av (aa.1.trans (hu.mono aa.2)) lR, λx hx=>⟨λu hu=>(aq x hx).1.av (aa.1.trans (hu.mono aa.2)) lR,(aq x hx).2⟩⟩
 clear aW aX aq;have O:=E4.sb.cell 0;have P:=E4.sb.cell 1;have Q:=E4.sb.cell 2;have m3:=E4.sb.cell 3;have R:=E4.sb.cell 4;have S:=E4.sb.cell 5;have T:=E4.sb.cell 6;have p0:=E4.at_.pb.cell 0;have p1:=E4.at_.pb.cell 1;have p2:=E4.at_.pb.cell 2;have p3:=E4.at_.pb.cell 3;simp only[lQ,lO,lS]at O P Q m3 R S T p0 p1 p2 p3;go_wp2_with fail;refine(Mj ⟨Z D p.az E,Z V p.b8 W,Z f1 p.aC f3,Z t1 p.bO t3⟩ p B 0 false 0 0 ⟨Z b C q,Z g K s,Z j F y⟩ u2 E4.hB H.1 (H.2.2.1.av E4.at_.cq lR) ys HY.1 HY.2.1 HY.2.2).mono ?_;rintro e u4 ⟨M,hv,bq,HH,rfl,hM,aK,aS,aI,aQ,b4⟩;have E5:Ae (Lo w u4 ⟨Z D p.az E,Z V p.b8 W,Z f1 p.aC f3,Z t1 p.bO t3⟩ ⟨Z am m.ins cm,Z ao m.outs co,Z ak m.keeps ck⟩ p B M hv 0 false 0 0 ⟨Z b C q,Z g K s,Z j F y⟩ C K F):=⟨E4.at_.av b4,BC.made aK aS aI,E4.own.grow b4,⟨HH,aQ⟩,mC E4.hB b4.size,E4.low,mC E4.hB hM⟩;clear hM aK aS aI aQ b4 E4 O P Q m3 R S T p0 p1 p2 p3 HY aa;clear u2;have bi:=Lq hl;clear hl;obtain⟨L,hL,bf,br⟩:∃L:Int,min aj 1048576=L/\nn=L.toNat/\L<=1048576:=⟨_,rfl,hn,oM⟩
 clear hn;go_wp2;clear hL bi;go_loopw [20] (λi wr=>∃(k:Nat) (t:Int) (d:Bool) (c n:Int) (b g j:Option Addr) (q s y:Nat) (C:List (J×List MC)) (K:List MC) (F:List (MG×J)),k<=nn/\i=Ag Af k/\Ae (Lo w wr ⟨Z D p.az E,Z V p.b8 W,Z f1 p.aC f3,Z t1 p.bO t3⟩ ⟨Z am m.ins cm,Z ao m.outs co,Z ak m.keeps ck⟩ p B M hv t d c n ⟨Z b C q,Z g K s,Z j F y⟩ C K F/\Gf p m k (A3 t d c n C K F))) (λi _=>nn-(intOf i).toNat)
 case atStart=>exact⟨0,0,false,0,0,b,g,j,q,s,y,C,K,F,oM,rfl,E5,HR⟩
 clear E5 HR;obtain⟨k,t,d,c,n,b,g,j,q,s,y,C,K,F,hk,rfl,z⟩:=hrel;have bu: ↑w+1+1<M:=by have:=z.1.low;have:=z.1.hM;omega
 by_cases bt:(k:Int)<L
 . obtain⟨O,P,Q,m3,R,S,T,_⟩:=z.1.mb.at;simp only[]at R S T;have bg:k<=1048576:=oM;go_wp2_with fail;refine(L9 t c n d b g j C q K s F y wr).mono ?_;rintro e u2 ⟨he,b2⟩;have a:Ae (Lo w u2 ⟨Z D p.az E,Z V p.b8 W,Z f1 p.aC f3,Z t1 p.bO t3⟩ ⟨Z am m.ins cm,Z ao m.outs co,Z ak m.keeps ck⟩ p B M hv t d c n ⟨Z b C q,Z g K s,Z j F y⟩ C K F/\Gf p m k (A3 t d c n C K F)):=⟨z.1.av b2,z.2⟩
   clear b2 z O P Q m3 R S T;by_cases I:t≠0\/d=true
   . obtain rfl:=he.true I;have HE:Ae (Il p m nn (A3 t d c n C K F)/\(A3 t d c n C K F).small):=⟨a.2.ends hk (.inr I),a.2.small⟩
     clear he I;have HO:Ae (AB u2 w ⟨Z b C q,Z g K s,Z j F y⟩ C K F):=a.1.own.base (by have:=a.1.low;omega);obtain⟨O,P,Q,m3,R,S,T,_⟩:=a.1.mb.at;simp only[]at R S T;have r0:=a.1.at_.rb.cell 0;have D:=a.1.at_.rb.cell 1;have r2:=a.1.at_.rb.cell 2;have E:=a.1.at_.rb.cell 3;have r4:=a.1.at_.rb.cell 4;have r5:=a.1.at_.rb.cell 5;have r6:=a.1.at_.rb.cell 6;have z0:=a.1.at_.rb.frozen 0;have z1:=a.1.at_.rb.frozen 1;have z2:=a.1.at_.rb.frozen 2;have z3:=a.1.at_.rb.frozen 3;have z4:=a.1.at_.rb.frozen 4;have z5:=a.1.at_.rb.frozen 5;have z6:=a.1.at_.rb.frozen 6;simp only[lQ,lO,lS]at r0 D r2 E r4 r5 r6;go_wp2_with fail;have A:=a.1.at_.rb.w7 t d c n (Z b C q) (Z g K s) (Z j F y);have q0:=A.cell 0;have q1:=A.cell 1;have q2:=A.cell 2;have q3:=A.cell 3;have q4:=A.cell 4;have q5:=A.cell 5;have q6:=A.cell 6;simp only[lQ,lO,lS]at q0 q1 q2 q3 q4 q5 q6;have OW:=HO.o7 a.1.at_.rb t d c n (Z b C q) (Z g K s) (Z j F y);exact mM (v:=An #[t,d,c,n,Z b C q,Z g K s,Z j F y]) (by simp[results,results8,go_sem,q0,q1,q2,q3,q4,q5,q6]) rfl ⟨t,d,c,n,⟨Z b C q,Z g K s,Z j F y⟩,C,K,F,rfl,OW,HE.1,HE.2,uh a.1.at_.cq oM _ _ _ _ _ _ _⟩
   obtain rfl:=he.false I;(obtain rfl:t=0:=mr λe=>I (.inl e));obtain rfl:d=false:=by
    cases d
    . rfl
    exact absurd (.inr rfl) I
   clear he I;go_wp2_with fail;refine(Yc ⟨Z D p.az E,Z V p.b8 W,Z f1 p.aC f3,Z t1 p.bO t3⟩ p c n ⟨Z b C q,Z g K s,Z j F y⟩ C K F hv B M u2 a.1.hB a.1.hM a.1.own a.1.mb a.1.hd (a.2.going rfl rfl).sh (a.2.going rfl rfl).wf H.1 H.2.1 (λu hu=>H.2.2.1.av (a.1.at_.cq.trans (hu.mono (by have:=a.1.low;omega))) lR)).mono ?_;rintro e u5 ⟨rfl,t',d',c',n',X',C',K',F',aY,ai,aT,au⟩;obtain⟨z1,z2,z3⟩:=X';obtain⟨g4,h4,aF⟩:=AF ai.cells;obtain⟨g5,h5,aG⟩:=AF (ai.fg.own (z2,K') sP);obtain⟨g6,h6,aH⟩:=AF ai.dk;simp only[]at aF aG aH;subst aF aG aH;have HN:=VG a H.2.1 bg aY ai aT au;clear aY ai aT au a;go_wp2;go_roundw;(case rel=>exact⟨k+1,t',d',c',n',g4,g5,g6,h4,h5,h6,C',K',F',oM,by go_num,HN⟩);exact oI
 have HE:Ae (Il p m nn (A3 t d c n C K F)/\(A3 t d c n C K F).small):=⟨z.2.ends hk (.inl oM),z.2.small⟩
 clear bf;have HO:Ae (AB wr w ⟨Z b C q,Z g K s,Z j F y⟩ C K F):=z.1.own.base (by have:=z.1.low;omega);obtain⟨O,P,Q,m3,R,S,T,_⟩:=z.1.mb.at;simp only[]at R S T;have r0:=z.1.at_.rb.cell 0;have D:=z.1.at_.rb.cell 1;have r2:=z.1.at_.rb.cell 2;have E:=z.1.at_.rb.cell 3;have r4:=z.1.at_.rb.cell 4;have r5:=z.1.at_.rb.cell 5;have r6:=z.1.at_.rb.cell 6;have z0:=z.1.at_.rb.frozen 0;have z1:=z.1.at_.rb.frozen 1;have z2:=z.1.at_.rb.frozen 2;have z3:=z.1.at_.rb.frozen 3;have z4:=z.1.at_.rb.frozen 4;have z5:=z.1.at_.rb.frozen 5;have z6:=z.1.at_.rb.frozen 6;simp only[lQ,lO,lS]at r0 D r2 E r4 r5 r6;go_wp2_with fail;have A:=z.1.at_.rb.w7 t d c n (Z b C q) (Z g K s) (Z j F y);have q0:=A.cell 0;have q1:=A.cell 1;have q2:=A.cell 2;have q3:=A.cell 3;have q4:=A.cell 4;have q5:=A.cell 5;have q6:=A.cell 6;simp only[lQ,lO,lS]at q0 q1 q2 q3 q4 q5 q6;have OW:=HO.o7 z.1.at_.rb t d c n (Z b C q) (Z g K s) (Z j F y);exact mM (v:=An #[t,d,c,n,Z b C q,Z g K s,Z j F y]) (by simp[results,results8,go_sem,q0,q1,q2,q3,q4,q5,q6]) rfl ⟨t,d,c,n,⟨Z b C q,Z g K s,Z j F y⟩,C,K,F,rfl,OW,HE.1,HE.2,uh z.1.at_.cq oM _ _ _ _ _ _ _⟩
structure T9(w:Y)(v:BN)(xs:List MI)(ks:List MC):Prop where
 aU:Rd w 4 (Z v.c.a v.c.n v.c.c) xs (Ad MI.cells xs)
 cap: ↑xs<=v.c.c
 kn:ks.length<=1048576
 kr:Rd w 2 (Z v.k.a v.k.n v.k.c) ks (Ad MC.cells ks)
 con:∀x∈xs,x.op=1->0<=x.a/\x.a.toNat< ↑ks
theorem T9.av{v:BN}{xs:List MI}{b:List MC}(h:T9 w v xs b)(a:Ah w w u):T9 u v xs b:=⟨h.aU.av a lR,h.cap,h.kn,h.kr.av a lR,h.con⟩
structure r9(w u:Y)(v:BN)(h:Nat)(x y:EJ)(c:MT):Prop where
 body:Ay u w v.cells 111
 loop:Ay u ((w:Nat)+1) #[h,Z x.a x.n x.c,Z y.a y.n y.c] 65
 iP:Ay u ((w:Nat)+1+1) #[c.func,c.head,c.dT,Ag .u32 c.init] 37
 cq:Ah w w u
theorem r9.av{v:BN}{h:Nat}{x y:EJ}{c:MT}(H:r9 w u v h x y c)(a:Ah u u b):r9 w b v h x y c:=⟨H.body.av a,H.loop.av a,H.iP.av a,Ar H.cq lR a⟩
theorem LN(v:BN)(h:Nat)(x y:EJ)(F:List (MB×J))(xs:List MI)(l:List MC)(d:List Int)(c:MT)(m0:MB)(w:Y)(D:JI w v F xs)(A:(F.map Prod.fst)[h]?=K m0)(q:∀z∈F,Yq w z.2 z.1/\z.1.next.length<=1048576)(P:Rd w 1 (Z y.a y.n y.c) d (Ad At d))(aj:d.length<=1024)(hc:T9 w v xs l):
 Ai Aq 72 #[An v.cells,An #[h,Z x.a x.n x.c,Z y.a y.n y.c],An #[c.func,c.head,c.dT,Ag .u32 c.init]] w λe w'=>AM e (¬∃(b:Nat) (m:MB),(F.map Prod.fst)[b]?=K m/\(h:Int)∈m.next/\¬((b:Int)∈d)/\¬BO l xs m c)/\Ah w w w':=by
 have hh:h<F.length:=by have:=(f7.1 A).1;simpa using this
 obtain⟨_,g,o,_,_,_,_,r,C,_⟩:=D.at hh;have H:=Aw (lN D (lN q (lN P (lN aj hc))));have E:=Aw (lN r C);have ae:Ae (y.n= ↑d):=by obtain⟨ya,yc,ey⟩:=P.aD;simp only[lU]at ey;exact ey.2.1
 have aM:F.length<=1024:=D.len;clear D A q P aj hc r C hh;have s:=Gw w v.cells #[h,Z x.a x.n x.c,Z y.a y.n y.c] #[c.func,c.head,c.dT,Ag .u32 c.init] 111 65 37;go_enter func72,ntmps72;go_upto_region 1 with fail
 refine Av (λu=>Ae (r9 w u v h x y c)) ⟨s.1,s.2.1,s.2.2.1,s.2.2.2⟩ ?_;rintro U p;clear s;obtain⟨p0,p1,p2,p3,p4,p5,p6,p7,p8,p9,aA,V,aE,aF,aG⟩:=CW p.body;simp only[E.1,E.2]at V;go_wp2_with fail;go_loopw [14] (λi wr=>∃k:Nat,k<= ↑F/\i=iZ k/\Ae (∀(j:Nat) (m:MB),j<k->(F.map Prod.fst)[j]?=K m->¬((h:Int)∈m.next/\¬((j:Int)∈d)/\¬BO l xs m c))/\Ae (r9 w wr v h x y c)) (λi _=> ↑F-(intOf i).toNat)
 case atStart=>exact⟨0,oM,rfl, λj m hj=>absurd hj oM,p⟩
 case round=>
 clear p p0 p1 p2 p3 p4 p5 p6 p7 p8 p9 aA V aE aF aG;obtain⟨k,hk,rfl,HT,p⟩:=hrel;by_cases aJ:k< ↑F
 case pos=>
  obtain⟨m,g',o',ma,me,nx,A,r,C,B,Q,R,e1,e2,aO,aQ,ai⟩:=H.1.at aJ;rw[E.1]at r;simp only[lX,ny,oZ]at r;obtain⟨rfl,rfl⟩:=r;obtain⟨q,O⟩:=H.2.1 _ (lP ai);simp only[]at q O;obtain⟨S,T,aH⟩:=Rd.aD q;subst aH;rw[<-p.cq.cell (lT B)]at B;rw[<-p.cq.cell (lT Q)]at Q;rw[<-p.cq.cell (lT R)]at R;have HM:=Aw (lN A (lN q (lN O (lN e1 e2))));have I:Ae (¬((h:Int)∈m.next/\¬((k:Int)∈d)/\¬BO l xs m c)->∀(j:Nat) (m:MB),j<k+1->(F.map Prod.fst)[j]?=K m->¬((h:Int)∈m.next/\¬((j:Int)∈d)/\¬BO l xs m c)):= λaK j m' hj N=>by
   by_cases e:j=k
   . subst e;rw[HM.1]at N;have em:=mD N;subst em;exact aK
   exact HT.o j m' oM N
  have s1:¬g=wr.heap.size:=nZ (lT B);have s2:g<wr.heap.size:=lT B;clear A q O ai e1 e2 C;go_upto_region 4 with fail
  refine Av (λu=>Ae (r9 w u v h x y c/\Ay u wr #[ma,me,Z S m.next T] 97)) ⟨p.av (Al _ _),Ay.new _ _ _⟩ ?_
  rintro UA f;generalize wr.heap.size=YB at f⊢;clear B Q R s1 s2 p;obtain⟨b0,b1,b2⟩:=CI f.2;obtain⟨l0,l1,l2⟩:=CI f.1.loop;rw[ae]at l2;go_wp2_with fail;refine(Fd S T m.next (h:Int) UA HM.2.2.1 (Rd.av HM.2.1 f.1.cq lR)).mono ?_;rintro e u2 ⟨⟨q1,rfl,aq⟩,rfl⟩;have W:=Aw aq;clear aq;cases q1
  case false=>
   have t:Ae (¬((h:Int)∈m.next/\¬((k:Int)∈d)/\¬BO l xs m c)):= λe=>(by have:=W.2 e.1;cases this)
   go_wp2;go_roundw;(case rel=>exact⟨k+1,oM,by go_num,I.o t,f.1⟩);exact oI
  go_wp2_with fail;have L:Ae (Rd w 1 (Z y.a d y.c) d (Ad At d)):=by have:=H.2.2.1;rw[ae]at this;exact this
  refine(Fd y.a y.c d (k:Int) u2 (mC H.2.2.2.1 oM) (Rd.av L f.1.cq lR)).mono ?_;rintro e u3 ⟨⟨q2,rfl,au⟩,rfl⟩;have X:=Aw au;clear au;cases q2
  case true=>
   have t:Ae (¬((h:Int)∈m.next/\¬((k:Int)∈d)/\¬BO l xs m c)):= λe=>e.2.1 (X.1 (by first|rfl|trivial))
   go_wp2;go_roundw;(case rel=>exact⟨k+1,oM,by go_num,I.o t,f.1⟩);exact oI
  obtain⟨p0,p1,p2,p3,p4,p5,p6,p7,p8,p9,aA,V,aE,aF,aG⟩:=CW f.1.body;obtain⟨c0,c1,c2,c3⟩:=Ec f.1.iP;go_wp2_with fail;have G:=K7 v (Z S m.next T) xs l m c u3 H.1.top (H.2.2.2.2.av f.1.cq).aU H.2.2.2.2.cap H.2.2.2.2.kn (H.2.2.2.2.av f.1.cq).kr H.2.2.2.2.con (H.1.eI k m HM.1);rw[HM.2.2.2.1,HM.2.2.2.2]at G;refine G.mono ?_;rintro e u4 ⟨⟨q3,rfl,ax⟩,bb⟩;have aa:=Aw ax;have E4:=Aw (f.1.av bb);clear ax bb G;cases q3
  case true=>
   have t:Ae (¬((h:Int)∈m.next/\¬((k:Int)∈d)/\¬BO l xs m c)):= λe=>e.2.2 (aa.1 (by first|rfl|trivial))
   go_wp2;go_roundw;(case rel=>exact⟨k+1,oM,by go_num,I.o t,E4⟩);exact oI
  have HN:Ae (¬¬∃(b:Nat) (m:MB),(F.map Prod.fst)[b]?=K m/\(h:Int)∈m.next/\¬((b:Int)∈d)/\¬BO l xs m c):= λe=>e ⟨k,m,HM.1,W.1 (by first|rfl|trivial), λe=>(by have:=X.2 e;cases this), λe=>(by have:=aa.2 e;cases this)⟩
  go_wp2;go_ret;exact⟨.no HN,E4.cq⟩
 have aI:k=F.length:=oM;subst aI;have L:Ae (¬∃(b:Nat) (m:MB),(F.map Prod.fst)[b]?=K m/\(h:Int)∈m.next/\¬((b:Int)∈d)/\¬BO l xs m c):= λ⟨b,m,h1,h2⟩=>HT.o b m (by have:=(f7.1 h1).1;simpa using this) h1 h2
 go_wp2;go_ret;exact⟨.iQ L,p.cq⟩
end Go.Proofs.YtkgohaigebcgoaaGreatDoor
