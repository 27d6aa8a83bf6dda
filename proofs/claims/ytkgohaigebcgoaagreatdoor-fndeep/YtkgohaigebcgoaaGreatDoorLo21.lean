import Derived.Test.YtkgohaigebcgoaaGreatDoorLo20
namespace Go.Proofs.YtkgohaigebcgoaaGreatDoor
open Go.ChangeShapes Go.WideShapes Go.ChangeAt Go.RowKit Go.Proofs.Tryz
set_option linter.unusedVariables false
open Go.Value renaming slice → Z,int → Ag,agg → An
open Option renaming some → K,none → M
open Go renaming World → Y,Calls → Ai,Value → J,TypeId → Aj
open Go.RowKit renaming Hid → Ae,Below → Ah
open Go.IntKind renaming i64 → Af
open Go.Obj renaming cells → Ak
open Go.Ending renaming returned → Am
open Go.Proofs.Tryz renaming prog → Aq
open Go.World renaming setCell → Aa,ownsRow → Ab,alloc → Ac
open List renaming flatMap → Ad
set_option maxHeartbeats 4000000
set_option maxRecDepth 100000
variable {w u:Y}{n a i G q B:Nat}{b:List MB}{E:Nat->List Nat}{f:MF}{g:MI}{α:Type}{e:Int}{v:VP}{X:VS}{V:J}{T:Nat->List Int}
theorem KX(a b c:Option Addr)(d f g c1 c2 c3:Nat)(w:Y):
 Ai Aq 43 #[An #[Z a d c1,Z b f c2,Z c g c3]] w λe h=>e=Am (An #[Z a d c1,Z b f c2,Z c g c3])/\Ah w w h:=by
 go_enter func43,ntmps43;go_wp2;exact kA (v:=An #[Z a d c1,Z b f c2,Z c g c3]) (by simp[results,results43,go_sem]) rfl ⟨rfl,((jZ _ _).alloc lR _).alloc sP _⟩
theorem Cz.values{p:MP}(i:A7 p.az){r:List Int}(g:r∈p.az)(c:List Int)(f:c.length= ↑r):Cz c r↔Gn c r:=by
 have d:∀t∈r,Fd t=true:=by obtain⟨j,a,rfl⟩:=List.getElem_of_mem g;have:=(i.2 j a _ (an a)).2;exact λt ht=>lX.1 this t ht
 constructor
 . intro h j a x b t ht;exact⟨d t (hC ht), λe=>h.2 j a x b (by rw[ht];simp only[]at e;rw[e])⟩
 intro h;exact⟨f, λj a x b ht=>(h j a x b 1 ht).2 rfl⟩
theorem Gy(a b c:Option Addr)(d e f c1 c2 c3:Nat)(w:Y):
 (Instr.index 133 (An #[Z a d c1,Z b e c2,Z c f c3]) (Ag Af 0)).run Aq w=.ok (Z a d c1) w/\(Instr.index 133 (An #[Z a d c1,Z b e c2,Z c f c3]) (Ag Af 1)).run Aq w=.ok (Z b e c2) w/\(Instr.index 133 (An #[Z a d c1,Z b e c2,Z c f c3]) (Ag Af 2)).run Aq w=.ok (Z c f c3) w:=by
 have z:=Tryz.sizeOf50;have ag:=Tryz.isAgg50;refine⟨?_,?_,?_⟩<;>simp[Instr.index,run_underlying underlying133,asIntOf,z,ag,go_sem]
theorem Ns(v:VP)(p:MP)(P:VM)(m:MM)(w:Y)(hs:p.small)(hw:p.wf)(h:ET w v p)(aa:EY w v.r p.az)(ae:FZ w v.f p.aB)(ms:m.small)(mw:m.wf)(S:YQ w P m):
 Ai Aq 40 #[An #[v.r,v.k,v.f,v.t],An #[P.i,P.o,P.k]] w λe w'=>AM e (CS p m)/\Ah w w w':=by
 have H:Ae (p.small/\p.wf/\ET w v p/\m.small/\YQ w P m/\EY w v.r p.az/\FZ w v.f p.aB/\m.wf):=⟨hs,hw,h,ms,S,aa,ae,mw⟩
 obtain⟨j,l,em⟩:=S.ins.aP;obtain⟨d,co,eo⟩:=S.outs.aP;obtain⟨b,ck,ek⟩:=S.keeps.aP;obtain⟨vi,vo,au⟩:=P;simp only[]at em eo ek;subst em eo ek;have a:Ae (OQ w ((w.alloc (Ak #[v.r,v.k,v.f,v.t] 40)).alloc (Ak #[Z j m.ins l,Z d m.outs co,Z b m.keeps ck] 52)) v.r v.k v.f v.t/\YN ((w.alloc (Ak #[v.r,v.k,v.f,v.t] 40)).alloc (Ak #[Z j m.ins l,Z d m.outs co,Z b m.keeps ck] 52)) ((w:Nat)+1) (Z j m.ins l) (Z d m.outs co) (Z b m.keeps ck)):=by refine⟨(OQ.of w v.r v.k v.f v.t _).av (Al _ _),?_⟩;have:=YN.new (w.alloc (Ak #[v.r,v.k,v.f,v.t] 40)) (Z j m.ins l) (Z d m.outs co) (Z b m.keeps ck) 52;simpa using this
 clear hs hw h ms S aa ae mw;go_enter func40,ntmps40;go_wp2_with fail;refine(Ej v p _ H.1 H.2.1 (H.2.2.1.av a.1.cq lR) (H.2.2.2.2.2.1.av a.1.cq lR) (H.2.2.2.2.2.2.1.av a.1.cq lR)).mono ?_;rintro e u ⟨⟨n,rfl,W⟩,G⟩;have L:Ae (OQ w u v.r v.k v.f v.t/\YN u ((w:Nat)+1) (Z j m.ins l) (Z d m.outs co) (Z b m.keeps ck)):=⟨a.1.av G,a.2.av G⟩
 clear G a;by_cases q0:n=0
 . subst q0;have V:Ae (AX p 0):=W;clear W;obtain⟨p0,p1,p2,p3⟩:=L.1.prog;obtain⟨m0,m1,m2⟩:=L.2;rw[show KL 0=.nilIface from rfl];go_wp2_with fail;refine(KX j d b m.ins m.outs m.keeps l co ck _).mono ?_;rintro e E ⟨rfl,G⟩;have B:Ae (Ah w w E/\Kr E w v.r v.k v.f v.t):=⟨Ar L.1.cq lR G,L.1.prog.av G⟩
   clear G L m0 m1 m2 p0 p1 p2 p3;obtain⟨g,o,c,D,s,x,y0,y1,y2,R⟩:=Wz.of (H.2.2.1.av B.1 lR) V.ok.1.1;have C:Ae (Wz E v.r p g o c D s x y0 y1 y2):=R;have O:Ae (CS p m↔m.ins.length= ↑D/\Cz m.outs s/\Cz m.keeps x):=CS.iff V R.eq
   have HS:Ae (D.length<=1048576/\s.length<=1048576/\x.length<=1048576):=by have:=H.1.region;rw[R.eq]at this;exact⟨this D sP,this s sP,this x sP⟩
   have HM:Ae (m.small/\YQ w ⟨Z j m.ins l,Z d m.outs co,Z b m.keeps ck⟩ m):=⟨H.2.2.2.1,H.2.2.2.2.1⟩
   have HW:Ae m.wf:=H.2.2.2.2.2.2.2;obtain⟨b0,d0,e0⟩:=C.k0.aP;obtain⟨b1,d1,e1⟩:=C.k1.aP;obtain⟨b2,d2,e2⟩:=C.k2.aP;have aq:=R.rows;obtain⟨vr,vk,vf,vt⟩:=v;simp only[]at aq;subst aq;subst e0 e1 e2;clear R H;(have x0:∀w,(Instr.index 133 (An #[Z j m.ins l,Z d m.outs co,Z b m.keeps ck]) (Ag Af 0)).run Aq w=.ok (Z j m.ins l) w:= λw=>(Gy j d b m.ins m.outs m.keeps l co ck w).1);(have x1:∀w,(Instr.index 133 (An #[Z j m.ins l,Z d m.outs co,Z b m.keeps ck]) (Ag Af 1)).run Aq w=.ok (Z d m.outs co) w:= λw=>(Gy j d b m.ins m.outs m.keeps l co ck w).2.1);(have x2:∀w,(Instr.index 133 (An #[Z j m.ins l,Z d m.outs co,Z b m.keeps ck]) (Ag Af 2)).run Aq w=.ok (Z b m.keeps ck) w:= λw=>(Gy j d b m.ins m.outs m.keeps l co ck w).2.2);go_wp2;go_loopw [13] (λi wr=>∃k:Nat,k<=3/\i=Ag Af k/\Ae ((0<k->m.ins.length= ↑D)/\(1<k->Cz m.outs s)/\(2<k->Cz m.keeps x))/\Ae (Ah E E wr/\Kr wr w (Z (K ⟨g,o,M⟩) 3 c) vk vf vt)) (λi _=>3-(intOf i).toNat)
   (case atStart=>exact⟨0,oM,rfl,⟨λe=>absurd e oM, λe=>absurd e oM, λe=>absurd e oM⟩,⟨jZ _ _,B.2⟩⟩);obtain⟨k,hk,rfl,N,a⟩:=hrel;obtain⟨p0,p1,p2,p3⟩:=a.2;have i0:=C.i0;have X:=C.i1;have i2:=C.i2;rw[<-a.1.cell (i7 i0)]at i0;rw[<-a.1.cell (i7 X)]at X;rw[<-a.1.cell (i7 i2)]at i2;obtain rfl|rfl|rfl|rfl:k=0\/k=1\/k=2\/k=3:=oM
   . rw[show((0:Nat):Int)=0 from rfl];have ai:=HS.1;have aj:=HM.1.ins;by_cases q:m.ins.length= ↑D
     . have T:(m.ins:Int)=(D:Int):=oM;have F:Ae (m.ins.length= ↑D):=q
       clear q;go_wp2;go_roundw;(case rel=>exact⟨1,oM,by go_num,⟨λ_=>F.o, λe=>absurd e oM, λe=>absurd e oM⟩,a⟩);simp[intOf]
     have T:¬(m.ins:Int)=(D:Int):=oM;(have y:Ae (¬CS p m):= λe=>q (O.1 e).1);clear q;go_wp2;go_ret;exact⟨.no y,Ar B.1 lR a.1⟩
   . rw [show((1:Nat):Int)=1 from rfl];have ai:=HS.2.1;have aj:=HM.1.outs;by_cases q:m.outs.length= ↑s
     . have T:(m.outs:Int)=(s:Int):=oM;have F:Ae (m.outs.length= ↑s):=q
       clear q;go_wp2_with fail;refine(Iw (Z b1 s d1) (Z d m.outs co) m.outs s _ HM.1.outs (λz hz=>(JY (HW.outs z hz)).1) F.symm (HM.2.outs.av (Ar B.1 lR a.1) lR) (C.k1.av a.1 lR)).mono ?_;rintro e U ⟨⟨bb,rfl,A⟩,I⟩;rw[<-Cz.values V.ok.1 (by rw[C.eq];simp) _ F]at A;have Q:Ae (Ah E E U/\Kr U w (Z (K ⟨g,o,M⟩) 3 c) vk vf vt):=⟨Ar a.1 lR I,a.2.av I⟩
       clear I i0 X i2 p0 p1 p2 p3;cases bb
       . (have y:Ae (¬CS p m):= λe=>absurd (A.2 (O.1 e).2.1) lF);clear A;go_wp2;go_ret;exact⟨.no y,Ar B.1 lR Q.1⟩
       have HG:Ae (Cz m.outs s):=A.1 rfl;clear A;go_wp2;go_roundw;(case rel=>exact⟨2,oM,by go_num,⟨λ_=>N.1 oM, λ_=>HG.o, λe=>absurd e oM⟩,Q⟩);simp[intOf]
     have T:¬(m.outs:Int)=(s:Int):=oM;(have y:Ae (¬CS p m):= λe=>q (O.1 e).2.1.1);clear q;go_wp2;go_ret;exact⟨.no y,Ar B.1 lR a.1⟩
   . rw [show((2:Nat):Int)=2 from rfl];have ai:=HS.2.2;have aj:=HM.1.keeps;by_cases q:m.keeps.length= ↑x
     . have T:(m.keeps:Int)=(x:Int):=oM;have F:Ae (m.keeps.length= ↑x):=q
       clear q;go_wp2_with fail;refine(Iw (Z b2 x d2) (Z b m.keeps ck) m.keeps x _ HM.1.keeps (λz hz=>(JY (HW.keeps z hz)).1) F.symm (HM.2.keeps.av (Ar B.1 lR a.1) lR) (C.k2.av a.1 lR)).mono ?_;rintro e U ⟨⟨bb,rfl,A⟩,I⟩;rw[<-Cz.values V.ok.1 (by rw[C.eq];simp) _ F]at A;have Q:Ae (Ah E E U/\Kr U w (Z (K ⟨g,o,M⟩) 3 c) vk vf vt):=⟨Ar a.1 lR I,a.2.av I⟩
       clear I i0 X i2 p0 p1 p2 p3;cases bb
       . (have y:Ae (¬CS p m):= λe=>absurd (A.2 (O.1 e).2.2) lF);clear A;go_wp2;go_ret;exact⟨.no y,Ar B.1 lR Q.1⟩
       have HG:Ae (Cz m.keeps x):=A.1 rfl;clear A;go_wp2;go_roundw;(case rel=>exact⟨3,oM,by go_num,⟨λ_=>N.1 oM, λ_=>N.2.1 oM, λ_=>HG.o⟩,Q⟩);simp[intOf]
     have T:¬(m.keeps:Int)=(x:Int):=oM;(have y:Ae (¬CS p m):= λe=>q (O.1 e).2.2.1);clear q;go_wp2;go_ret;exact⟨.no y,Ar B.1 lR a.1⟩
   have HY:Ae (CS p m):=O.2 ⟨N.1 oM,N.2.1 oM,N.2.2 oM⟩;go_wp2;go_ret;exact⟨.fk HY,Ar B.1 lR a.1⟩
 have y:Ae (¬CS p m):= λe=>q0 (AX.one W e.1)
 rw[show KL n=.iface 190 n from jH q0];clear W q0;go_wp2;go_ret;exact⟨.no y,L.1.cq⟩
structure qd(w u:Y)(n G gF gP:Nat):Prop where
 eP:Ay u G #[sN,sG gF n n,sN,sG gP n n,sN] 101
 fA:Ab u w 27 1 (sG gF n n) n (List.replicate n sN)
 gV:Ab u w 2 1 (sG gP n n) n (iv (λ_=>0) n)
 cq:Ah w w u
 ge: ↑w<=G
theorem qd.of{W:Y}{b:Nat}(d:Ab W w 27 1 (sG a n n) n (List.replicate n sN))(e:Ab W w 2 1 (sG b n n) n (iv (λ_=>0) n))(c:Ah w w W):qd w (Ac W (Ak #[sN,sG a n n,sN,sG b n n,sN] 101)) n W a b:=⟨Ay.new _ _ _,AC d (Al _ _) lR,AC e (Al _ _) lR,Ar c lR (Al _ _),c.size⟩
def Fw(E:Nat->List Nat)(b k x:Nat):List Nat:=(((E b).take k).filter λy=>decide (y=x)).map λ_=>b
theorem Mb(E:Nat->List Nat)(b x:Nat):Bq E (b+1) x=Bq E b x++Fw E b (E b).length x:=by unfold Bq Fw;rw[mR,kJ];simp
theorem SH(E:Nat->List Nat)(b x:Nat):Fw E b 0 x=[]:=by simp[Fw]
theorem SG{b k y:Nat}(c:(E b)[k]?=K y)(x:Nat):Fw E b (k+1) x=if x=y then Fw E b k x++[b]else Fw E b k x:=by
 obtain⟨a,e⟩:=f7.1 c;unfold Fw;rw[kN a,lq,k8,e];by_cases q:x=y
 . subst q;simp
 simp[q,Ne.symm q]
theorem N6(E:Nat->List Nat)(b k x:Nat):(Fw E b k x).length<=(E b).length:=by unfold Fw;rw[kC];refine jN (mO _ _) ?_;rw[kp];omega
theorem J9(a:∀b,(E b).length<=2)(b x:Nat):(Bq E b x).length<=2*b:=by
 induction b with
 |zero=>simp[Bq]
 | succ b e=>have c:=N6 E b (E b).length x;have d:=a b;rw[Mb,jI];omega
structure NG(w w2 u:Y)(n G gF:Nat)(PV:J)(NV:J)(NS:List J)(FS:List (J×List Nat)):Prop where
 eP:Ay u G #[NV,sG gF n n,sN,PV,sN] 101
 fF:Ab u w2 27 1 NV NS NS
 fA:Ab u w 27 1 (sG gF n n) n (FS.map Prod.fst)
 eT:CO u w2 (FS.map λx=>(x.1,ints x.2))
 fx:∀k,k< ↑w2->k≠G->k≠gF->u.heap[k]?=w2.heap[k]?
 size:(w2:Nat)<= ↑u
 cq:Ah w w u
 lt: ↑w<=G/\G< ↑w2/\gF< ↑w2
theorem NG.av{j i:Y}{f:Nat}{e d:J}{c:List J}{b:List (J×List Nat)}(h:NG w j u n G f e d c b)(a:Ah u u i):NG w j i n G f e d c b:=⟨h.eP.av a,AC h.fF a lR,AC h.fA a lR,h.eT.fY a, λk g l m=>by rw[a.block k (lA g h.size)];exact h.fx k g l m,jN h.size a.size,Ar h.cq lR a,h.lt⟩
theorem NG.next{w l u d:Y}{j g cap:Nat}{q p x:J}{b:List J}{m:List (J×List Nat)}(h:NG w l u n G j q p b m)(hw:(w:Nat)<= ↑l)(t:Ab d l 27 1 (sG g (b.length+1) cap) (b.length+1) (b++[x]))(c:u.grownBy d p.ownBlock):Ay d G #[p,sG j n n,sN,q,sN] 101/\NG w l (d.setCell G (sG g (b.length+1) cap)) n G j q (sG g (b.length+1) cap) (b++[x]) m:=by
 have f:=h.eP.grown c h.fF dC;have v:Ab d w 27 1 (sG j n n) n (m.map Prod.fst):=DI h.fA c (λy A e=>by have r:=(h.fF.lt y e.symm).1;simp only[Value.ownBlock,jJ]at A;have:=h.lt.2.2;omega);have C:=h.eT.fM c h.fF dC;refine⟨f,?_,?_,?_,C.other f dC 0 _, λk s r z=> ?_,?_,?_,h.lt⟩
 . have:=f.set 0 (sG g (b.length+1) cap);simpa using this
 . rw[jI,kE];exact kK t (a:=⟨G,0,M⟩) (LJ f t dC) _
 . exact kK v (a:=⟨G,0,M⟩) (LJ f v dC) _
 . rw[lj d _ k _ r,c.block k (lA s h.size) (λe=>by have:=(h.fF.lt k e.symm).1;omega)];exact h.fx k s r z
 . rw[lk];exact jN h.size c.size
 exact(h.cq.grown c h.cq.size (λi B=>jN hw (h.fF.lt i B).1)).setCell h.lt.1 _
theorem T8(A B:List α)(x y:α):(A++x::B).set A y=A++y::B:=by rw[mV _ _ lR,mM];rfl
theorem NG.fK{w m u f:Y}{n G d g cap y b:Nat}{v r V:J}{q:List J}{c:List (J×List Nat)}{l:List Nat}(h:NG w m u n G d v r q c)(hw:(w:Nat)<= ↑m)(E:c[y]?=K (V,l))(R:Ab f m 2 1 (sG g (l.length+1) cap) (l.length+1) (nv l++[iZ (b:Int)]))(j:u.grownBy f V.ownBlock)(N:V.ownBlock=K g\/g= ↑u):Ab f w 27 1 (sG d n n) n (c.map Prod.fst)/\NG w m (Aa f ⟨d,y,M⟩ (sG g (l.length+1) cap)) n G d v r q (c.set y (sG g (l.length+1) cap,l++[b])):=by
 obtain⟨U,T⟩:=f7.1 E;have B:c=c.take y++(V,l)::c.drop (y+1):=by rw[<-T,<-lV U,lS]
 have P:(c.take y).length=y:=by rw[kp];omega
 have p:=h.eT.own (V,ints l) (kI.2 ⟨(V,l),hC E,rfl⟩);have F:=h.eP.grown j p dC;have H:Ab f m 27 1 r q q:=Er h.fF j p dC;have s:Ab f w 27 1 (sG d n n) n (c.map Prod.fst):=Er h.fA j p dC;have S:c.set y (sG g (l.length+1) cap,l++[b])=c.take y++(sG g (l.length+1) cap,l++[b])::c.drop (y+1):=by have:=T8 (c.take y) (c.drop (y+1)) (V,l) (sG g (l.length+1) cap,l++[b]);rw[P,<-B]at this;exact this
 have t:CO f m ((c.set y (sG g (l.length+1) cap,l++[b])).map λx=>(x.1,ints x.2)):=by have z:=h.eT;rw[B,k8,lM]at z;rw[S,k8,lM];refine CO.grow (g:=g) z ?_ rfl j (N.imp id λe=>oM);simp only[];rw[A4,jI,kE,<-Ex,Mu];exact R
 have W:=h.lt.2.2;have L:d≠G:= λe=>LJ F s dC (by rw[e];rfl)
 have Q:r.ownBlock≠K d:= λe=>by have:=(H.lt d e).1;omega
 refine⟨s,F.other (Ne.symm L) _,kK H (a:=⟨d,y,M⟩) Q _,?_,⟨λx D=> ?_,t.sep⟩, λk C I A=> ?_,?_,?_,h.lt⟩
 . have:=(s.stored y (sG g (l.length+1) cap)).1;rw[List.map_set];exact this
 . refine kK (t.own x D) (a:=⟨d,y,M⟩) (λe=> ?_) _;have:=((t.own x D).lt d e).1;omega
 . rw[lj f _ k _ A,j.block k (lA C h.size) (λe=>by have:=(p.lt k e.symm).1;omega)];exact h.fx k C I A
 . rw[lk];exact jN h.size j.size
 exact(h.cq.grown j h.cq.size (λi O=>jN hw (p.lt i O).1)).setCell (AY s).1 _
theorem A6.c1{p:MP}{c:Int}{xs:List MI}{l:ML}{a:MB}(h:b[l.head.toNat]?=K a)(d:Da p.bO c a.cz=M):A6 p c xs b l 1:=⟨a,h,.inl ⟨d,rfl⟩⟩
structure Ui(p:MP)(fi:Int)(xs:List MI)(bs:List MB)(l:ML)(hb:MB)(c:MT)(g:MI):Prop where
 iR:bs[l.head.toNat]?=K hb
 fj:Da p.bO fi hb.cz=K c
 at_:xs[hb.cz.toNat]?=K g
theorem A6.c2{p:MP}{d:Int}{xs:List MI}{l:ML}{e:MB}{c:MT}(h:Ui p d xs b l e c g)(f:¬(g.op=27/\g.a=c.eI)):A6 p d xs b l 2:=⟨e,h.iR,.inr ⟨c,g,h.fj,h.at_,.inl ⟨f,rfl⟩⟩⟩
theorem A6.c3{p:MP}{d:Int}{xs:List MI}{l:ML}{e:MB}{c:MT}(h:Ui p d xs b l e c g)(f:g.op=27/\g.a=c.eI)(i:DZ b l.aC g.c):A6 p d xs b l 3:=⟨e,h.iR,.inr ⟨c,g,h.fj,h.at_,.inr ⟨f,.inl ⟨i,rfl⟩⟩⟩⟩
theorem A6.c4{p:MP}{xs:List MI}{l:ML}{d:MB}{c:MT}(h:Ui p e xs b l d c g)(f:g.op=27/\g.a=c.eI)(i:¬DZ b l.aC g.c)(j:∃a,DZ b l.aC a/\a≠d.cz/\Qn xs c.eI a):A6 p e xs b l 4:=⟨d,h.iR,.inr ⟨c,g,h.fj,h.at_,.inr ⟨f,.inr ⟨i,.inl ⟨j,rfl⟩⟩⟩⟩⟩
theorem A6.c5{p:MP}{xs:List MI}{l:ML}{d:MB}{c:MT}(h:Ui p e xs b l d c g)(f:g.op=27/\g.a=c.eI)(i:¬DZ b l.aC g.c)(j:¬∃a,DZ b l.aC a/\a≠d.cz/\Qn xs c.eI a)(k:l.head=0\/Ku p.b8 xs b l c):A6 p e xs b l 5:=⟨d,h.iR,.inr ⟨c,g,h.fj,h.at_,.inr ⟨f,.inr ⟨i,.inr ⟨j,.inl ⟨k,rfl⟩⟩⟩⟩⟩⟩
theorem A6.c0{p:MP}{xs:List MI}{l:ML}{d:MB}{c:MT}(h:Ui p e xs b l d c g)(f:g.op=27/\g.a=c.eI)(i:¬DZ b l.aC g.c)(j:¬∃a,DZ b l.aC a/\a≠d.cz/\Qn xs c.eI a)(k:¬(l.head=0\/Ku p.b8 xs b l c)):A6 p e xs b l 0:=⟨d,h.iR,.inr ⟨c,g,h.fj,h.at_,.inr ⟨f,.inr ⟨i,.inr ⟨j,.inr ⟨k,rfl⟩⟩⟩⟩⟩⟩
theorem Lv{a:Option Addr}{n c:Nat}{t:List ML}(h:Sg u (Z a n c) t){k:Nat}{m:ML}(p:t[k]?=K m):∃g o b f d i,a=K ⟨g,o,M⟩/\u ⟨g,o+k*3,M⟩=K ↑m.head/\u ⟨g,o+k*3+1,M⟩=K (Z b m.back f)/\u ⟨g,o+k*3+2,M⟩=K (Z d m.aC i)/\pS u (m,Z b m.back f,Z d m.aC i):=by
 obtain⟨xs,z,A,B⟩:=h;have F:=(f7.1 p).1;obtain⟨⟨G,H,I⟩,j,r⟩:∃x,xs[k]?=K x/\x.1=m:=by rw[<-z,jY]at p;exact lE.1 p
 simp only[]at r;subst r;have q:=B _ (hC j);obtain⟨b,f,v⟩:=Rd.aP q.1;obtain⟨d,i,w⟩:=Rd.aP q.2;simp only[]at v w;subst v w;rcases A.2 with⟨e,_⟩|⟨y,E,cc,e,l⟩
 . omega
 simp only[i8]at e;have s:=Rd.elem Gb l k _ j 0 _ rfl;have C:=Rd.elem Gb l k _ j 1 _ rfl;have D:=Rd.elem Gb l k _ j 2 _ rfl;rw[jV]at s;exact⟨y,E,b,f,d,i,e.1,s,C,D,q⟩
theorem JU.jw{f:Y}{c e d vl:J}{r:Ee}(h:JU w c e d vl r)(b:Ah B w f)(a: ↑w<=B):JU f c e d vl r:=⟨h.aC.av b a,h.dr.av b a,h.eU.av b a,h.cv.av b a⟩
theorem Yh{i k j vl:J}{r:Ee}(h:JU w i k j vl r):∃d c1 e c2 f c3 g c4,i=Z d r.aC c1/\k=Z e r.dr c2/\j=Z f r.eU c3/\vl=Z g r.cv c4:=by
 obtain⟨d,c1,l⟩:∃a c,i=Z a r.aC c:=by obtain⟨_,_,b,_⟩:=h.aC;exact b.aP
 obtain⟨e,c2,m⟩:=h.dr.aP;obtain⟨f,c3,n⟩:=h.eU.aP;obtain⟨g,c4,p⟩:∃a c,vl=Z a r.cv c:=by obtain⟨_,_,b,_⟩:=h.cv;exact b.aP
 exact⟨d,c1,e,c2,f,c3,g,c4,l,m,n,p⟩
def BJ(p:MP)(f:MF)(x:MI)(a:List Int):Int:=if x.op=29 then(if a=Bj f then 0 else 5)else EL p f x a
def Dr(p:MP)(f:MF)(x:MI)(a:List Int):List Int:=if x.op=29 then[]else H8 p f x a
structure WS where
 c:Nat->Option (List Int)
 t:Nat->List Int
 d:Nat
def Ec(T:Nat->List Int)(a:Nat)(b:List Int):Nat->List Int:= λj=>if j=a then b else T j
def PM(C:Nat->Option (List Int))(b:Nat)(a:List Int):Nat->Option (List Int):= λj=>if j=b then K a else C j
abbrev qS:=Sum (Int×Nat) (List Int×(Nat->List Int)×Nat)
def DV(p:MP)(f:MF):Nat->Nat->List Int->(Nat->List Int)->Nat->qS
 |0,_,sh,T,D=>.inr (sh,T,D)
 | c+1,a,sh,T,D=>match f.aU[a]? with
   |none=>.inr (sh,T,D)
   |some x=>if BJ p f x sh=0 then DV p f c (a+1) (Dr p f x sh) (Ec T a sh) (max D (Dr p f x sh).length)else .inl (BJ p f x sh,a)
def Mp:List Nat->List Int->(Nat->Option (List Int))->Option (Nat->Option (List Int))
 |[],_,C=>K C
 | t::r,sh,C=>match C t with
   |none=>Mp r sh (PM C t sh)
   |some s=>if s=sh then Mp r sh C else M
abbrev YW:=Sum (Int×Nat) WS
def RH(p:MP)(f:MF)(m:MB)(b:Nat)(s:WS):YW:=match DV p f (m.last-m.cz+1).toNat m.cz.toNat ((s.c b).getD []) s.t s.d with
 |.inl e=>.inl e
 | .inr (sh,T,D)=>match Mp (m.next.map Int.toNat) sh s.c with
   |none=>.inl (4,m.last.toNat)
   |some C=>.inr ⟨C,T,D⟩
def Ib(p:MP)(f:MF)(a:List MB):List Nat->WS->YW
 |[],s=>.inr s
 | b ::r,s=>match a[b]? with
   |none=>.inr s
   | some m=>match RH p f m b s with
     |.inl e=>.inl e
     |.inr s'=>Ib p f a r s'
def NM:WS:=⟨λb=>if b=0 then K []else M, λ_=>[],0⟩
structure Qh where
 aU:Int
 at_:Int
 depth:Int
 dT:List (List Int)
def PL(n:Nat):YW->Qh
 |.inl (c,a)=>⟨c,(a:Int),0,[]⟩
 |.inr s=>⟨0,0,(s.d:Int),(List.range n).map s.t⟩
def JX(p:MP)(a:Int)(y:Qh):Prop:=(¬qc p a/\y=⟨6,0,0,[]⟩)\/(AX p 0/\0<=a/\∃f r,p.aB[a.toNat]?=K f/\Bl f.aU r/\r.aU=0/\y=PL f.aU.length (Ib p f r.aC (r.dr.map Int.toNat) NM))
theorem JX.one{p:MP}{c:Int}{y j:Qh}(h:JX p c y)(l:JX p c j):y=j:=by
 rcases h with⟨a,rfl⟩|⟨q,t,f,r,d,g,m,rfl⟩<;>rcases l with⟨a',rfl⟩|⟨s,u,k,v,b,i,n,rfl⟩
 . rfl
 . exact absurd ⟨s,u,k,b,v,i,n⟩ a
 . exact absurd ⟨q,t,f,d,r,g,m⟩ a'
 rw[d]at b;have e:=jM b;subst e;have e:=g.one i;subst e;rfl
theorem Us{L:List Nat}{b:Nat}{m:MB}(r:L.Pairwise (· < ·))(z:∀x∈L,x<n)(h:(build L n)[b]?=K m)(f:m.cz<(i:Int))(g:(i:Int)<=m.last):i∉L:=by
 unfold build at h;rw[mA]at h;cases e1:L[b]? with
 |none=>rw[e1]at h;simp at h
 | some a=>
   cases e2:(L.tail++[n])[b]? with
   |none=>rw[e1,e2]at h;simp at h
   | some q=>
     rw[e1,e2]at h;simp only[jJ]at h;subst h;simp only[]at f g;intro l;obtain⟨j,p⟩:=kq l;obtain⟨t,v⟩:=f7.1 e1;obtain⟨d,w⟩:=f7.1 p;have c:=lW.1 r;have y:b<j:=by
      apply kV;intro A;by_cases e:j=b
      . subst e;omega
      have:=c j b d t oM;omega
     (have k:L[b+1]?=K q:=by rw[<-e2,kL oT];cases L<;>simp);obtain⟨s,u⟩:=f7.1 k;by_cases e:j=b+1
     . subst e;omega
     have:=c (b+1) j s d oM;omega
theorem OC{xs:List MI}{b:Nat}{m:MB}(h:(AQ xs)[b]?=K m):∃a,(build (lds xs xs) xs)[b]?=K a/\m.cz=a.cz/\m.last=a.last:=by unfold AQ at h;rw[jY]at h;obtain⟨a,c,rfl⟩:=lE.1 h;rw[Cl]at c;exact⟨a,c,rfl,rfl⟩
theorem NZ{xs:List MI}{b t:Nat}{m j:MB}(h:(AQ xs)[b]?=K m)(v:(AQ xs)[t]?=K j)(y:b≠t):¬(m.cz<=j.cz/\j.cz<=m.last):=by
 obtain⟨N,l,D,F⟩:=OC h;obtain⟨O,f,E,G⟩:=OC v;rintro⟨H,I⟩;have p:∀{c:Nat} {k:MB},(build (lds xs xs) xs)[c]?=K k->∃a,(lds xs xs)[c]?=K a/\k.cz=(a:Int):=by
  intro c k d;unfold build at d;rw[mA]at d;cases f:(lds xs xs)[c]? with
  |none=>rw[f]at d;simp at d
  | some a=>
    cases e2:((lds xs xs).tail++[xs.length])[c]? with
    |none=>rw[f,e2]at d;simp at d
    | some q=>rw[f,e2]at d;simp only[jJ]at d;subst d;exact⟨a,rfl,rfl⟩
 obtain⟨a,w,A⟩:=p l;obtain⟨a',n,B⟩:=p f;have r:=lW.1 (DG xs xs);obtain⟨s,C⟩:=f7.1 w;obtain⟨u,et⟩:=f7.1 n;have L:a≠a':=by
  intro e;rcases Nat.lt_or_gt_of_ne y with g|g
  . have:=r b t s u g;omega
  have:=r t b u s g;omega
 exact Us (DG _ _) (λx z=>((Dk _ _ _).1 z).1) l (i:=a') oM oM (hC n)
structure Ir(w u:Y)(v:VP)(M:Nat)(t:Int)(d:Bool)(c n:Int)(X:VS)(hv:J):Prop where
 pb:Ay u w #[v.r,v.k,v.f,v.t] 40
 mb:∃cur,Ay u M cur 87/\Wm cur t d c n X hv
 cq:Ah w w u
 hM: ↑w+1<M
theorem Ir.av{f:Y}{b:Nat}{t:Int}{d:Bool}{c n:Int}{e:J}(h:Ir w u v b t d c n X e)(a:Ah u u f):Ir w f v b t d c n X e:=by obtain⟨g,i,j⟩:=h.mb;exact⟨h.pb.av a,⟨g,i.av a,j⟩,Ar h.cq lR a,h.hM⟩
theorem Ir.c7{t:Int}{d:Bool}{c n:Int}{e:J}(h:Ir w u v a t d c n X e):u ⟨a,7,M⟩=K e/\u.frozen? ⟨a,7,M⟩=false:=by obtain⟨g,b,f⟩:=h.mb;exact⟨(b.cell 7).trans f.c7,b.frozen 7⟩
theorem Ir.iN{t:Int}{d:Bool}{c n:Int}{f:J}(h:Ir w u v a t d c n X f)(z:J):Ir w (Aa u ⟨a,7,M⟩ z) v a t d c n X z:=by obtain⟨g,b,e⟩:=h.mb;have i:=h.hM;exact⟨h.pb.other oS _,⟨_,b.set 7 z,e.iN z⟩,h.cq.setCell oS _,h.hM⟩
theorem qt:(Tryz.prog.info? 138).map (λi=>(i.zero,i.size,i.bytes))=K (K (An #[Z M 0 0,Z M 0 0,Z M 0 0,Z M 0 0,Z M 0 0,Ag Af 0,Z M 0 0,Z M 0 0,Z M 0 0]),9,200):=kR
theorem oP{b:Nat}{d f:Array J}{e c:Aj}(h:Ay u b d e)(a:Ay u b f c):e=c:=by
 unfold Ay at h a;rw[h]at a;injection a with a
 injection a with _ a _
theorem Ms(v:VP)(p:MP)(B:Nat)(t:Int)(d:Bool)(c n:Int)(X:VS)(w:Y)(hB:B<= ↑w)(aY:p.small)(hP:ET w v p)(ys:List (MF×VF))(aZ:ys.map Prod.fst=p.aB)(bf:∀u,Ah B w u->Rd u 4 v.f p.aB (Ad DF ys))(bg:∀x∈ys,(∀u,Ah B w u->FH u x.2 x.1)/\BP x.2.p/\BP x.2.l):
 Ai Aq 18 #[An #[v.r,v.k,v.f,v.t],An #[t,d,c,n,X.c,X.k,X.f]] w λe w'=>∃(I:Nat) (hv:J) (ai:Array J) (H:List (MF×(VF×J))),e=Am (.pointer I)/\ ↑w<=I/\Ay w' I ai 87/\Wm ai t d c n X hv/\(∀k,k<30->ai[128+k]?=(B9 I)[k]?)/\BO w' B B v p.aB hv H/\Ah w w w':=by
 obtain⟨q,s,er⟩:=(show∃a c,v.r=Z a p.az c from by obtain⟨_,_,h2,_⟩:=hP.az;exact h2.aP);obtain⟨b,m,ek⟩:=hP.b8.aP;obtain⟨z,A,et⟩:=hP.bO.aP;obtain⟨f1,f3,ef⟩:=(show∃a c,v.f=Z a p.aB c from by obtain⟨_,_,h2,_⟩:=hP.aB;exact h2.aP);obtain⟨vr,vk,vf,vt⟩:=v;obtain⟨O,P,x3⟩:=X;simp only[]at er ek et ef;subst er ek et ef;have HY:Ae (ys.map Prod.fst=p.aB/\(∀u,Ah B w u->Rd u 4 (Z f1 p.aB f3) p.aB (Ad DF ys))/\∀x∈ys,(∀u,Ah B w u->FH u x.2 x.1)/\BP x.2.p/\BP x.2.l):=⟨aZ,bf,bg⟩
 have HS:Ae (p.small):=aY;obtain⟨i0,hi,bG,bH,bI⟩:=km qt;clear aZ bf bg hP aY;have E0:Ae (Ay (Ac (Ac w (Ak #[Z q p.az s,Z b p.b8 m,Z f1 p.aB f3,Z z p.bO A] 40)) (Ak #[t,d,c,n,O,P,x3] 48)) w #[Z q p.az s,Z b p.b8 m,Z f1 p.aB f3,Z z p.bO A] 40/\Ay (Ac (Ac w (Ak #[Z q p.az s,Z b p.b8 m,Z f1 p.aB f3,Z z p.bO A] 40)) (Ak #[t,d,c,n,O,P,x3] 48)) ((w:Nat)+1) #[t,d,c,n,O,P,x3] 48/\Ah w w (Ac (Ac w (Ak #[Z q p.az s,Z b p.b8 m,Z f1 p.aB f3,Z z p.bO A] 40)) (Ak #[t,d,c,n,O,P,x3] 48))):=by
  have b1:=Al w (Ak #[Z q p.az s,Z b p.b8 m,Z f1 p.aB f3,Z z p.bO A] 40);have bi:=Ay.new w #[Z q p.az s,Z b p.b8 m,Z f1 p.aB f3,Z z p.bO A] 40;generalize bq:Ac w (Ak #[Z q p.az s,Z b p.b8 m,Z f1 p.aB f3,Z z p.bO A] 40)=U1 at b1 bi⊢;have z1:(U1:Nat)= ↑w+1:=by rw[<-bq];simp
  have b2:=Al U1 (Ak #[t,d,c,n,O,P,x3] 48);have k2:=Ay.new U1 #[t,d,c,n,O,P,x3] 48;rw[z1]at k2;exact⟨bi.av b2,k2,Ar b1 lR b2⟩
 go_enter func18,ntmps18;go_upto_region 1 with fail
 refine Av (λu=>Ae (Ay u w #[Z q p.az s,Z b p.b8 m,Z f1 p.aB f3,Z z p.bO A] 40/\Ay u ((w:Nat)+1) #[t,d,c,n,O,P,x3] 48/\Ah w w u)) E0 ?_
 rintro U0 E1;clear E0;have m0:=E1.2.1.cell 0;have m1:=E1.2.1.cell 1;have m2:=E1.2.1.cell 2;have m3:=E1.2.1.cell 3;have m4:=E1.2.1.cell 4;have m5:=E1.2.1.cell 5;have m6:=E1.2.1.cell 6;simp only[i5,f8,i6]at m0 m1 m2 m3 m4 m5 m6;have bD:=At U0;have d0:=Au bD m0;have d1:=Au bD m1;have d2:=Au bD m2;have d3:=Au bD m3;have d4:=Au bD m4;have d5:=Au bD m5;have d6:=Au bD m6;clear m0 m1 m2 m3 m4 m5 m6;go_upto_region 1 with fail
 have KD:U0.drew ⟨(w:Nat)+1,0,M⟩=K ↑t/\U0.drew ⟨(w:Nat)+1,1,M⟩=K ↑d/\U0.drew ⟨(w:Nat)+1,2,M⟩=K ↑c/\U0.drew ⟨(w:Nat)+1,3,M⟩=K ↑n/\U0.drew ⟨(w:Nat)+1,4,M⟩=K O/\U0.drew ⟨(w:Nat)+1,5,M⟩=K P/\U0.drew ⟨(w:Nat)+1,6,M⟩=K x3:=⟨d0,d1,d2,d3,d4,d5,d6⟩
 refine wp_region_held_drew (S:= λw'=>w'.cell? ⟨(w:Nat)+1,0,M⟩=K ↑t/\w'.cell? ⟨(w:Nat)+1,1,M⟩=K ↑d/\w'.cell? ⟨(w:Nat)+1,2,M⟩=K ↑c/\w'.cell? ⟨(w:Nat)+1,3,M⟩=K ↑n/\w'.cell? ⟨(w:Nat)+1,4,M⟩=K O/\w'.cell? ⟨(w:Nat)+1,5,M⟩=K P/\w'.cell? ⟨(w:Nat)+1,6,M⟩=K x3) kR KD (λaa=> ?_)
 refine wpAnyH_take (i:=0) (v:= ?_) rfl kR kR kR (λ_ _ _ h=>h) (Or.inl ⟨by rfl,?_⟩) (by assumption) ?_;rotate_left
 . (intro w Q;(try dsimp only at Q);go_simp;(try with_reducible rfl))
 refine wpAnyH_ready (rs:=[1]) kR sP ?_;refine AllReadyH.cons rfl (λR C=> ?_) AllReadyH.nil;go_simp;go_wp2_with (go_at_call 45;refine(Mz _).mono ?_;rintro e u1 ⟨rfl,b1⟩);have KE:u1 ⟨(w:Nat)+1,0,M⟩=K ↑t/\u1 ⟨(w:Nat)+1,1,M⟩=K ↑d/\u1 ⟨(w:Nat)+1,2,M⟩=K ↑c/\u1 ⟨(w:Nat)+1,3,M⟩=K ↑n/\u1 ⟨(w:Nat)+1,4,M⟩=K O/\u1 ⟨(w:Nat)+1,5,M⟩=K P/\u1 ⟨(w:Nat)+1,6,M⟩=K x3:=⟨Au b1 d0,Au b1 d1,Au b1 d2,Au b1 d3,Au b1 d4,Au b1 d5,Au b1 d6⟩
 have B1:Ae (Ah U0 U0 u1):=Bs b1 lR;clear b1;refine C.out _ _ KE (λaa=> ?_);clear C R;refine wpAnyH_take (i:=2) (v:=An (BH t d c n ⟨O,P,x3⟩)) rfl kR kR kR (λ_ _ _ h=>h) (Or.inl ⟨by rfl,?_⟩) (by assumption) ?_
 . intro w Q;kernel_rfl
 have KF:(Ac u1 (Ak (BH t d c n ⟨O,P,x3⟩) 87)) ⟨(w:Nat)+1,0,M⟩=K ↑t/\(Ac u1 (Ak (BH t d c n ⟨O,P,x3⟩) 87)) ⟨(w:Nat)+1,1,M⟩=K ↑d/\(Ac u1 (Ak (BH t d c n ⟨O,P,x3⟩) 87)) ⟨(w:Nat)+1,2,M⟩=K ↑c/\(Ac u1 (Ak (BH t d c n ⟨O,P,x3⟩) 87)) ⟨(w:Nat)+1,3,M⟩=K ↑n/\(Ac u1 (Ak (BH t d c n ⟨O,P,x3⟩) 87)) ⟨(w:Nat)+1,4,M⟩=K O/\(Ac u1 (Ak (BH t d c n ⟨O,P,x3⟩) 87)) ⟨(w:Nat)+1,5,M⟩=K P/\(Ac u1 (Ak (BH t d c n ⟨O,P,x3⟩) 87)) ⟨(w:Nat)+1,6,M⟩=K x3:=by obtain⟨e0,e1,e2,e3,e4,e5,e6⟩:=KE;have b2:=Al u1 (Ak (BH t d c n ⟨O,P,x3⟩) 87);exact⟨Au b2 e0,Au b2 e1,Au b2 e2,Au b2 e3,Au b2 e4,Au b2 e5,Au b2 e6⟩
 refine wpAnyH_ready (rs:=[3]) kR sP ?_;refine AllReadyH.cons rfl (λR C=> ?_) AllReadyH.nil;go_simp;refine C.out _ _ KF (λaa=> ?_);clear C R;refine wpAnyH_take (i:=4) (v:= ?_) rfl kR kR kR (λ_ _ _ h=>h) (Or.inl ⟨by rfl,?_⟩) (by assumption) ?_;rotate_left
 . (intro w Q;(try dsimp only at Q);go_simp;(try with_reducible rfl))
 refine wpAnyH_done kR ?_ _;have aS:(w:Nat)+1<u1.heap.size:=lA E1.2.1.lt B1.size;have E2:Ae (Ir w (Ac u1 (Ak (BH t d c n ⟨O,P,x3⟩) 87)) ⟨Z q p.az s,Z b p.b8 m,Z f1 p.aB f3,Z z p.bO A⟩ u1 t d c n ⟨O,P,x3⟩ (Z M 0 0)/\BO (Ac u1 (Ak (BH t d c n ⟨O,P,x3⟩) 87)) w B ⟨Z q p.az s,Z b p.b8 m,Z f1 p.aB f3,Z z p.bO A⟩ [] (Z M 0 0) []):=⟨⟨(E1.1.av B1).av (Al _ _),⟨_,Ay.new _ _ _,Wm.start _ _ _ _ _⟩,Ar (Ar E1.2.2 lR B1) lR (Al _ _),aS⟩,rfl,kH _ _ _ _, λr hr=>by simp at hr⟩
 clear KD KE KF d0 d1 d2 d3 d4 d5 d6 bD E1 B1 aS;go_upto_region 2 with fail
 generalize u1.heap.size=I at E2⊢;refine Av (λu=>Ae (Ir w u ⟨Z q p.az s,Z b p.b8 m,Z f1 p.aB f3,Z z p.bO A⟩ I t d c n ⟨O,P,x3⟩ (Z M 0 0)/\BO u w B ⟨Z q p.az s,Z b p.b8 m,Z f1 p.aB f3,Z z p.bO A⟩ [] (Z M 0 0) [])) E2 ?_
 rintro U1 E3;clear E2;have p2:=E3.1.pb.cell 2;simp only[i5,f8,i6]at p2;go_wp2_with fail;go_loopw [15] (λi wr=>∃(k:Nat) (hv:J) (H:List (MF×(VF×J))),k<= ↑p.aB/\i=Ag Af k/\Ae (Ir w wr ⟨Z q p.az s,Z b p.b8 m,Z f1 p.aB f3,Z z p.bO A⟩ I t d c n ⟨O,P,x3⟩ hv/\BO wr w B ⟨Z q p.az s,Z b p.b8 m,Z f1 p.aB f3,Z z p.bO A⟩ (p.aB.take k) hv H)) (λi _=> ↑p.aB-(intOf i).toNat)
 case atStart=>exact⟨0,_,[],oM,rfl,E3.1,by simpa using E3.2⟩
 clear E3 p2;obtain⟨k,hv,H,hk,rfl,HI⟩:=hrel;have bS:=HS.aB;by_cases bx:k< ↑p.aB
 . obtain⟨⟨f,g⟩,hx⟩:∃x,ys[k]?=K x:=⟨_,an (by rw[<-kC (f:=Prod.fst),HY.1];exact bx)⟩;have aI:=Ga HY.1 hx;have aj:=HY.2.2 _ (hC hx);simp only[]at aj aI;have bw:Ah B w wr:=HI.1.cq.mono hB;obtain⟨D,E,aM⟩:=(aj.1 w (jZ B w)).1.aP;obtain⟨F,G,aO⟩:=(aj.1 w (jZ B w)).2.1.aP;obtain⟨L,N,aQ⟩:=(aj.1 w (jZ B w)).2.2.aP;obtain⟨gp,gl,gc⟩:=g;simp only[]at aM aO aQ;subst aM aO aQ;have aW:f.small:=HS.func f (hC aI);rcases(HY.2.1 wr bw).2 with⟨e0,_⟩|⟨gk,ok,ck,e1,aE⟩
   . omega
   simp only[i8,kW]at e1;obtain⟨rfl,rfl⟩:=e1;have j0:=Rd.elem AK aE k _ hx 0 _ rfl;have j1:=Rd.elem AK aE k _ hx 1 _ rfl;have j2:=Rd.elem AK aE k _ hx 2 _ rfl;have j3:=Rd.elem AK aE k _ hx 3 _ rfl;simp only[jV]at j0 j1 j2 j3;obtain⟨ah,ch,rfl⟩:=AF HI.2.2.1;have aR: ↑H=k:=by have:=congrArg List.length HI.2.1;simp at this;omega
   have HD:Ae (p.aB[k]?=K f/\(∀u,Ah B w u->FH u ⟨Z D f.aD E,Z F f.a7 G,Z L f.aU N⟩ f)/\BP (Z D f.aD E)/\BP (Z F f.a7 G)/\f.small/\ ↑H=k):=⟨aI,aj.1,aj.2.1,aj.2.2,aW,aR⟩
   have EN:Ae (Ir w (Ac wr (Ak #[Z D f.aD E,f.cu,Z F f.a7 G,Z L f.aU N] 34)) ⟨Z q p.az s,Z b p.b8 m,Z (K ⟨gk,ok,M⟩) p.aB f3,Z z p.bO A⟩ I t d c n ⟨O,P,x3⟩ (Z ah H ch)/\BO (Ac wr (Ak #[Z D f.aD E,f.cu,Z F f.a7 G,Z L f.aU N] 34)) w B ⟨Z q p.az s,Z b p.b8 m,Z (K ⟨gk,ok,M⟩) p.aB f3,Z z p.bO A⟩ (p.aB.take k) (Z ah H ch) H/\Ay (Ac wr (Ak #[Z D f.aD E,f.cu,Z F f.a7 G,Z L f.aU N] 34)) wr #[Z D f.aD E,f.cu,Z F f.a7 G,Z L f.aU N] 34):=⟨HI.1.av (Al _ _),HI.2.av (jN hB HI.1.cq.size) (Al _ _),Ay.new _ _ _⟩
   clear aE hx aj aI aW aR HI bw;have bQ:(k:Int)<(p.aB:Int):=oM;(go_upto_region 5 with fail);generalize wr.heap.size=V at EN⊢;refine Av (λu=>Ae (Ir w u ⟨Z q p.az s,Z b p.b8 m,Z (K ⟨gk,ok,M⟩) p.aB f3,Z z p.bO A⟩ I t d c n ⟨O,P,x3⟩ (Z ah H ch)/\BO u w B ⟨Z q p.az s,Z b p.b8 m,Z (K ⟨gk,ok,M⟩) p.aB f3,Z z p.bO A⟩ (p.aB.take k) (Z ah H ch) H/\Ay u V #[Z D f.aD E,f.cu,Z F f.a7 G,Z L f.aU N] 34)) EN ?_
   rintro U E4;clear EN j0 j1 j2 j3;have q0:=E4.1.pb.cell 0;have q1:=E4.1.pb.cell 1;have q2:=E4.1.pb.cell 2;have q3:=E4.1.pb.cell 3;have y0:=E4.2.2.cell 0;have y1:=E4.2.2.cell 1;have y2:=E4.2.2.cell 2;have y3:=E4.2.2.cell 3;obtain⟨m7,_⟩:=E4.1.c7;simp only[i5,f8,i6]at q0 q1 q2 q3 y0 y1 y2 y3;have bD:=At U;have bT:=Au bD m7;have KD:U.drew w=K (Z q p.az s)/\U.drew ⟨w,1,M⟩=K (Z b p.b8 m)/\U.drew ⟨w,2,M⟩=K (Z (K ⟨gk,ok,M⟩) p.aB f3)/\U.drew ⟨w,3,M⟩=K (Z z p.bO A)/\U.drew V=K (Z D f.aD E)/\U.drew ⟨V,1,M⟩=K ↑f.cu/\U.drew ⟨V,2,M⟩=K (Z F f.a7 G)/\U.drew ⟨V,3,M⟩=K (Z L f.aU N):=⟨Au bD q0,Au bD q1,Au bD q2,Au bD q3,Au bD y0,Au bD y1,Au bD y2,Au bD y3⟩
   have HC:Ae (∀u,Ah U U u->u.cell? w=K (Z q p.az s)/\u.cell? ⟨w,1,M⟩=K (Z b p.b8 m)/\u.cell? ⟨w,2,M⟩=K (Z (K ⟨gk,ok,M⟩) p.aB f3)/\u.cell? ⟨w,3,M⟩=K (Z z p.bO A)/\u.cell? V=K (Z D f.aD E)/\u.cell? ⟨V,1,M⟩=K ↑f.cu/\u.cell? ⟨V,2,M⟩=K (Z F f.a7 G)/\u.cell? ⟨V,3,M⟩=K (Z L f.aU N)):= λu hb=>⟨Au hb q0,Au hb q1,Au hb q2,Au hb q3,Au hb y0,Au hb y1,Au hb y2,Au hb y3⟩
   (have aG:Ae (∀u,Ah U U u->u.cell? ⟨I,7,M⟩=K (Z ah H ch)):= λu hb=>Au hb m7);clear q0 q1 q2 q3 y0 y1 y2 y3 m7;refine wp_region_held_drew (S:= λw'=>w'.cell? w=K (Z q p.az s)/\w'.cell? ⟨w,1,M⟩=K (Z b p.b8 m)/\w'.cell? ⟨w,2,M⟩=K (Z (K ⟨gk,ok,M⟩) p.aB f3)/\w'.cell? ⟨w,3,M⟩=K (Z z p.bO A)/\w'.cell? V=K (Z D f.aD E)/\w'.cell? ⟨V,1,M⟩=K ↑f.cu/\w'.cell? ⟨V,2,M⟩=K (Z F f.a7 G)/\w'.cell? ⟨V,3,M⟩=K (Z L f.aU N)) kR KD (λaa=> ?_)
   refine wpAnyH_take (i:=0) (v:= ?_) rfl kR kR kR (λ_ _ _ h=>h) (Or.inl ⟨by rfl,?_⟩) (by assumption) ?_;rotate_left
   . (intro w Q;(try dsimp only at Q);go_simp;(try with_reducible rfl))
   refine wpAnyH_take (i:=1) (v:= ?_) rfl kR kR kR (λ_ _ _ h=>h) (Or.inl ⟨by rfl,?_⟩) (by assumption) ?_;rotate_left
   . (intro w Q;(try dsimp only at Q);go_simp;(try with_reducible rfl))
   refine wpAnyH_take (i:=2) (v:= ?_) rfl kR kR kR (λ_ _ _ h=>h) (Or.inl ⟨by rfl,?_⟩) (by assumption) ?_;rotate_left
   . (intro w Q;(try dsimp only at Q);go_simp;(try with_reducible rfl))
   refine wpAnyH_take (i:=3) (v:= ?_) rfl kR kR kR (λ_ _ _ h=>h) (Or.inl ⟨by rfl,?_⟩) (by assumption) ?_;rotate_left
   . (intro w Q;(try dsimp only at Q);go_simp;(try with_reducible rfl))
   refine wpAnyH_take (i:=5) (v:= ?_) rfl kR kR kR (λ_ _ _ h=>h) (Or.inl ⟨by rfl,?_⟩) (by assumption) ?_;rotate_left
   . (intro w Q;(try dsimp only at Q);go_simp;(try with_reducible rfl))
   refine wpAnyH_take (i:=6) (v:= ?_) rfl kR kR kR (λ_ _ _ h=>h) (Or.inl ⟨by rfl,?_⟩) (by assumption) ?_;rotate_left
   . (intro w Q;(try dsimp only at Q);go_simp;(try with_reducible rfl))
   refine wpAnyH_take (i:=7) (v:= ?_) rfl kR kR kR (λ_ _ _ h=>h) (Or.inl ⟨by rfl,?_⟩) (by assumption) ?_;rotate_left
   . (intro w Q;(try dsimp only at Q);go_simp;(try with_reducible rfl))
   refine wpAnyH_take (i:=8) (v:= ?_) rfl kR kR kR (λ_ _ _ h=>h) (Or.inl ⟨by rfl,?_⟩) (by assumption) ?_;rotate_left
   . (intro w Q;(try dsimp only at Q);go_simp;(try with_reducible rfl))
   refine wpAnyH_ready (rs:=[4,9]) kR sP ?_;refine AllReadyH.cons rfl (λR C=> ?_) (AllReadyH.cons rfl (λR C=> ?_) AllReadyH.nil);focus
    go_simp;refine C.out _ _ KD (λaa=> ?_);clear C R;refine wpAnyH_ready (rs:=[9]) kR sP ?_;refine AllReadyH.cons rfl (λR C=> ?_) AllReadyH.nil;go_simp;go_wp2_with (go_at_call 42;refine(GU ⟨Z D f.aD E,Z F f.a7 G,Z L f.aU N⟩ f _ HD.2.2.2.2.1 (HD.2.1 _ ((E4.1.cq.trans (At U|>.mono E4.1.cq.size)).mono hB)) HD.2.2.1 HD.2.2.2.1).mono ?_;rintro e T ⟨lv,rfl,aq,b6⟩;obtain⟨W,l2,rfl⟩:=AF aq);have B6:Ae (Ah U U T/\Ab T w 2 1 (Z W (f.aD.length+ ↑f.a7) l2) (f.aD.length+ ↑f.a7) (Ad As (f.aD++f.a7))):=⟨Bs b6 lR,Bt aq E4.1.cq.size⟩
    have B7:Ae (Ah U U (Ac T (Ak #[Z q p.az s,Z b p.b8 m,Z (K ⟨gk,ok,M⟩) p.aB f3,Z z p.bO A,Z D f.aD E,f.cu,Z F f.a7 G,Z L f.aU N,Z W (f.aD.length+ ↑f.a7) l2] 138))/\Ab (Ac T (Ak #[Z q p.az s,Z b p.b8 m,Z (K ⟨gk,ok,M⟩) p.aB f3,Z z p.bO A,Z D f.aD E,f.cu,Z F f.a7 G,Z L f.aU N,Z W (f.aD.length+ ↑f.a7) l2] 138)) w 138 9 (Z ah H ch) H (H.flatMap (Co ⟨Z q p.az s,Z b p.b8 m,Z (K ⟨gk,ok,M⟩) p.aB f3,Z z p.bO A⟩))/\(∀j y,(Co ⟨Z q p.az s,Z b p.b8 m,Z (K ⟨gk,ok,M⟩) p.aB f3,Z z p.bO A⟩ (f,((⟨Z D f.aD E,Z F f.a7 G,Z L f.aU N⟩:VF),Z W (f.aD.length+ ↑f.a7) l2)))[j]?=K y->(Ac T (Ak #[Z q p.az s,Z b p.b8 m,Z (K ⟨gk,ok,M⟩) p.aB f3,Z z p.bO A,Z D f.aD E,f.cu,Z F f.a7 G,Z L f.aU N,Z W (f.aD.length+ ↑f.a7) l2] 138)) ((⟨T,0,M⟩:Addr).add j)=K y)/\ ↑w<=(Ac T (Ak #[Z q p.az s,Z b p.b8 m,Z (K ⟨gk,ok,M⟩) p.aB f3,Z z p.bO A,Z D f.aD E,f.cu,Z F f.a7 G,Z L f.aU N,Z W (f.aD.length+ ↑f.a7) l2] 138)).heap.size):=by
     have b7:=Ar B6.1 lR (Al T (Ak #[Z q p.az s,Z b p.b8 m,Z (K ⟨gk,ok,M⟩) p.aB f3,Z z p.bO A,Z D f.aD E,f.cu,Z F f.a7 G,Z L f.aU N,Z W (f.aD.length+ ↑f.a7) l2] 138))
     refine⟨b7,AC E4.2.1.2.1 b7 lR, λj y hj=> ?_,jN E4.1.cq.size b7.size⟩;rw[Cx,kT,mU _ _ _ _ _ _ (Fu T #[Z q p.az s,Z b p.b8 m,Z (K ⟨gk,ok,M⟩) p.aB f3,Z z p.bO A,Z D f.aD E,f.cu,Z F f.a7 G,Z L f.aU N,Z W (f.aD.length+ ↑f.a7) l2] 138)]
     simpa[Co]using hj
    have KE:=HC.o T B6.1;have ax:=HC.o _ B7.1;have bJ:=aG.o T B6.1;have bP:=aG.o _ B7.1;clear aq b6;refine C.out _ _ KE (λaa=> ?_);clear C R;refine wpAnyH_take (i:=10) (v:= ?_) rfl kR kR kR (λ_ _ _ h=>h) (Or.inl ⟨by rfl,?_⟩) (by assumption) ?_;rotate_left
    . (intro w Q;(try dsimp only at Q);go_simp;(try with_reducible rfl))
    refine wpAnyH_ready (rs:=[11]) kR sP ?_;refine AllReadyH.cons rfl (λR C=> ?_) AllReadyH.nil;go_simp;refine C.out _ _ ax (λaa=> ?_);clear C R;refine wpAnyH_ready (rs:=[12]) kR sP ?_;refine AllReadyH.cons rfl (λR C=> ?_) AllReadyH.nil
   rotate_left;focus
    go_simp;go_wp2_with (go_at_call 42;refine(GU ⟨Z D f.aD E,Z F f.a7 G,Z L f.aU N⟩ f _ HD.2.2.2.2.1 (HD.2.1 _ ((E4.1.cq.trans (At U|>.mono E4.1.cq.size)).mono hB)) HD.2.2.1 HD.2.2.2.1).mono ?_;rintro e T ⟨lv,rfl,aq,b6⟩;obtain⟨W,l2,rfl⟩:=AF aq);have B6:Ae (Ah U U T/\Ab T w 2 1 (Z W (f.aD.length+ ↑f.a7) l2) (f.aD.length+ ↑f.a7) (Ad As (f.aD++f.a7))):=⟨Bs b6 lR,Bt aq E4.1.cq.size⟩
    have B7:Ae (Ah U U (Ac T (Ak #[Z q p.az s,Z b p.b8 m,Z (K ⟨gk,ok,M⟩) p.aB f3,Z z p.bO A,Z D f.aD E,f.cu,Z F f.a7 G,Z L f.aU N,Z W (f.aD.length+ ↑f.a7) l2] 138))/\Ab (Ac T (Ak #[Z q p.az s,Z b p.b8 m,Z (K ⟨gk,ok,M⟩) p.aB f3,Z z p.bO A,Z D f.aD E,f.cu,Z F f.a7 G,Z L f.aU N,Z W (f.aD.length+ ↑f.a7) l2] 138)) w 138 9 (Z ah H ch) H (H.flatMap (Co ⟨Z q p.az s,Z b p.b8 m,Z (K ⟨gk,ok,M⟩) p.aB f3,Z z p.bO A⟩))/\(∀j y,(Co ⟨Z q p.az s,Z b p.b8 m,Z (K ⟨gk,ok,M⟩) p.aB f3,Z z p.bO A⟩ (f,((⟨Z D f.aD E,Z F f.a7 G,Z L f.aU N⟩:VF),Z W (f.aD.length+ ↑f.a7) l2)))[j]?=K y->(Ac T (Ak #[Z q p.az s,Z b p.b8 m,Z (K ⟨gk,ok,M⟩) p.aB f3,Z z p.bO A,Z D f.aD E,f.cu,Z F f.a7 G,Z L f.aU N,Z W (f.aD.length+ ↑f.a7) l2] 138)) ((⟨T,0,M⟩:Addr).add j)=K y)/\ ↑w<=(Ac T (Ak #[Z q p.az s,Z b p.b8 m,Z (K ⟨gk,ok,M⟩) p.aB f3,Z z p.bO A,Z D f.aD E,f.cu,Z F f.a7 G,Z L f.aU N,Z W (f.aD.length+ ↑f.a7) l2] 138)).heap.size):=by
     have b7:=Ar B6.1 lR (Al T (Ak #[Z q p.az s,Z b p.b8 m,Z (K ⟨gk,ok,M⟩) p.aB f3,Z z p.bO A,Z D f.aD E,f.cu,Z F f.a7 G,Z L f.aU N,Z W (f.aD.length+ ↑f.a7) l2] 138))
     refine⟨b7,AC E4.2.1.2.1 b7 lR, λj y hj=> ?_,jN E4.1.cq.size b7.size⟩;rw[Cx,kT,mU _ _ _ _ _ _ (Fu T #[Z q p.az s,Z b p.b8 m,Z (K ⟨gk,ok,M⟩) p.aB f3,Z z p.bO A,Z D f.aD E,f.cu,Z F f.a7 G,Z L f.aU N,Z W (f.aD.length+ ↑f.a7) l2] 138)]
     simpa[Co]using hj
    have KE:=HC.o T B6.1;have ax:=HC.o _ B7.1;have bJ:=aG.o T B6.1;have bP:=aG.o _ B7.1;clear aq b6;refine C.out _ _ KE (λaa=> ?_);clear C R;refine wpAnyH_take (i:=10) (v:= ?_) rfl kR kR kR (λ_ _ _ h=>h) (Or.inl ⟨by rfl,?_⟩) (by assumption) ?_;rotate_left
    . (intro w Q;(try dsimp only at Q);go_simp;(try with_reducible rfl))
    refine wpAnyH_ready (rs:=[4,11]) kR sP ?_;refine AllReadyH.cons rfl (λR C=> ?_) (AllReadyH.cons rfl (λR C=> ?_) AllReadyH.nil);focus
     go_simp;refine C.out _ _ KE (λaa=> ?_);clear C R;refine wpAnyH_ready (rs:=[11]) kR sP ?_;refine AllReadyH.cons rfl (λR C=> ?_) AllReadyH.nil;go_simp;refine C.out _ _ ax (λaa=> ?_);clear C R;refine wpAnyH_ready (rs:=[12]) kR sP ?_;refine AllReadyH.cons rfl (λR C=> ?_) AllReadyH.nil
    rotate_left;focus
     go_simp;refine C.out _ _ ax (λaa=> ?_);clear C R;refine wpAnyH_ready (rs:=[4]) kR sP ?_;refine AllReadyH.cons rfl (λR C=> ?_) AllReadyH.nil;go_simp;refine C.out _ _ ax (λaa=> ?_);clear C R;refine wpAnyH_ready (rs:=[12]) kR sP ?_;refine AllReadyH.cons rfl (λR C=> ?_) AllReadyH.nil
   all_goals
    refine step_append_lies _ rfl (.tmp 23) (.tmp 30) 76 rfl w 138 i0 (An #[Z M 0 0,Z M 0 0,Z M 0 0,Z M 0 0,Z M 0 0,Ag Af 0,Z M 0 0,Z M 0 0,Z M 0 0]) 9 200 underlying76 hi bG bH bI rfl dC (Z ah H ch) H (H.flatMap (Co ⟨Z q p.az s,Z b p.b8 m,Z (K ⟨gk,ok,M⟩) p.aB f3,Z z p.bO A⟩)) oE B7.2.1 T 1 1 (Co ⟨Z q p.az s,Z b p.b8 m,Z (K ⟨gk,ok,M⟩) p.aB f3,Z z p.bO A⟩ (f,((⟨Z D f.aD E,Z F f.a7 G,Z L f.aU N⟩:VF),Z W (f.aD.length+ ↑f.a7) l2))) oE rfl B7.2.2.1 (λu hu=>by simp[Co]at hu;rcases hu with rfl|rfl|rfl|rfl|rfl|rfl|rfl|rfl|rfl<;>rfl) oM (by have:=HD.2.2.2.2.2;unfold maxLen;omega) (by have:=HD.2.2.2.2.2;omega) B7.2.2.2 _ rfl ?_
    intro gg cap u8 aX au br bB;have N8:Ae (Ir w u8 ⟨Z q p.az s,Z b p.b8 m,Z (K ⟨gk,ok,M⟩) p.aB f3,Z z p.bO A⟩ I t d c n ⟨O,P,x3⟩ (Z ah H ch)/\BO u8 w B ⟨Z q p.az s,Z b p.b8 m,Z (K ⟨gk,ok,M⟩) p.aB f3,Z z p.bO A⟩ (p.aB.take k++[f]) (Z gg (H.length+1) cap) (H++[(f,((⟨Z D f.aD E,Z F f.a7 G,Z L f.aU N⟩:VF),Z W (f.aD.length+ ↑f.a7) l2))])/\Ay u8 V #[Z D f.aD E,f.cu,Z F f.a7 G,Z L f.aU N] 34/\u8 w=K (Z q p.az s)/\u8 ⟨w,1,M⟩=K (Z b p.b8 m)/\u8 ⟨w,2,M⟩=K (Z (K ⟨gk,ok,M⟩) p.aB f3)/\u8 ⟨w,3,M⟩=K (Z z p.bO A)/\u8 V=K (Z D f.aD E)/\u8 ⟨V,1,M⟩=K ↑f.cu/\u8 ⟨V,2,M⟩=K (Z F f.a7 G)/\u8 ⟨V,3,M⟩=K (Z L f.aU N)):=by have n7:=E4.1.av B7.1;obtain⟨ai,ae,aT⟩:=n7.mb;have aF:=n7.pb.grown au B7.2.1 dC;have aA:=(E4.2.2.av B7.1).grown au B7.2.1 dC;refine⟨⟨aF,⟨ai,ae.grown au B7.2.1 dC,aT⟩,n7.cq.grown au n7.cq.size (λj hj=>(B7.2.1.lt j hj).1),n7.hM⟩,BO.push E4.2.1 hB (jN hB E4.1.cq.size) B7.1 (x:=(f,((⟨Z D f.aD E,Z F f.a7 G,Z L f.aU N⟩:VF),Z W (f.aD.length+ ↑f.a7) l2))) (λu' bC=>HD.2.1 u' ((E4.1.cq.mono hB).trans bC)) (AC B6.2 (Al _ _) lR) au aX,aA,aF.cell 0,aF.cell 1,aF.cell 2,aF.cell 3,aA.cell 0,aA.cell 1,aA.cell 2,aA.cell 3⟩
    have y7:=N8.1.c7.1;have y8:=N8.1.c7.2;have KU:=N8.2.2.2;clear aX au br bB;refine C.out _ _ KU (λaa=> ?_);clear C R;refine wpAnyH_take (i:=13) (v:= ?_) rfl kR kR kR (λ_ _ _ h=>h) (Or.inl ⟨by rfl,?_⟩) (by assumption) ?_;rotate_left
    . (intro w Q;(try dsimp only at Q);go_simp;(try with_reducible rfl))
    refine wpAnyH_take (i:=14) (v:= ?_) rfl kR kR kR (λ_ _ _ h=>h) (Or.inl ⟨by rfl,?_⟩) (by assumption) ?_;rotate_left
    . (intro w Q;(try dsimp only at Q);go_simp;(try with_reducible rfl))
    refine wpAnyH_ready (rs:=[15]) kR sP ?_;refine AllReadyH.cons rfl (λR C=> ?_) AllReadyH.nil;go_simp;have N9:Ae (Ir w (Aa u8 ⟨I,7,M⟩ (Z gg (H.length+1) cap)) ⟨Z q p.az s,Z b p.b8 m,Z (K ⟨gk,ok,M⟩) p.aB f3,Z z p.bO A⟩ I t d c n ⟨O,P,x3⟩ (Z gg (H.length+1) cap)/\BO (Aa u8 ⟨I,7,M⟩ (Z gg (H.length+1) cap)) w B ⟨Z q p.az s,Z b p.b8 m,Z (K ⟨gk,ok,M⟩) p.aB f3,Z z p.bO A⟩ (p.aB.take (k+1)) (Z gg (H.length+1) cap) (H++[(f,((⟨Z D f.aD E,Z F f.a7 G,Z L f.aU N⟩:VF),Z W (f.aD.length+ ↑f.a7) l2))])):=by obtain⟨ai,ae,aT⟩:=N8.1.mb;have hM:=N8.1.hM;refine⟨N8.1.iN _,?_⟩;rw[OE _ k _ HD.1];exact N8.2.1.fJ ae oM 7 _
    have KV:(Aa u8 ⟨I,7,M⟩ (Z gg (H.length+1) cap)) w=K (Z q p.az s)/\(Aa u8 ⟨I,7,M⟩ (Z gg (H.length+1) cap)) ⟨w,1,M⟩=K (Z b p.b8 m)/\(Aa u8 ⟨I,7,M⟩ (Z gg (H.length+1) cap)) ⟨w,2,M⟩=K (Z (K ⟨gk,ok,M⟩) p.aB f3)/\(Aa u8 ⟨I,7,M⟩ (Z gg (H.length+1) cap)) ⟨w,3,M⟩=K (Z z p.bO A)/\(Aa u8 ⟨I,7,M⟩ (Z gg (H.length+1) cap)) V=K (Z D f.aD E)/\(Aa u8 ⟨I,7,M⟩ (Z gg (H.length+1) cap)) ⟨V,1,M⟩=K ↑f.cu/\(Aa u8 ⟨I,7,M⟩ (Z gg (H.length+1) cap)) ⟨V,2,M⟩=K (Z F f.a7 G)/\(Aa u8 ⟨I,7,M⟩ (Z gg (H.length+1) cap)) ⟨V,3,M⟩=K (Z L f.aU N):=by have hM:=N8.1.hM;have aJ:=N9.1.pb;(have bj:V≠I:= λe=>by obtain⟨ai,ae,_⟩:=E4.1.mb;rw[<-e]at ae;exact absurd (oP ae E4.2.2) dC);have aH:=N8.2.2.1.other (a:=⟨I,7,M⟩) (by simpa using bj) (Z gg (H.length+1) cap);exact⟨aJ.cell 0,aJ.cell 1,aJ.cell 2,aJ.cell 3,aH.cell 0,aH.cell 1,aH.cell 2,aH.cell 3⟩
    refine C.out _ _ KV (λaa=> ?_);clear C R;refine wpAnyH_done kR ?_ _;go_wp2;go_roundw;(case rel=>exact⟨k+1,_,_,oM,by go_num,N9.1,N9.2⟩);exact oI
 have bu:k=p.aB.length:=oM;have E5:Ae (Ir w wr ⟨Z q p.az s,Z b p.b8 m,Z f1 p.aB f3,Z z p.bO A⟩ I t d c n ⟨O,P,x3⟩ hv/\BO wr w B ⟨Z q p.az s,Z b p.b8 m,Z f1 p.aB f3,Z z p.bO A⟩ p.aB hv H):=by have h2:=HI.o;rw[bu,List.take_length]at h2;exact h2
 clear HI;go_upto_region 7 with fail
 go_wp2_with (first
  |(go_at_call 46;refine(LE I _).mono ?_;rintro e u9 ⟨rfl,b9⟩;obtain⟨ai,ae,aK⟩:=(E5.1.av b9).mb)
  |(show wpList _ _ _ ({dst:=M,op:=Op.store 85 _ _,type:=_,pos:=_,after:=_,guard:=_}::_) _ _;refine JL rfl 85 (.tmp 39) (.tmp 37) rfl I 128 (B9 I) rfl rfl 87 ai ae kR (by rw[aK.size,Iv];omega) kR ?_))
 have hM:=E5.1.hM;have h8:=E5.2.av (jN hB E5.1.cq.size) b9;have bt:=Ar E5.1.cq lR b9;refine kA (v:=.pointer I) (by simp[results,results18,go_sem]) rfl ⟨I,hv,_,H,rfl,oM,setRow_heap _ _ _ _ _ _ ae,by have:=(aK.fN I).1;rw[kS]at this;exact this,by have:=(aK.fN I).2;rw[kS]at this;exact this,?_,below_setRow bt oM _⟩;exact(h8.row ae oM _).base hB
theorem V9{a:Option Addr}{n c:Nat}{p:List (List Int)}(h:EY u (Z a n c) p)(B:n= ↑p){b:List Int}(d:p[i]?=K b):∃j k l g,a=K ⟨j,k,M⟩/\u ⟨j,k+i,M⟩=K (Z l b g)/\Rd u 1 (Z l b g) b (Ad As b)/\ ↑b<=g:=by
 obtain⟨xs,s,t,v⟩:=h;have A:=(f7.1 d).1;obtain⟨x,f,z⟩:∃x,xs[i]?=K x/\x.1=b:=by
  rw[<-s,jY]at d;cases f:xs[i]? with
  |none=>rw[f]at d;cases d
  |some x=>rw[f]at d;exact⟨x,rfl,jM d⟩
 subst z;rcases t.2 with⟨e,_⟩|⟨j,k,cc,e,w⟩
 . omega
 simp only[i8]at e;have m:=Rd.elem DB w i _ f 0 _ rfl;rw[lJ,jV]at m;obtain⟨q,l,g,r,y⟩:=v x (hC f);rw[r]at m q;exact⟨j,k,l,g,e.1,m,q,y⟩
structure BL(w U:Y)(v:VP)(vm:VM)(x y:Nat)(V zl:J)(zs:List MC)(C:List (J×List MC)):Prop where
 args:JP w U v vm
 st:Ay U x #[Ag Af 0,false,Ag Af 0,Ag Af 0,V,Z M 0 0,Z y 1 1] 48
 fr:Ay U y #[Ag Af 0,Ag Af 0,Ag Af 0,zl] 132
 row:Ab U w 45 1 V C (Ad JE C)
 eT:Cv U w (C++[(zl,zs)])
 jt: ↑w+1+1<x
 yge: ↑w+1+1<y
theorem Cv.av{a:Y}{L:List (J×List MC)}(h:Cv u B L)(b:Ah u u a):Cv a B L:=⟨λr c=>AC (h.own r c) b lR,h.sep⟩
theorem BL.av{b:Y}{c:VM}{x y:Nat}{V d:J}{e:List MC}{C:List (J×List MC)}(h:BL w u v c x y V d e C)(a:Ah u u b):BL w b v c x y V d e C:=⟨h.args.av a,h.st.av a,h.fr.av a,AC h.row a lR,h.eT.av a,h.jt,h.yge⟩
theorem Cv.add{i:Y}{C:List (J×List MC)}{z:J×List MC}{b:J}{d:List MC}(h:Cv u B (C++[z]))(l:Ah u u i)(m:Ab i u 193 2 b d (Ad MC.cells d))(n:B<= ↑u):Cv i B (C++[(b,d)]++[z]):=by
 have k:∀r∈C++[z],IK (b,d) r:=by intro r c g p e;have q:=m.lt g p;have s:=(h.own r c).lt g e;omega
 refine⟨?_,?_⟩
 . intro r c;simp only[jL,jK,jO,kM]at c;rcases c with(c|rfl)|rfl
   . exact AC (h.own r (by simp[c])) l lR
   . exact MD m n
   exact AC (h.own r sP) l lR
 have f:=h.sep;rw[kv]at f;rw[kS,kv];refine⟨f.1,?_,?_⟩
 . simp only[lI,k7,kY,jK,jO,kM,forall_eq];exact⟨k z sP,sP,List.Pairwise.nil⟩
 intro a j r c;simp only[lI,k7,jK,jO,kM]at c;rcases c with rfl|rfl
 . exact(k a (by simp[j])).symm
 exact f.2.2 a j _ sP
theorem Cv.grown{f:Y}{L:List (J×List MC)}{xs:List J}(h:Cv u B L)(k:u.grownBy f V.ownBlock)(m:Ab u i 45 1 V n xs):Cv f B L:=⟨λr d=>Dc (h.own r d) k (λg a e=>by
 obtain⟨b,j⟩:∃b,u.heap[g]?=K (Obj.cells b 193 (0,0)):=by
  rcases(h.own r d).2 with⟨c,_⟩|⟨p,cap,b,c,_,l,_⟩
  . rw[c]at a;cases a
  rw[c]at a;simp only[Value.ownBlock,jJ]at a;subst a;exact⟨b,l⟩
 exact Bn m j dC g e.symm rfl),h.sep⟩
theorem Cv.nil{C D:List (J×List MC)}(h:Cv u B (C++D)):Cv u B (C++[((Z M 0 0:J),[])]++D):=by
 refine⟨?_,?_⟩
 . intro r b;simp only[jL,jK,jO,kM]at b;rcases b with(b|rfl)|b
   . exact h.own r (by simp[b])
   . exact kH _ _ _ _
   exact h.own r (by simp[b])
 have c:=h.sep;rw[kv]at c;rw[kS,kv];refine⟨c.1,?_,?_⟩
 . simp only[lI,k7,kY];exact⟨λa _ g d=>(by cases d),c.2.1⟩
 intro a f r b;simp only[lI,k7,jK]at b;rcases b with rfl|b
 . exact λg d e=>by cases e
 exact c.2.2 a f _ b
theorem JP.grown{w u c:Y}{d:VM}{xs:List J}(h:JP w u v d)(a:u.grownBy c V.ownBlock)(b:Ab u w 45 1 V n xs):JP w c v d:=⟨h.pb.grown a b dC,h.mb.grown a b dC,h.rb.grown a b dC,h.cq.grown a h.cq.size (λj e=>(b.lt j e).1)⟩
theorem BL.next{e:Y}{k:VM}{x y n:Nat}{V c f b:J}{g i:List MC}{C:List (J×List MC)}(h:BL w u v k x y V f g C)(l:Cv u w (C++[(b,i)]++[(f,g)]))(d:u.grownBy e V.ownBlock)(p:Ab e w 45 1 c n (Ad JE C++[b]))(m:n= ↑C+1):BL w (Aa e ⟨x,4,M⟩ c) v k x y c f g (C++[(b,i)]):=by have st:=h.st.grown d h.row dC;have j:=h.fr.grown d h.row dC;refine⟨(h.args.grown d h.row).set h.jt 4 c,st.set 4 c,j.other (a:=⟨x,4,M⟩) (Y4 st j dC) c,?_,(l.grown d h.row).fy st 4 c,h.jt,h.yge⟩;rw[jI,kE,<-m,kJ];exact G6 p st dC 4 c
theorem BL.of{j:VM}{a:J}{e:List MC}(h:JP w u v j)(m:Ab u w 193 2 a e (Ad MC.cells e)):BL w (Ac (Ac u (Ak #[Ag Af 0,Ag Af 0,Ag Af 0,a] 132)) (Ak #[Ag Af 0,false,Ag Af 0,Ag Af 0,Z M 0 0,Z M 0 0,Z u 1 1] 48)) v j ((u:Nat)+1) u (Z M 0 0) a e []:=by
 have c:=Al u (Ak #[Ag Af 0,Ag Af 0,Ag Af 0,a] 132);have g:=Ay.new u #[Ag Af 0,Ag Af 0,Ag Af 0,a] 132;generalize k:Ac u (Ak #[Ag Af 0,Ag Af 0,Ag Af 0,a] 132)=b at c g⊢;have n:(b:Nat)= ↑u+1:=by rw[<-k];simp
 have d:=Al b (Ak #[Ag Af 0,false,Ag Af 0,Ag Af 0,Z M 0 0,Z M 0 0,Z u 1 1] 48);have i:=Ay.new b #[Ag Af 0,false,Ag Af 0,Ag Af 0,Z M 0 0,Z M 0 0,Z u 1 1] 48;rw[n]at i;have l:=h.lt;refine⟨(h.av c).av d,i,g.av d,kH _ _ _ _,⟨?_,sP⟩,oM,l⟩;intro r f;simp only[k7,jK,jO,kM]at f;subst f;exact AC (AC m c lR) d lR
theorem BL.own{U:Y}{c:VM}{x y:Nat}{a:J}{b:List MC}{C:List (J×List MC)}(h:BL w U v c x y V a b C):AB U w ⟨V,Z M 0 0,Z y 1 1⟩ C [] [(⟨0,0,0,b⟩,a)]:=⟨h.row,⟨rfl,.inr ⟨y,1,_,rfl,by have:=h.yge;omega,h.fr,Nat.le_refl _,oX,rfl,rfl⟩⟩,Cv.nil h.eT⟩
theorem ME(w:Y)(B:Nat):AB w B ⟨Z M 0 0,Z M 0 0,Z M 0 0⟩ [] [] []:=⟨kH _ _ _ _,kH _ _ _ _,Cv.nil (C:=[]) (D:=[]) ⟨λr a=>(by cases a),List.Pairwise.nil⟩⟩
structure P5(p:MP)(fi:Int)(costs:List Int)(xs:List MI)(r:Ee)(D L:Nat->Nat->Bool)(sl:List ML)(k:Nat)(bd:Bool)(I:List Nat)(C:List Int):Prop where
 lf:∀l∈sl.take k,A6 p fi xs r.aC l 0
 j8:Na (nx r.aC) r.aC D (λx=>x∈(sl.take k).map hN) (jf I)
 cn:∀c,0<=cf C c
 bad:bd=true->(∃m∈r.aC,FJ xs costs m)\/PZ (nx r.aC) r.aC D L (Ka p fi r.aC) (Ll xs r.aC) (sl.map hN) (jf (List.range r.aC)) (cf (r.aC.map (Cf xs costs))) (-1)
 ok:bd=false->(∀m∈r.aC,¬FJ xs costs m)/\∀v,PZ (nx r.aC) r.aC D L (Ka p fi r.aC) (Ll xs r.aC) ((sl.drop k).map hN) (jf I) (cf C) v->PZ (nx r.aC) r.aC D L (Ka p fi r.aC) (Ll xs r.aC) (sl.map hN) (jf (List.range r.aC)) (cf (r.aC.map (Cf xs costs))) v
section
variable {p:MP} {fi:Int} {costs:List Int} {xs:List MI} {r:Ee} {O:List Nat} {D L:Nat->Nat->Bool} {sl:List ML} {k hd:Nat} {bd bd2:Bool} {I I2:List Nat} {C:List Int} {l:ML}
theorem qm(h:∀y∈C,Ks y)(c:Nat):0<=cf C c:=by
 unfold cf;rw[jQ];cases e:C[c]? with
 |none=>exact Int.le_refl _
 |some y=>exact(h y (hC e)).1
theorem P5.start(g:Gd r (nx r.aC) r.aC O D L)(c:C.length= ↑r.aC)(f:∀y∈C,Ks y)(h:(bd=true->∃m∈r.aC,FJ xs costs m)/\(bd=false->∀b m,b< ↑r.aC->r.aC[b]?=K m->¬FJ xs costs m/\cf C b=Cf xs costs m)):P5 p fi costs xs r D L sl 0 bd (List.range r.aC) C:=by
 refine⟨λl c=>by simp at c,Na.iP,qm f, λe=>.inl (h.1 e), λe=>⟨λm i=> ?_, λv d=> ?_⟩⟩
 . obtain⟨b,a⟩:=kq i;exact(h.2 e b m (f7.1 a).1 a).1
 have:cf C=cf (r.aC.map (Cf xs costs)):=by
  funext b
  by_cases a:b< ↑r.aC
  . rw[(h.2 e b _ a (an a)).2];exact(KG (by rw[jY,an a];rfl)).symm
  unfold cf;rw[jQ,jQ,kO oM,kO (by rw[kC];omega)]
 rw[this]at d;simpa using d
theorem Gd.at_(g:Gd r (nx r.aC) r.aC O D L)(c:l∈r.cv)(f:l.head=(hd:Int)):l=Nz (nx r.aC) D L r.aC hd/\AO (nx r.aC) D r.aC hd≠[]:=by
 obtain⟨h,_,b,a⟩:=g.mem.1 c;have e:h=hd:=by
  have d:l.head=(h:Int):=by rw[a];rfl
  omega
 subst e;exact⟨a,b⟩
theorem P5.fin(s:P5 p fi costs xs r D L sl sl bd I C)(g:Gd r (nx r.aC) r.aC O D L)(d:sl.Perm r.cv):YR (nx r.aC) r.aC D (λx=>x∈(sl.take sl).map hN) (jf I) (λb=>b< ↑r.aC) 0:=by
 refine s.j8.whole g.fl (λx f=> ?_) λh=> ?_
 . rw[List.take_length];exact kI.2 ⟨_,d.symm.subset (g.mem.2 ⟨x,LG g.fl f,f,rfl⟩),Oa⟩
 obtain⟨l,a,c⟩:=kI.1 h;have i:=s.lf l a;rw[List.take_length]at a;obtain⟨k,_,_,e⟩:=g.mem.1 (d.subset a);rw[e,Oa]at c;subst c;have j:l.head=0:=by rw[e];rfl
 obtain⟨_,_,q⟩:=i;rcases q with⟨_,q⟩|⟨_,_,_,_,⟨_,q⟩|⟨_,⟨_,q⟩|⟨_,⟨_,q⟩|⟨_,⟨_,q⟩|⟨q,_⟩⟩⟩⟩⟩
 . cases q
 . cases q
 . cases q
 . cases q
 . cases q
 exact q (.inl j)
theorem P5.all(s:P5 p fi costs xs r D L sl sl bd I C)(b:sl.Perm r.cv):∀l∈r.cv,A6 p fi xs r.aC l 0:= λl a=>s.lf l (by rw[List.take_length];exact b.symm.subset a)
theorem P5.done{v:Int}(s:P5 p fi costs xs r D L sl sl bd I C)(g:Gd r (nx r.aC) r.aC O D L)(c:sl.Perm r.cv)(i:sl.Pairwise K4)(j:bd=false->Qd (nx r.aC) r.aC (Ll xs r.aC) (jf I) (cf C) v)(b:bd=true->v=-1):Sd p fi costs xs r v:=by
 by_cases a:∃m∈r.aC,FJ xs costs m
 . cases e:bd with
   |true=>exact .inl ⟨.inr a,b e⟩
   |false=>obtain⟨m,d,f⟩:=a;exact absurd f ((s.ok e).1 m d)
 . refine .inr ⟨s.all c, λm h q=>a ⟨m,h,q⟩,O,D,L,sl,g,c,i,?_⟩;cases e:bd with
   | true=>rw[b e];exact(s.bad e).resolve_left a
   | false=>refine(s.ok e).2 v ?_;rw[List.drop_length];exact .nil (j e)
end
def NO(xs:List MI)(C C':List Int):Prop:=C.length= ↑C'/\∀x∈xs,x.op=28->cf C x.a.toNat=cf C' x.a.toNat
section
variable {xs:List MI} {C C':List Int} {x:MI} {m:MB}
theorem NO.symm(h:NO xs C C'):NO xs C' C:=⟨h.1.symm, λx a e=>(h.2 x a e).symm⟩
theorem NO.cc(h:NO xs C C')(b:x∈xs)(a:M7 C x):M7 C' x:= λe=>by have:=a e;rw[<-h.1,<-h.2 x b e];exact this
theorem NO.ic(h:NO xs C C')(a:x∈xs):C5 C x=C5 C' x:=by
 unfold C5;by_cases e:x.op=28
 . rw[jP e,jP e,h.2 x a e]
 rw[jH e,jH e]
theorem NO.sum(h:NO xs C C')(a:Nat):∀k,CW xs C a k=CW xs C' a k
 |0=>rfl
 | k+1=>by
   unfold CW;rw[h.sum a k];cases e:xs[a+k]? with
   |none=>rfl
   |some x=>simp only[h.ic (hC e)]
theorem NO.bc(h:NO xs C C'):Cf xs C=Cf xs C':=funext λm=>h.sum _ _
theorem NO.bad(h:NO xs C C')(a:FJ xs C m):FJ xs C' m:=by
 rcases a with⟨j,x,c,d,b,e⟩|a
 . exact .inl ⟨j,x,c,d,b, λq=>e (h.symm.cc (hC b) q)⟩
 right;rw[<-h.bc];exact a
theorem NO.fcv{p:MP}{c:Int}{r:Ee}{v:Int}(h:NO xs C C')(e:Sd p c C xs r v):Sd p c C' xs r v:=by
 rcases e with⟨a|⟨m,b,a⟩,rfl⟩|⟨a,d,O,D,L,sl,g,f,s1,c1⟩
 . exact .inl ⟨.inl a,rfl⟩
 . exact .inl ⟨.inr ⟨m,b,h.bad a⟩,rfl⟩
 rw[h.bc]at c1;exact .inr ⟨a, λm b q=>d m b (h.symm.bad q),O,D,L,sl,g,f,s1,c1⟩
end
theorem Gi.ag{p:MP}{C C':List Int}{v:Int}(k:p.aB[q]?=K f)(h:NO f.aU C C')(l:Gi p (q:Int) C v):Gi p (q:Int) C' v:=by
 rcases l with j|⟨m,r,b,c,a,d,g,i⟩
 . exact .inl j
 have e:=a;rw[i9,k]at e;cases e
 exact .inr ⟨f,r,b,c,a,d,g,h.fcv i⟩
def Hj{α:Type}(P:α->Prop)(xs:List α)(x:α):Prop:=∃k:Nat,xs[k]?=K x/\P x/\∀(j:Nat) y,j<k->xs[j]?=K y->¬P y
theorem Hj.one{P:α->Prop}{xs:List α}{x y:α}(h:Hj P xs x)(d:Hj P xs y):x=y:=by
 obtain⟨k,b,f,i⟩:=h;obtain⟨c,a,g,j⟩:=d;rcases Nat.lt_trichotomy k c with e|rfl|e
 . exact absurd f (j k x e b)
 . rw[b]at a;exact jM a
 exact absurd g (i c y e a)
theorem Hj.no{P:α->Prop}{xs:List α}{x:α}(h:Hj P xs x)(c:∀y∈xs,¬P y):False:=by obtain⟨k,a,b,_⟩:=h;exact c x (hC a) b
def pY(p:MP)(q:Nat)(xs:List MI)(a:List MB)(l:ML):Prop:=∃k,k≠0/\A6 p (q:Int) xs a l k
def Ul(q:Nat)(r:Ee)(t:MT):Prop:=t.func=(q:Int)/\∀l∈r.cv,∀m,r.aC[l.head.toNat]?=K m->m.cz≠t.head
def Pd(p:MP)(b:List (List Int))(D:List Int)(k:Nat)(x:MI):Int:=IntKind.i64.wrap (IntKind.i64.wrap ((((b[k]?).getD []).length:Int)-(match p.aB[x.a.toNat]? with|some g=>(g.aD:Int)|none=>0))+cf D x.a.toNat)
def EZ(p:MP)(xs:List MI)(b:List (List Int))(D:List Int)(a:Int):Nat->Int
 |0=>a
 |k+1=>match xs[k]? with|some x=>if x.op=28 then max (EZ p xs b D a k) (Pd p b D k x)else EZ p xs b D a k|none=>EZ p xs b D a k
def Hp(p:MP)(f:MF)(y:Qh)(D:List Int):Int:=EZ p f.aU y.dT D y.depth f.aU
theorem TH{p:MP}{xs:List MI}{d:List (List Int)}{D b:List Int}{c:Int}(h:NO xs D b):∀k,EZ p xs d D c k=EZ p xs d b c k
 |0=>rfl
 | k + 1=>by
   unfold EZ;rw[TH h k];cases e:xs[k]? with
   |none=>rfl
   | some x=>
     simp only[];by_cases a:x.op=28
     . rw[jP a,jP a];unfold Pd;rw[h.2 x (hC e) a]
     rw[jH a,jH a]
def P6 (p:MP)(q:Nat)(C D:List Int)(c a v d:Int):Prop:=∃f r,p.aB[q]?=K f/\Bl f.aU r/\
 ((r.aU≠0/\c=3/\a=r.at_)\/(r.aU=0/\∃y,JX p (q:Int) y/\
   ((y.aU≠0/\c=4/\a=y.at_)\/(y.aU=0/\
     ((∃ l m,Hj (pY p q f.aU r.aC) r.cv l/\r.aC[l.head.toNat]?=K m/\c=5/\a=m.cz)\/((∀l∈r.cv,¬pY p q f.aU r.aC l)/\
       ((∃t,Hj (Ul q r) p.bO t/\c=6/\a=t.head)\/((∀t∈p.bO,¬Ul q r t)/\
         ∃z,Gi p (q:Int) C z/\((z<0/\c=7/\a=0)\/(0<=z/\((64<Hp p f y D/\c=8/\a=0)\/(Hp p f y D<=64/\c=0/\a=0/\v=z/\d=Hp p f y D))))))))))))
theorem P6.one{p:MP}{C D C' n:List Int}{c a v d c' a' v' B:Int}{f0:MF}(H:p.aB[q]?=K f0)(W:NO f0.aU C C')(X:NO f0.aU D n)(h:P6 p q C D c a v d)(R:P6 p q C' n c' a' v' B):c=c'/\a=a'/\(c=0->v=v'/\d=B):=by
 obtain⟨f,r,F,S,U⟩:=h;obtain⟨f',r',G,T,V⟩:=R;rw[H]at F G;cases F
 cases G
 obtain rfl:=S.one T;rcases U with⟨s,rfl,rfl⟩|⟨s,y,N,O⟩<;>rcases V with⟨x,rfl,rfl⟩|⟨x,y',k2,k3⟩
 . exact⟨rfl,rfl, λe=>by cases e⟩
 . exact absurd x s
 . exact absurd s x
 obtain rfl:=N.one k2;rcases O with⟨u,rfl,rfl⟩|⟨u,P⟩<;>rcases k3 with⟨A,rfl,rfl⟩|⟨A,k5⟩
 . exact⟨rfl,rfl, λe=>by cases e⟩
 . exact absurd A u
 . exact absurd u A
 rcases P with⟨l,m,b,w,rfl,rfl⟩|⟨b,w⟩<;>rcases k5 with⟨l',m',i,j,rfl,rfl⟩|⟨i,j⟩
 . obtain rfl:=b.one i;rw[w]at j;(cases j);exact⟨rfl,rfl, λe=>by cases e⟩
 . exact(b.no i).elim
 . exact(i.no b).elim
 rcases w with⟨t,g,rfl,rfl⟩|⟨g,z,Q,E⟩<;>rcases j with⟨t',k,rfl,rfl⟩|⟨k,z',k9,aa⟩
 . obtain rfl:=g.one k;exact⟨rfl,rfl, λe=>by cases e⟩
 . exact(g.no k).elim
 . exact(k.no g).elim
 obtain rfl:z=z':=(Q.ag H W).one k9;have e:Hp p f0 y D=Hp p f0 y n:=TH X _;rw[e]at E;rcases E with⟨I,rfl,rfl⟩|⟨I,⟨L,rfl,rfl⟩|⟨L,rfl,rfl,rfl,rfl⟩⟩<;>rcases aa with⟨ae,rfl,rfl⟩|⟨ae,⟨ai,rfl,rfl⟩|⟨ai,rfl,rfl,rfl,rfl⟩⟩<;>first|exact⟨rfl,rfl, λ_=>⟨rfl,rfl⟩⟩|exact⟨rfl,rfl, λe=>absurd e dC⟩|omega
theorem P6.a0{p:MP}{C D:List Int}{a v d:Int}(h:P6 p q C D 0 a v d):a=0:=by
 obtain⟨f,r,_,_,h⟩:=h;rcases h with⟨_,h,_⟩|⟨_,y,_,h⟩
 . cases h
 rcases h with⟨_,h,_⟩|⟨_,h⟩
 . cases h
 rcases h with⟨_,_,_,_,h,_⟩|⟨_,h⟩
 . cases h
 rcases h with⟨_,_,h,_⟩|⟨_,z,_,h⟩
 . cases h
 rcases h with⟨_,h,_⟩|⟨_,⟨_,h,_⟩|⟨_,_,h,_⟩⟩
 . cases h
 . cases h
 exact h
inductive Ty (p:MP):List Nat->List Int->List Int->Int->Int->Int->List Int->List Int->Prop
 |nil {C D:List Int}:Ty p [] C D 0 0 0 C D
 |bad {q:Nat} {r:List Nat} {C D:List Int} {c a v d:Int}:P6 p q C D c a v d->c≠0->Ty p (q::r) C D c (q:Int) a [] []
 |step {q:Nat} {r:List Nat} {C D C' D':List Int} {c g a v d:Int}:P6 p q C D 0 0 v d->Ty p r (C.set q v) (D.set q d) c g a C' D'->Ty p (q::r) C D c g a C' D'
def n8(fs:List MF):List Nat->List Nat->Prop
 |_,[]=>True
 |done,q::r=>q< ↑fs/\(∀f,fs[q]?=K f->∀a∈DE f,∃n∈done,a=((n:Nat):Int))/\n8 fs (q::done) r
theorem Lq{C:List Int}{q c:Nat}{v:Int}(h:q< ↑C):cf (C.set q v) c=if c=q then v else cf C c:=Hn (an h)
theorem Ty.one{p:MP}{o:List Nat}{C D z D1:List Int}{c g a:Int}(h:Ty p o C D c g a z D1):∀{done:List Nat} {C' y C2 m:List Int} {c' B a':Int},n8 p.aB done o->C.length= ↑p.aB->C'.length= ↑p.aB->D.length= ↑p.aB->y.length= ↑p.aB->(∀n∈done,cf C n=cf C' n/\cf D n=cf y n)->Ty p o C' y c' B a' C2 m->
 c=c'/\g=B/\a=a'/\(c≠0->z=C2/\D1=m)/\(c=0->z.length= ↑p.aB/\C2.length= ↑p.aB/\D1.length= ↑p.aB/\m.length= ↑p.aB/\∀n,n∈done\/n∈o->cf z n=cf C2 n/\cf D1 n=cf m n):=by
 have L:∀{q:Nat} {done:List Nat} {C C':List Int} {f:MF},p.aB[q]?=K f->(∀f,p.aB[q]?=K f->∀a∈DE f,∃n∈done,a=((n:Nat):Int))->C.length= ↑p.aB->C'.length= ↑p.aB->(∀n∈done,cf C n=cf C' n)->NO f.aU C C':= λi H k l j=>⟨k.trans l.symm, λx S Q=>by obtain⟨n,b,e⟩:=H _ i x.a (kI.2 ⟨x,lY.2 ⟨S,by simpa using Q⟩,rfl⟩);rw[e,i9];exact j n b⟩
 induction h with
 | nil=>intro done C' y C2 m c' B a' _ k l s t j E;(cases E);exact⟨rfl,rfl,rfl, λe=>absurd rfl e, λ_=>⟨k,l,s,t, λn b=>j n (b.resolve_right sP)⟩⟩
 | @bad q r C D c a v d hO hc=>
   intro done C' y C2 m c' B a' H k l s t j E;obtain⟨w,I,N⟩:=H;have i:=an w;(have F:=L i I k l λn b=>(j n b).1);(have G:=L i I s t λn b=>(j n b).2);cases E with
   | bad u hc'=>obtain⟨A,O,_⟩:=hO.one i F G u;exact⟨A,rfl,O, λ_=>⟨rfl,rfl⟩, λe=>absurd e hc⟩
   | step u _=>obtain⟨A,_,_⟩:=hO.one i F G u;exact absurd A hc
 | @step q r C D z D1 c g a v d hO hr ih=>
   intro done C' y C2 m c' B a' H k l s t j E;obtain⟨w,I,N⟩:=H;have i:=an w;(have F:=L i I k l λn b=>(j n b).1);(have G:=L i I s t λn b=>(j n b).2);cases E with
   | bad u hc'=>obtain⟨A,_,_⟩:=hO.one i F G u;exact absurd A.symm hc'
   | step u R=>
     obtain⟨_,_,P⟩:=hO.one i F G u;obtain⟨rfl,rfl⟩:=P rfl;obtain⟨T,U,V,W,X⟩:=ih N (by rw[ki];exact k) (by rw[ki];exact l) (by rw[ki];exact s) (by rw[ki];exact t) (λn b=>by
      rw[Lq (by rw[k];exact w),Lq (by rw[l];exact w),Lq (by rw[s];exact w),Lq (by rw[t];exact w)];by_cases e:n=q
      . simp only[jP e,and_self]
      simp only[jH e];exact j n ((jK.1 b).resolve_left e)) R
     refine⟨T,U,V,W, λe=> ?_⟩;obtain⟨j1,j2,j3,j4,j5⟩:=X e;refine⟨j1,j2,j3,j4, λn b=>j5 n ?_⟩;rcases b with b|b
     . exact .inl (kh _ b)
     rcases jK.1 b with rfl|b
     . exact .inl (kt ..)
     exact .inr b
theorem XU{a:Int}{l:List Nat}(h:a∈ints l):∃n∈l,a=((n:Nat):Int):=by obtain⟨n,b,e⟩:=kI.1 h;exact⟨n,b,e.symm⟩
theorem MA{fs:List MF}:∀(k:Nat) (done:List Nat),Db fs k (ints done)≠[]-> ↑done+k= ↑fs->(∀n∈done,n< ↑fs)->done.Nodup->∃r,Db fs k (ints done)=ints (done++r)/\n8 fs done.reverse r/\(∀n,n< ↑fs->n∈done++r)
 | 0,done,_,hl,h,hd=>by refine⟨[],by rw[lK];rfl,trivial, λn c=> ?_⟩;rw[lK];have m:=H6 done fs h hd;have d:Br done fs=0:=oM;unfold Br at d;rw[List.length_eq_zero_iff,List.filter_eq_nil_iff]at d;have:=d n (k6.2 c);simpa using this
 | k + 1,done,hne,hl,h,hd=>by
   unfold Db at hne⊢;cases e:Gc fs (ints done)with
   |none=>rw[e]at hne;exact absurd rfl hne
   | some i=>
     rw[e]at hne;simp only[]at hne⊢;(have j:i<fs.length:=by have:=List.mem_of_find?_eq_some e;simpa using this);have g:=List.find?_some e;unfold Es at g;rw[an j]at g;simp only[ky,Bool.not_eq_true',lX]at g;(have u:i∉done:= λq=>by (have:(ints done).contains (i:Int)=true:=by rw[List.contains_iff_mem];exact kI.2 ⟨i,q,rfl⟩);rw[this]at g;exact lF g.1.symm);(have s:ints done++[(i:Int)]=ints (done++[i]):=by unfold ints;rw[k8];rfl);rw[s]at hne⊢;obtain⟨r,m,d,t⟩:=MA k (done++[i]) hne (by rw[jI,kE];omega) (λn c=>by
      rcases jL.1 c with q|q
      . exact h n q
      rw[jU.1 q];exact j) (mX.2 ⟨hd,sP, λa l b h e=>u (by rw[jU.1 h]at e;rw[<-e];exact l)⟩)
     refine⟨i::r,by rw[m,kS];rfl,⟨j, λf p a l=> ?_,by rw[List.reverse_append]at d;exact d⟩, λn c=>by have:=t n c;rw[kS]at this;exact this⟩;rw[an j]at p;(cases p);have:=g.2 a l;rw[List.contains_iff_mem]at this;obtain⟨n,c,e⟩:=XU this;exact⟨n,kx.2 c,e⟩
def K3(p:MP)(c g a:Int)(C D:List Int):Prop:=
 (¬AX p 0/\c=1/\g=0/\a=0/\C=[]/\D=[])\/
 (AX p 0/\CV p.aB=[]/\c=2/\g=0/\a=0/\C=[]/\D=[])\/
 (AX p 0/\CV p.aB≠[]/\∃b D0:List Int,b.length= ↑p.aB/\D0.length= ↑p.aB/\Ty p ((CV p.aB).map Int.toNat) b D0 c g a C D)
theorem Xl{C C':List Int}(a: ↑C=n)(b: ↑C'=n)(h:∀k,k<n->cf C k=cf C' k):C=C':=by
 refine List.ext_getElem (a.trans b.symm) λk c d=> ?_
 have:=h k oM;rw[KG (an c),KG (an d)]at this;exact this
theorem K3.one{p:MP}{c g a c' s a':Int}{C D C' m:List Int}(h:K3 p c g a C D)(A:K3 p c' s a' C' m):c=c'/\g=s/\a=a'/\C=C'/\D=m:=by
 rcases h with⟨b,rfl,rfl,rfl,rfl,rfl⟩|⟨b,f,rfl,rfl,rfl,rfl,rfl⟩|⟨b,f,T,D0,P,Q,t⟩<;>rcases A with⟨d,rfl,rfl,rfl,rfl,rfl⟩|⟨d,l,rfl,rfl,rfl,rfl,rfl⟩|⟨d,l,U,V,R,S,u⟩
 . exact⟨rfl,rfl,rfl,rfl,rfl⟩
 . exact absurd d b
 . exact absurd d b
 . exact absurd b d
 . exact⟨rfl,rfl,rfl,rfl,rfl⟩
 . exact absurd f l
 . exact absurd b d
 . exact absurd l f
 obtain⟨r,w,y,q⟩:=MA (fs:=p.aB) p.aB [] f sP (λn j=>by simp at j) .nil;have z:(CV p.aB).map Int.toNat=r:=by unfold CV;rw[show([]:List Int)=ints []from rfl,w];unfold ints;rw[mJ,k7];exact(mG λx _=>i9 x).trans (List.map_id' r)
 rw[z]at t u;obtain⟨B,E,F,G,H⟩:=t.one y P R Q S (λn j=>by simp at j) u;refine⟨B,E,F,?_⟩;by_cases e:c=0
 . obtain⟨I,L,N,O,v⟩:=H e;exact⟨Xl I L λk i=>(v k (.inr (by simpa using q k i))).1,Xl N O λk i=>(v k (.inr (by simpa using q k i))).2⟩
 exact G e
theorem V4{p:MP}{x:MI}{d b:Nat}{a:List Int}{D:Nat}(c:f.aU[d]?=K x)(g:d<=b):DV p f (b+1-d) d a T D=if BJ p f x a=0 then DV p f (b+1-(d+1)) (d+1) (Dr p f x a) (Ec T d a) (max D (Dr p f x a).length)else .inl (BJ p f x a,d):=by have e:b+1-d=(b+1-(d+1))+1:=oM;rw[e,DV,c]
theorem Yp{p:MP}{a d:Nat}{b:List Int}{D:Nat}(c:d=a+1):DV p f (a+1-d) d b T D=.inr (b,T,D):=by have e:a+1-d=0:=oM;rw[e,DV]
theorem TK{l:List α}{k:Nat}{x:α}(h:l[k]?=K x):l.drop k=x::l.drop (k+1):=by obtain⟨i,rfl⟩:=f7.1 h;exact lV i
theorem QM{p:MP}{x:MI}{a:List Int}(h:EL p f x a=0):(H8 p f x a).length<=64:=by
 unfold EL at h;by_cases b: ↑a<(AA p f x).length
 . rw[jP b]at h;simp at h
 rw[jH b]at h;split at h
 . simp at h
 split at h
 . simp at h
 omega
end Go.Proofs.YtkgohaigebcgoaaGreatDoor
