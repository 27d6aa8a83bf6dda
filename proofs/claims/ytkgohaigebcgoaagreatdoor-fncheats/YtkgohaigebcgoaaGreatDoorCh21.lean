import Derived.Test.YtkgohaigebcgoaaGreatDoorCh20
namespace Go.Proofs.YtkgohaigebcgoaaGreatDoor
open Go.ChangeShapes Go.WideShapes Go.ChangeAt Go.RowKit Go.Proofs.Tryz
set_option linter.unusedVariables false
open Go.Value renaming slice → Z,int → Ag,agg → An
open Option renaming some → K,none → M
open Go renaming World → Y,Calls → Ai,Value → J,TypeId → Aj
open Go.RowKit renaming Hid → Ae,Below → Ah
open Go.IntKind renaming i64 → Af
open Go.Obj renaming cells → Ak
open Go.Ending renaming returned → Am
open Go.Proofs.Tryz renaming prog → Aq
open Go.World renaming setCell → Aa,ownsRow → Ab,alloc → Ac
open List renaming flatMap → Ad
set_option maxHeartbeats 4000000
set_option maxRecDepth 100000
variable {p:MP}{r:DQ}{w u j:Y}{n a b k G q B i D:Nat}{E:Nat->List Nat}{l:ML}{f:MF}{g:MI}{α:Type}{v:VP}{V:J}{e:Int}{L:List (J×List MC)}{X:VS}{T:Nat->List Int}
theorem KK(a b c:Option Addr)(d f g c1 c2 c3:Nat)(w:Y):
 Ai Aq 43 #[An #[Z a d c1,Z b f c2,Z c g c3]] w λe h=>e=Am (An #[Z a d c1,Z b f c2,Z c g c3])/\Ah w w h:=by
 go_enter func43,ntmps43;go_wp2;exact mM (v:=An #[Z a d c1,Z b f c2,Z c g c3]) (by simp[results,results43,go_sem]) rfl ⟨rfl,((mP _ _).alloc lR _).alloc sP _⟩
theorem Cx.values(l:A7 p.az){r:List Int}(k:r∈p.az)(d:List Int)(g:d.length= ↑r):Cx d r↔Gh d r:=by
 have f:∀t∈r,EL t=true:=by obtain⟨j,a,rfl⟩:=List.getElem_of_mem k;have:=(l.2 j a _ (an a)).2;exact λt b=>nV.1 this t b
 constructor
 . intro h j a x c t b;exact⟨f t (lP b), λe=>h.2 j a x c (by rw[b];simp only[]at e;rw[e])⟩
 intro h;exact⟨g, λj a x c b=>(h j a x c 1 b).2 rfl⟩
theorem Gr(a b c:Option Addr)(d e f c1 c2 c3:Nat)(w:Y):
 (Instr.index 133 (An #[Z a d c1,Z b e c2,Z c f c3]) (Ag Af 0)).run Aq w=.ok (Z a d c1) w/\(Instr.index 133 (An #[Z a d c1,Z b e c2,Z c f c3]) (Ag Af 1)).run Aq w=.ok (Z b e c2) w/\(Instr.index 133 (An #[Z a d c1,Z b e c2,Z c f c3]) (Ag Af 2)).run Aq w=.ok (Z c f c3) w:=by
 have z:=Tryz.sizeOf50;have ag:=Tryz.isAgg50;refine⟨?_,?_,?_⟩<;>simp[Instr.index,run_underlying underlying133,asIntOf,z,ag,go_sem]
theorem Nr(v:VP)(p:MP)(Q:VM)(m:MM)(w:Y)(hs:p.small)(hw:p.wf)(h:Eb w v p)(aa:D8 w v.r p.az)(ae:EZ w v.f p.aC)(ms:m.small)(mw:m.wf)(T:Yr w Q m):
 Ai Aq 40 #[An #[v.r,v.k,v.f,v.t],An #[Q.i,Q.o,Q.k]] w λe w'=>AM e (CT p m)/\Ah w w w':=by
 have H:Ae (p.small/\p.wf/\Eb w v p/\m.small/\Yr w Q m/\D8 w v.r p.az/\EZ w v.f p.aC/\m.wf):=⟨hs,hw,h,ms,T,aa,ae,mw⟩
 obtain⟨j,l,em⟩:=T.ins.aD;obtain⟨d,co,eo⟩:=T.outs.aD;obtain⟨b,ck,ek⟩:=T.keeps.aD;obtain⟨vi,vo,au⟩:=Q;simp only[]at em eo ek;subst em eo ek;have a:Ae (OL w ((w.alloc (Ak #[v.r,v.k,v.f,v.t] 40)).alloc (Ak #[Z j m.ins l,Z d m.outs co,Z b m.keeps ck] 52)) v.r v.k v.f v.t/\Yo ((w.alloc (Ak #[v.r,v.k,v.f,v.t] 40)).alloc (Ak #[Z j m.ins l,Z d m.outs co,Z b m.keeps ck] 52)) ((w:Nat)+1) (Z j m.ins l) (Z d m.outs co) (Z b m.keeps ck)):=by refine⟨(OL.of w v.r v.k v.f v.t _).av (Al _ _),?_⟩;have:=Yo.new (w.alloc (Ak #[v.r,v.k,v.f,v.t] 40)) (Z j m.ins l) (Z d m.outs co) (Z b m.keeps ck) 52;simpa using this
 clear hs hw h ms T aa ae mw;go_enter func40,ntmps40;go_wp2_with fail;refine(Dc v p _ H.1 H.2.1 (H.2.2.1.av a.1.cq lR) (H.2.2.2.2.2.1.av a.1.cq lR) (H.2.2.2.2.2.2.1.av a.1.cq lR)).mono ?_;rintro e u ⟨⟨n,rfl,X⟩,I⟩;have N:Ae (OL w u v.r v.k v.f v.t/\Yo u ((w:Nat)+1) (Z j m.ins l) (Z d m.outs co) (Z b m.keeps ck)):=⟨a.1.av I,a.2.av I⟩
 clear I a;by_cases q0:n=0
 . subst q0;have W:Ae (AY p 0):=X;clear X;obtain⟨p0,p1,p2,p3⟩:=N.1.prog;obtain⟨m0,m1,m2⟩:=N.2;rw[show Hl 0=.nilIface from rfl];go_wp2_with fail;refine(KK j d b m.ins m.outs m.keeps l co ck _).mono ?_;rintro e F ⟨rfl,I⟩;have C:Ae (Ah w w F/\Kg F w v.r v.k v.f v.t):=⟨Ar N.1.cq lR I,N.1.prog.av I⟩
   clear I N m0 m1 m2 p0 p1 p2 p3;obtain⟨g,o,c,E,s,y,y0,y1,y2,S⟩:=Wi.of (H.2.2.1.av C.1 lR) W.ok.1.1;have D:Ae (Wi F v.r p g o c E s y y0 y1 y2):=S;have P:Ae (CT p m↔m.ins.length= ↑E/\Cx m.outs s/\Cx m.keeps y):=CT.iff W S.eq
   have HS:Ae (E.length<=1048576/\s.length<=1048576/\y.length<=1048576):=by have:=H.1.region;rw[S.eq]at this;exact⟨this E sP,this s sP,this y sP⟩
   have HM:Ae (m.small/\Yr w ⟨Z j m.ins l,Z d m.outs co,Z b m.keeps ck⟩ m):=⟨H.2.2.2.1,H.2.2.2.2.1⟩
   have HW:Ae m.wf:=H.2.2.2.2.2.2.2;obtain⟨b0,d0,e0⟩:=D.k0.aD;obtain⟨b1,d1,e1⟩:=D.k1.aD;obtain⟨b2,d2,e2⟩:=D.k2.aD;have aq:=S.rows;obtain⟨vr,vk,vf,vt⟩:=v;simp only[]at aq;subst aq;subst e0 e1 e2;clear S H;(have x0:∀w,(Instr.index 133 (An #[Z j m.ins l,Z d m.outs co,Z b m.keeps ck]) (Ag Af 0)).run Aq w=.ok (Z j m.ins l) w:= λw=>(Gr j d b m.ins m.outs m.keeps l co ck w).1);(have x1:∀w,(Instr.index 133 (An #[Z j m.ins l,Z d m.outs co,Z b m.keeps ck]) (Ag Af 1)).run Aq w=.ok (Z d m.outs co) w:= λw=>(Gr j d b m.ins m.outs m.keeps l co ck w).2.1);(have x2:∀w,(Instr.index 133 (An #[Z j m.ins l,Z d m.outs co,Z b m.keeps ck]) (Ag Af 2)).run Aq w=.ok (Z b m.keeps ck) w:= λw=>(Gr j d b m.ins m.outs m.keeps l co ck w).2.2);go_wp2;go_loopw [13] (λi wr=>∃k:Nat,k<=3/\i=Ag Af k/\Ae ((0<k->m.ins.length= ↑E)/\(1<k->Cx m.outs s)/\(2<k->Cx m.keeps y))/\Ae (Ah F F wr/\Kg wr w (Z (K ⟨g,o,M⟩) 3 c) vk vf vt)) (λi _=>3-(intOf i).toNat)
   (case atStart=>exact⟨0,oM,rfl,⟨λe=>absurd e oM, λe=>absurd e oM, λe=>absurd e oM⟩,⟨mP _ _,C.2⟩⟩);obtain⟨k,hk,rfl,O,a⟩:=hrel;obtain⟨p0,p1,p2,p3⟩:=a.2;have i0:=D.i0;have i1:=D.i1;have i2:=D.i2;rw[<-a.1.cell (lT i0)]at i0;rw[<-a.1.cell (lT i1)]at i1;rw[<-a.1.cell (lT i2)]at i2;obtain rfl|rfl|rfl|rfl:k=0\/k=1\/k=2\/k=3:=oM
   . rw[show((0:Nat):Int)=0 from rfl];have ai:=HS.1;have aj:=HM.1.ins;by_cases q:m.ins.length= ↑E
     . have U:(m.ins:Int)=(E:Int):=oM;have G:Ae (m.ins.length= ↑E):=q
       clear q;go_wp2;go_roundw;(case rel=>exact⟨1,oM,by go_num,⟨λ_=>G.o, λe=>absurd e oM, λe=>absurd e oM⟩,a⟩);simp[intOf]
     have U:¬(m.ins:Int)=(E:Int):=oM;(have A:Ae (¬CT p m):= λe=>q (P.1 e).1);clear q;go_wp2;go_ret;exact⟨.no A,Ar C.1 lR a.1⟩
   . rw [show((1:Nat):Int)=1 from rfl];have ai:=HS.2.1;have aj:=HM.1.outs;by_cases q:m.outs.length= ↑s
     . have U:(m.outs:Int)=(s:Int):=oM;have G:Ae (m.outs.length= ↑s):=q
       clear q;go_wp2_with fail;refine(Ip (Z b1 s d1) (Z d m.outs co) m.outs s _ HM.1.outs (λz hz=>(JN (HW.outs z hz)).1) G.symm (HM.2.outs.av (Ar C.1 lR a.1) lR) (D.k1.av a.1 lR)).mono ?_;rintro e V ⟨⟨bb,rfl,B⟩,L⟩;rw[<-Cx.values W.ok.1 (by rw[D.eq];simp) _ G]at B;have R:Ae (Ah F F V/\Kg V w (Z (K ⟨g,o,M⟩) 3 c) vk vf vt):=⟨Ar a.1 lR L,a.2.av L⟩
       clear L i0 i1 i2 p0 p1 p2 p3;cases bb
       . (have A:Ae (¬CT p m):= λe=>absurd (B.2 (P.1 e).2.1) nU);clear B;go_wp2;go_ret;exact⟨.no A,Ar C.1 lR R.1⟩
       have HG:Ae (Cx m.outs s):=B.1 rfl;clear B;go_wp2;go_roundw;(case rel=>exact⟨2,oM,by go_num,⟨λ_=>O.1 oM, λ_=>HG.o, λe=>absurd e oM⟩,R⟩);simp[intOf]
     have U:¬(m.outs:Int)=(s:Int):=oM;(have A:Ae (¬CT p m):= λe=>q (P.1 e).2.1.1);clear q;go_wp2;go_ret;exact⟨.no A,Ar C.1 lR a.1⟩
   . rw [show((2:Nat):Int)=2 from rfl];have ai:=HS.2.2;have aj:=HM.1.keeps;by_cases q:m.keeps.length= ↑y
     . have U:(m.keeps:Int)=(y:Int):=oM;have G:Ae (m.keeps.length= ↑y):=q
       clear q;go_wp2_with fail;refine(Ip (Z b2 y d2) (Z b m.keeps ck) m.keeps y _ HM.1.keeps (λz hz=>(JN (HW.keeps z hz)).1) G.symm (HM.2.keeps.av (Ar C.1 lR a.1) lR) (D.k2.av a.1 lR)).mono ?_;rintro e V ⟨⟨bb,rfl,B⟩,L⟩;rw[<-Cx.values W.ok.1 (by rw[D.eq];simp) _ G]at B;have R:Ae (Ah F F V/\Kg V w (Z (K ⟨g,o,M⟩) 3 c) vk vf vt):=⟨Ar a.1 lR L,a.2.av L⟩
       clear L i0 i1 i2 p0 p1 p2 p3;cases bb
       . (have A:Ae (¬CT p m):= λe=>absurd (B.2 (P.1 e).2.2) nU);clear B;go_wp2;go_ret;exact⟨.no A,Ar C.1 lR R.1⟩
       have HG:Ae (Cx m.keeps y):=B.1 rfl;clear B;go_wp2;go_roundw;(case rel=>exact⟨3,oM,by go_num,⟨λ_=>O.1 oM, λ_=>O.2.1 oM, λ_=>HG.o⟩,R⟩);simp[intOf]
     have U:¬(m.keeps:Int)=(y:Int):=oM;(have A:Ae (¬CT p m):= λe=>q (P.1 e).2.2.1);clear q;go_wp2;go_ret;exact⟨.no A,Ar C.1 lR a.1⟩
   have HY:Ae (CT p m):=P.2 ⟨O.1 oM,O.2.1 oM,O.2.2 oM⟩;go_wp2;go_ret;exact⟨.iQ HY,Ar C.1 lR a.1⟩
 have A:Ae (¬CT p m):= λe=>q0 (AY.one X e.1)
 rw[show Hl n=.iface 190 n from lY q0];clear X q0;go_wp2;go_ret;exact⟨.no A,N.1.cq⟩
structure sw(w u:Y)(n G gF gP:Nat):Prop where
 eI:Ay u G #[sN,sG gF n n,sN,sG gP n n,sN] 101
 iY:Ab u w 27 1 (sG gF n n) n (List.replicate n sN)
 jX:Ab u w 2 1 (sG gP n n) n (iv (λ_=>0) n)
 cq:Ah w w u
 ge: ↑w<=G
theorem sw.of{W:Y}(d:Ab W w 27 1 (sG a n n) n (List.replicate n sN))(e:Ab W w 2 1 (sG b n n) n (iv (λ_=>0) n))(c:Ah w w W):sw w (Ac W (Ak #[sN,sG a n n,sN,sG b n n,sN] 101)) n W a b:=⟨Ay.new _ _ _,AD d (Al _ _) lR,AD e (Al _ _) lR,Ar c lR (Al _ _),c.size⟩
def Fr(E:Nat->List Nat)(b k x:Nat):List Nat:=(((E b).take k).filter λy=>decide (y=x)).map λ_=>b
theorem LW(E:Nat->List Nat)(b x:Nat):Bo E (b+1) x=Bo E b x++Fr E b (E b).length x:=by unfold Bo Fr;rw[pA,mW];simp
theorem SD(E:Nat->List Nat)(b x:Nat):Fr E b 0 x=[]:=by simp[Fr]
theorem SC{y:Nat}(c:(E b)[k]?=K y)(x:Nat):Fr E b (k+1) x=if x=y then Fr E b k x++[b]else Fr E b k x:=by
 obtain⟨a,e⟩:=f7.1 c;unfold Fr;rw[mZ a,oy,nS,e];by_cases q:x=y
 . subst q;simp
 simp[q,Ne.symm q]
theorem N7(E:Nat->List Nat)(b k x:Nat):(Fr E b k x).length<=(E b).length:=by unfold Fr;rw[mQ];refine mC (o5 _ _) ?_;rw[nF];omega
theorem JS(a:∀b,(E b).length<=2)(b x:Nat):(Bo E b x).length<=2*b:=by
 induction b with
 |zero=>simp[Bo]
 | succ b e=>have c:=N7 E b (E b).length x;have d:=a b;rw[LW,mB];omega
structure NG(w w2 u:Y)(n G gF:Nat)(PV:J)(NV:J)(NS:List J)(FS:List (J×List Nat)):Prop where
 eI:Ay u G #[NV,sG gF n n,sN,PV,sN] 101
 jg:Ab u w2 27 1 NV NS NS
 iY:Ab u w 27 1 (sG gF n n) n (FS.map Prod.fst)
 fg:CO u w2 (FS.map λx=>(x.1,ints x.2))
 fx:∀k,k< ↑w2->k≠G->k≠gF->u.heap[k]?=w2.heap[k]?
 size:(w2:Nat)<= ↑u
 cq:Ah w w u
 lt: ↑w<=G/\G< ↑w2/\gF< ↑w2
theorem NG.av{l:Y}{f:Nat}{e d:J}{c:List J}{b:List (J×List Nat)}(h:NG w l u n G f e d c b)(a:Ah u u j):NG w l j n G f e d c b:=⟨h.eI.av a,AD h.jg a lR,AD h.iY a lR,h.fg.jA a, λk g m p=>by rw[a.block k (nH g h.size)];exact h.fx k g m p,mC h.size a.size,Ar h.cq lR a,h.lt⟩
theorem NG.next{w l u d:Y}{j g cap:Nat}{q p x:J}{b:List J}{m:List (J×List Nat)}(h:NG w l u n G j q p b m)(hw:(w:Nat)<= ↑l)(t:Ab d l 27 1 (sG g (b.length+1) cap) (b.length+1) (b++[x]))(c:u.grownBy d p.ownBlock):Ay d G #[p,sG j n n,sN,q,sN] 101/\NG w l (d.setCell G (sG g (b.length+1) cap)) n G j q (sG g (b.length+1) cap) (b++[x]) m:=by
 have f:=h.eI.grown c h.jg dC;have v:Ab d w 27 1 (sG j n n) n (m.map Prod.fst):=DF h.iY c (λy A e=>by have r:=(h.jg.lt y e.symm).1;simp only[Value.ownBlock,lX]at A;have:=h.lt.2.2;omega);have C:=h.fg.jr c h.jg dC;refine⟨f,?_,?_,?_,C.other f dC 0 _, λk s r z=> ?_,?_,?_,h.lt⟩
 . have:=f.set 0 (sG g (b.length+1) cap);simpa using this
 . rw[mB,mT];exact mR t (a:=⟨G,0,M⟩) (Lx f t dC) _
 . exact mR v (a:=⟨G,0,M⟩) (Lx f v dC) _
 . rw[oJ d _ k _ r,c.block k (nH s h.size) (λe=>by have:=(h.jg.lt k e.symm).1;omega)];exact h.fx k s r z
 . rw[oN];exact mC h.size c.size
 exact(h.cq.grown c h.cq.size (λi B=>mC hw (h.jg.lt i B).1)).setCell h.lt.1 _
theorem TX(A B:List α)(x y:α):(A++x::B).set A y=A++y::B:=by rw[pE _ _ lR,pG];rfl
theorem NG.jt{w m u f:Y}{n G d g cap y b:Nat}{v r:J}{q:List J}{c:List (J×List Nat)}{l:List Nat}(h:NG w m u n G d v r q c)(hw:(w:Nat)<= ↑m)(E:c[y]?=K (V,l))(R:Ab f m 2 1 (sG g (l.length+1) cap) (l.length+1) (nv l++[iZ (b:Int)]))(j:u.grownBy f V.ownBlock)(N:V.ownBlock=K g\/g= ↑u):Ab f w 27 1 (sG d n n) n (c.map Prod.fst)/\NG w m (Aa f ⟨d,y,M⟩ (sG g (l.length+1) cap)) n G d v r q (c.set y (sG g (l.length+1) cap,l++[b])):=by
 obtain⟨U,T⟩:=f7.1 E;have B:c=c.take y++(V,l)::c.drop (y+1):=by rw[<-T,<-oG U,n9]
 have P:(c.take y).length=y:=by rw[nF];omega
 have p:=h.fg.own (V,ints l) (mV.2 ⟨(V,l),lP E,rfl⟩);have F:=h.eI.grown j p dC;have H:Ab f m 27 1 r q q:=H9 h.jg j p dC;have s:Ab f w 27 1 (sG d n n) n (c.map Prod.fst):=H9 h.iY j p dC;have S:c.set y (sG g (l.length+1) cap,l++[b])=c.take y++(sG g (l.length+1) cap,l++[b])::c.drop (y+1):=by have:=TX (c.take y) (c.drop (y+1)) (V,l) (sG g (l.length+1) cap,l++[b]);rw[P,<-B]at this;exact this
 have t:CO f m ((c.set y (sG g (l.length+1) cap,l++[b])).map λx=>(x.1,ints x.2)):=by have z:=h.fg;rw[B,nS,nh]at z;rw[S,nS,nh];refine CO.grow (g:=g) z ?_ rfl j (N.imp id λe=>oM);simp only[];rw[A4,mB,mT,<-Er,Mk];exact R
 have W:=h.lt.2.2;have L:d≠G:= λe=>Lx F s dC (by rw[e];rfl)
 have Q:r.ownBlock≠K d:= λe=>by have:=(H.lt d e).1;omega
 refine⟨s,F.other (Ne.symm L) _,mR H (a:=⟨d,y,M⟩) Q _,?_,⟨λx D=> ?_,t.sep⟩, λk C I A=> ?_,?_,?_,h.lt⟩
 . have:=(s.stored y (sG g (l.length+1) cap)).1;rw[List.map_set];exact this
 . refine mR (t.own x D) (a:=⟨d,y,M⟩) (λe=> ?_) _;have:=((t.own x D).lt d e).1;omega
 . rw[oJ f _ k _ A,j.block k (nH C h.size) (λe=>by have:=(p.lt k e.symm).1;omega)];exact h.fx k C I A
 . rw[oN];exact mC h.size j.size
 exact(h.cq.grown j h.cq.size (λi O=>mC hw (p.lt i O).1)).setCell (AZ s).1 _
def La(p:MP)(a:Int)(l:ML):Prop:=AY p 0/\0<=a/\∃f r,p.aC[a.toNat]?=K f/\Ba f.aU r/\r.aU=0/\l∈r.cv
def Z7(p:MP)(a:Int)(l:ML)(f:MF)(r:DQ):Prop:=AY p 0/\0<=a/\p.aC[a.toNat]?=K f/\Ba f.aU r/\r.aU=0/\l∈r.cv
def qr(p:MP)(a:Int)(l:ML)(n:Int):Prop:=(¬La p a l/\n=7)\/∃f r,Z7 p a l f r/\A5 p a f.aU r.a7 l n
theorem Sz{xs:List MI}(h:Ba xs r):r.cv.length<=1024/\∀m∈r.cv,m.back.length<=1048576/\m.a7.length<=1048576:=by
 by_cases b:r.aU=0
 . have q:=h.iy b;exact⟨q.nl, λm a=>⟨by have:=(q.loop m a).2.2.2;omega,by have:=(q.loop m a).2.2.1;omega⟩⟩
 cases h with
 |none _=>exact⟨by simp[Hc], λm a=>by cases a⟩
 |off _ _ _=>exact⟨by simp[Hc], λm a=>by cases a⟩
 |lost _ _ _ _ _ _ _ _=>exact⟨by simp[Hc], λm a=>by cases a⟩
 |two _ _ _ _ _ _ _ _=>exact⟨by simp[Hc], λm a=>by cases a⟩
 |good _ _ _ _ _ _ _ _ _=>exact absurd rfl b
theorem A5.c1{c:Int}{xs:List MI}{b:List MB}{a:MB}(h:b[l.head.toNat]?=K a)(d:Cr p.bO c a.cz=M):A5 p c xs b l 1:=⟨a,h,.inl ⟨d,rfl⟩⟩
structure Ua(p:MP)(fi:Int)(xs:List MI)(bs:List MB)(l:ML)(hb:MB)(c:MT)(g:MI):Prop where
 kM:bs[l.head.toNat]?=K hb
 iP:Cr p.bO fi hb.cz=K c
 at_:xs[hb.cz.toNat]?=K g
theorem A5.c2{d:Int}{xs:List MI}{b:List MB}{e:MB}{c:MT}(h:Ua p d xs b l e c g)(f:¬(g.op=27/\g.a=c.dT)):A5 p d xs b l 2:=⟨e,h.kM,.inr ⟨c,g,h.iP,h.at_,.inl ⟨f,rfl⟩⟩⟩
theorem A5.c3{d:Int}{xs:List MI}{b:List MB}{e:MB}{c:MT}(h:Ua p d xs b l e c g)(f:g.op=27/\g.a=c.dT)(j:DV b l.a7 g.c):A5 p d xs b l 3:=⟨e,h.kM,.inr ⟨c,g,h.iP,h.at_,.inr ⟨f,.inl ⟨j,rfl⟩⟩⟩⟩
theorem A5.c4{xs:List MI}{b:List MB}{d:MB}{c:MT}(h:Ua p e xs b l d c g)(f:g.op=27/\g.a=c.dT)(j:¬DV b l.a7 g.c)(k:∃a,DV b l.a7 a/\a≠d.cz/\OT xs c.dT a):A5 p e xs b l 4:=⟨d,h.kM,.inr ⟨c,g,h.iP,h.at_,.inr ⟨f,.inr ⟨j,.inl ⟨k,rfl⟩⟩⟩⟩⟩
theorem A5.c5{xs:List MI}{b:List MB}{d:MB}{c:MT}(h:Ua p e xs b l d c g)(f:g.op=27/\g.a=c.dT)(j:¬DV b l.a7 g.c)(k:¬∃a,DV b l.a7 a/\a≠d.cz/\OT xs c.dT a)(m:l.head=0\/Kj p.b8 xs b l c):A5 p e xs b l 5:=⟨d,h.kM,.inr ⟨c,g,h.iP,h.at_,.inr ⟨f,.inr ⟨j,.inr ⟨k,.inl ⟨m,rfl⟩⟩⟩⟩⟩⟩
theorem A5.c0{xs:List MI}{b:List MB}{d:MB}{c:MT}(h:Ua p e xs b l d c g)(f:g.op=27/\g.a=c.dT)(j:¬DV b l.a7 g.c)(k:¬∃a,DV b l.a7 a/\a≠d.cz/\OT xs c.dT a)(m:¬(l.head=0\/Kj p.b8 xs b l c)):A5 p e xs b l 0:=⟨d,h.kM,.inr ⟨c,g,h.iP,h.at_,.inr ⟨f,.inr ⟨j,.inr ⟨k,.inr ⟨m,rfl⟩⟩⟩⟩⟩⟩
theorem Jv{a:Option Addr}{n c:Nat}{v:List ML}(h:Ln u (Z a n c) v){m:ML}(q:v[k]?=K m):∃g o b f d j,a=K ⟨g,o,M⟩/\u ⟨g,o+k*3,M⟩=K ↑m.head/\u ⟨g,o+k*3+1,M⟩=K (Z b m.back f)/\u ⟨g,o+k*3+2,M⟩=K (Z d m.a7 j)/\M3 u (m,Z b m.back f,Z d m.a7 j):=by
 obtain⟨xs,A,B,C⟩:=h;have G:=(f7.1 q).1;obtain⟨⟨H,I,L⟩,l,s⟩:∃x,xs[k]?=K x/\x.1=m:=by rw[<-A,mN]at q;exact nJ.1 q
 simp only[]at s;subst s;have r:=C _ (lP l);obtain⟨b,f,w⟩:=Rd.aD r.1;obtain⟨d,j,y⟩:=Rd.aD r.2;simp only[]at w y;subst w y;rcases B.2 with⟨e,_⟩|⟨z,F,cc,e,p⟩
 . omega
 simp only[lU]at e;have t:=Rd.elem FW p k _ l 0 _ rfl;have D:=Rd.elem FW p k _ l 1 _ rfl;have E:=Rd.elem FW p k _ l 2 _ rfl;rw[mL]at t;exact⟨z,F,b,f,d,j,e.1,t,D,E,r⟩
theorem JL.kY{f:Y}{c e d vl:J}(h:JL w c e d vl r)(b:Ah B w f)(a: ↑w<=B):JL f c e d vl r:=⟨h.a7.av b a,h.dr.av b a,h.fv.av b a,h.cv.av b a⟩
theorem XS{j l k vl:J}(h:JL w j l k vl r):∃d c1 e c2 f c3 g c4,j=Z d r.a7 c1/\l=Z e r.dr c2/\k=Z f r.fv c3/\vl=Z g r.cv c4:=by
 obtain⟨d,c1,m⟩:∃a c,j=Z a r.a7 c:=by obtain⟨_,_,b,_⟩:=h.a7;exact b.aD
 obtain⟨e,c2,n⟩:=h.dr.aD;obtain⟨f,c3,p⟩:=h.fv.aD;obtain⟨g,c4,q⟩:∃a c,vl=Z a r.cv c:=by obtain⟨_,_,b,_⟩:=h.cv;exact b.aD
 exact⟨d,c1,e,c2,f,c3,g,c4,m,n,p,q⟩
def Cd(p:MP)(f:MF)(x:MI)(a:List Int):Int:=if x.op=29 then(if a=Bn f then 0 else 5)else Hi p f x a
def D9(p:MP)(f:MF)(x:MI)(a:List Int):List Int:=if x.op=29 then[]else Mr p f x a
structure WS where
 c:Nat->Option (List Int)
 t:Nat->List Int
 d:Nat
def ET(T:Nat->List Int)(a:Nat)(b:List Int):Nat->List Int:= λj=>if j=a then b else T j
def PA(C:Nat->Option (List Int))(b:Nat)(a:List Int):Nat->Option (List Int):= λj=>if j=b then K a else C j
abbrev uc:=Sum (Int×Nat) (List Int×(Nat->List Int)×Nat)
def El(p:MP)(f:MF):Nat->Nat->List Int->(Nat->List Int)->Nat->uc
 |0,_,sh,T,D=>.inr (sh,T,D)
 | c+1,a,sh,T,D=>match f.aU[a]? with
   |none=>.inr (sh,T,D)
   |some x=>if Cd p f x sh=0 then El p f c (a+1) (D9 p f x sh) (ET T a sh) (max D (D9 p f x sh).length)else .inl (Cd p f x sh,a)
def Mg:List Nat->List Int->(Nat->Option (List Int))->Option (Nat->Option (List Int))
 |[],_,C=>K C
 | t::r,sh,C=>match C t with
   |none=>Mg r sh (PA C t sh)
   |some s=>if s=sh then Mg r sh C else M
abbrev qv:=Sum (Int×Nat) WS
def XZ(p:MP)(f:MF)(m:MB)(b:Nat)(s:WS):qv:=match El p f (m.last-m.cz+1).toNat m.cz.toNat ((s.c b).getD []) s.t s.d with
 |.inl e=>.inl e
 | .inr (sh,T,D)=>match Mg (m.next.map Int.toNat) sh s.c with
   |none=>.inl (4,m.last.toNat)
   |some C=>.inr ⟨C,T,D⟩
def J6(p:MP)(f:MF)(a:List MB):List Nat->WS->qv
 |[],s=>.inr s
 | b ::r,s=>match a[b]? with
   |none=>.inr s
   | some m=>match XZ p f m b s with
     |.inl e=>.inl e
     |.inr s'=>J6 p f a r s'
def Wb:WS:=⟨λb=>if b=0 then K []else M, λ_=>[],0⟩
structure R7 where
 aU:Int
 at_:Int
 depth:Int
 eC:List (List Int)
def RE(n:Nat):qv->R7
 |.inl (c,a)=>⟨c,(a:Int),0,[]⟩
 |.inr s=>⟨0,0,(s.d:Int),(List.range n).map s.t⟩
def Lp(p:MP)(a:Int)(y:R7):Prop:=(¬PY p a/\y=⟨6,0,0,[]⟩)\/(AY p 0/\0<=a/\∃f r,p.aC[a.toNat]?=K f/\Ba f.aU r/\r.aU=0/\y=RE f.aU.length (J6 p f r.a7 (r.dr.map Int.toNat) Wb))
theorem Lp.one{c:Int}{y k:R7}(h:Lp p c y)(m:Lp p c k):y=k:=by
 rcases h with⟨a,rfl⟩|⟨s,u,f,r,d,g,n,rfl⟩<;>rcases m with⟨a',rfl⟩|⟨t,v,l,w,b,j,q,rfl⟩
 . rfl
 . exact absurd ⟨t,v,l,b,w,j,q⟩ a
 . exact absurd ⟨s,u,f,d,r,g,n⟩ a'
 rw[d]at b;have e:=mD b;subst e;have e:=g.one j;subst e;rfl
theorem Ul{L:List Nat}{m:MB}(r:L.Pairwise (· < ·))(z:∀x∈L,x<n)(h:(build L n)[b]?=K m)(f:m.cz<(i:Int))(g:(i:Int)<=m.last):i∉L:=by
 unfold build at h;rw[oR]at h;cases e1:L[b]? with
 |none=>rw[e1]at h;simp at h
 | some a=>
   cases e2:(L.tail++[n])[b]? with
   |none=>rw[e1,e2]at h;simp at h
   | some q=>
     rw[e1,e2]at h;simp only[lX]at h;subst h;simp only[]at f g;intro l;obtain⟨j,p⟩:=nB l;obtain⟨t,v⟩:=f7.1 e1;obtain⟨d,w⟩:=f7.1 p;have c:=oH.1 r;have y:b<j:=by
      apply mr;intro A;by_cases e:j=b
      . subst e;omega
      have:=c j b d t oM;omega
     (have k:L[b+1]?=K q:=by rw[<-e2,mq oT];cases L<;>simp);obtain⟨s,u⟩:=f7.1 k;by_cases e:j=b+1
     . subst e;omega
     have:=c (b+1) j s d oM;omega
theorem Ov{xs:List MI}{m:MB}(h:(AR xs)[b]?=K m):∃a,(build (CY xs xs) xs)[b]?=K a/\m.cz=a.cz/\m.last=a.last:=by unfold AR at h;rw[mN]at h;obtain⟨a,c,rfl⟩:=nJ.1 h;rw[Cu]at c;exact⟨a,c,rfl,rfl⟩
theorem NX{xs:List MI}{b t:Nat}{m j:MB}(h:(AR xs)[b]?=K m)(v:(AR xs)[t]?=K j)(y:b≠t):¬(m.cz<=j.cz/\j.cz<=m.last):=by
 obtain⟨N,l,D,F⟩:=Ov h;obtain⟨O,f,E,G⟩:=Ov v;rintro⟨H,I⟩;have p:∀{c:Nat} {k:MB},(build (CY xs xs) xs)[c]?=K k->∃a,(CY xs xs)[c]?=K a/\k.cz=(a:Int):=by
  intro c k d;unfold build at d;rw[oR]at d;cases f:(CY xs xs)[c]? with
  |none=>rw[f]at d;simp at d
  | some a=>
    cases e2:((CY xs xs).tail++[xs.length])[c]? with
    |none=>rw[f,e2]at d;simp at d
    | some q=>rw[f,e2]at d;simp only[lX]at d;subst d;exact⟨a,rfl,rfl⟩
 obtain⟨a,w,A⟩:=p l;obtain⟨a',n,B⟩:=p f;have r:=oH.1 (DC xs xs);obtain⟨s,C⟩:=f7.1 w;obtain⟨u,et⟩:=f7.1 n;have L:a≠a':=by
  intro e;rcases Nat.lt_or_gt_of_ne y with g|g
  . have:=r b t s u g;omega
  have:=r t b u s g;omega
 exact Ul (DC _ _) (λx z=>((Df _ _ _).1 z).1) l (i:=a') oM oM (lP n)
structure Ij(w u:Y)(v:VP)(M:Nat)(t:Int)(d:Bool)(c n:Int)(X:VS)(hv:J):Prop where
 pb:Ay u w #[v.r,v.k,v.f,v.t] 40
 mb:∃cur,Ay u M cur 87/\V7 cur t d c n X hv
 cq:Ah w w u
 hM: ↑w+1<M
theorem Ij.av{f:Y}{t:Int}{d:Bool}{c n:Int}{e:J}(h:Ij w u v b t d c n X e)(a:Ah u u f):Ij w f v b t d c n X e:=by obtain⟨g,j,k⟩:=h.mb;exact⟨h.pb.av a,⟨g,j.av a,k⟩,Ar h.cq lR a,h.hM⟩
theorem Ij.c7{t:Int}{d:Bool}{c n:Int}{e:J}(h:Ij w u v a t d c n X e):u ⟨a,7,M⟩=K e/\u.frozen? ⟨a,7,M⟩=false:=by obtain⟨g,b,f⟩:=h.mb;exact⟨(b.cell 7).trans f.c7,b.frozen 7⟩
theorem Ij.k7{t:Int}{d:Bool}{c n:Int}{f:J}(h:Ij w u v a t d c n X f)(z:J):Ij w (Aa u ⟨a,7,M⟩ z) v a t d c n X z:=by obtain⟨g,b,e⟩:=h.mb;have j:=h.hM;exact⟨h.pb.other oS _,⟨_,b.set 7 z,e.k7 z⟩,h.cq.setCell oS _,h.hM⟩
theorem tq:(Tryz.prog.info? 138).map (λi=>(i.zero,i.size,i.bytes))=K (K (An #[Z M 0 0,Z M 0 0,Z M 0 0,Z M 0 0,Z M 0 0,Ag Af 0,Z M 0 0,Z M 0 0,Z M 0 0]),9,200):=kR
theorem qJ{d f:Array J}{e c:Aj}(h:Ay u b d e)(a:Ay u b f c):e=c:=by
 unfold Ay at h a;rw[h]at a;injection a with a
 injection a with _ a _
theorem Mj(v:VP)(p:MP)(B:Nat)(t:Int)(d:Bool)(c n:Int)(X:VS)(w:Y)(hB:B<= ↑w)(aY:p.small)(hP:Eb w v p)(ys:List (MF×VF))(aZ:ys.map Prod.fst=p.aC)(bf:∀u,Ah B w u->Rd u 4 v.f p.aC (Ad GH ys))(bg:∀x∈ys,(∀u,Ah B w u->FD u x.2 x.1)/\BR x.2.p/\BR x.2.l):
 Ai Aq 18 #[An #[v.r,v.k,v.f,v.t],An #[t,d,c,n,X.c,X.k,X.f]] w λe w'=>∃(I:Nat) (hv:J) (ai:Array J) (H:List (MF×(VF×J))),e=Am (.pointer I)/\ ↑w<=I/\Ay w' I ai 87/\V7 ai t d c n X hv/\(∀k,k<30->ai[128+k]?=(BT I)[k]?)/\BM w' B B v p.aC hv H/\Ah w w w':=by
 obtain⟨q,s,er⟩:=(show∃a c,v.r=Z a p.az c from by obtain⟨_,_,h2,_⟩:=hP.az;exact h2.aD);obtain⟨b,m,ek⟩:=hP.b8.aD;obtain⟨z,A,et⟩:=hP.bO.aD;obtain⟨f1,f3,ef⟩:=(show∃a c,v.f=Z a p.aC c from by obtain⟨_,_,h2,_⟩:=hP.aC;exact h2.aD);obtain⟨vr,vk,vf,vt⟩:=v;obtain⟨O,P,x3⟩:=X;simp only[]at er ek et ef;subst er ek et ef;have HY:Ae (ys.map Prod.fst=p.aC/\(∀u,Ah B w u->Rd u 4 (Z f1 p.aC f3) p.aC (Ad GH ys))/\∀x∈ys,(∀u,Ah B w u->FD u x.2 x.1)/\BR x.2.p/\BR x.2.l):=⟨aZ,bf,bg⟩
 have HS:Ae (p.small):=aY;obtain⟨i0,hi,bG,bH,bI⟩:=nE tq;clear aZ bf bg hP aY;have E0:Ae (Ay (Ac (Ac w (Ak #[Z q p.az s,Z b p.b8 m,Z f1 p.aC f3,Z z p.bO A] 40)) (Ak #[t,d,c,n,O,P,x3] 48)) w #[Z q p.az s,Z b p.b8 m,Z f1 p.aC f3,Z z p.bO A] 40/\Ay (Ac (Ac w (Ak #[Z q p.az s,Z b p.b8 m,Z f1 p.aC f3,Z z p.bO A] 40)) (Ak #[t,d,c,n,O,P,x3] 48)) ((w:Nat)+1) #[t,d,c,n,O,P,x3] 48/\Ah w w (Ac (Ac w (Ak #[Z q p.az s,Z b p.b8 m,Z f1 p.aC f3,Z z p.bO A] 40)) (Ak #[t,d,c,n,O,P,x3] 48))):=by
  have b1:=Al w (Ak #[Z q p.az s,Z b p.b8 m,Z f1 p.aC f3,Z z p.bO A] 40);have bi:=Ay.new w #[Z q p.az s,Z b p.b8 m,Z f1 p.aC f3,Z z p.bO A] 40;generalize bq:Ac w (Ak #[Z q p.az s,Z b p.b8 m,Z f1 p.aC f3,Z z p.bO A] 40)=U1 at b1 bi⊢;have z1:(U1:Nat)= ↑w+1:=by rw[<-bq];simp
  have b2:=Al U1 (Ak #[t,d,c,n,O,P,x3] 48);have k2:=Ay.new U1 #[t,d,c,n,O,P,x3] 48;rw[z1]at k2;exact⟨bi.av b2,k2,Ar b1 lR b2⟩
 go_enter func18,ntmps18;go_upto_region 1 with fail
 refine Av (λu=>Ae (Ay u w #[Z q p.az s,Z b p.b8 m,Z f1 p.aC f3,Z z p.bO A] 40/\Ay u ((w:Nat)+1) #[t,d,c,n,O,P,x3] 48/\Ah w w u)) E0 ?_
 rintro U0 E1;clear E0;have m0:=E1.2.1.cell 0;have m1:=E1.2.1.cell 1;have m2:=E1.2.1.cell 2;have m3:=E1.2.1.cell 3;have m4:=E1.2.1.cell 4;have m5:=E1.2.1.cell 5;have m6:=E1.2.1.cell 6;simp only[lQ,lO,lS]at m0 m1 m2 m3 m4 m5 m6;have bD:=As U0;have d0:=Au bD m0;have d1:=Au bD m1;have d2:=Au bD m2;have d3:=Au bD m3;have d4:=Au bD m4;have d5:=Au bD m5;have d6:=Au bD m6;clear m0 m1 m2 m3 m4 m5 m6;go_upto_region 1 with fail
 have KD:U0.drew ⟨(w:Nat)+1,0,M⟩=K ↑t/\U0.drew ⟨(w:Nat)+1,1,M⟩=K ↑d/\U0.drew ⟨(w:Nat)+1,2,M⟩=K ↑c/\U0.drew ⟨(w:Nat)+1,3,M⟩=K ↑n/\U0.drew ⟨(w:Nat)+1,4,M⟩=K O/\U0.drew ⟨(w:Nat)+1,5,M⟩=K P/\U0.drew ⟨(w:Nat)+1,6,M⟩=K x3:=⟨d0,d1,d2,d3,d4,d5,d6⟩
 refine wp_region_held_drew (S:= λw'=>w'.cell? ⟨(w:Nat)+1,0,M⟩=K ↑t/\w'.cell? ⟨(w:Nat)+1,1,M⟩=K ↑d/\w'.cell? ⟨(w:Nat)+1,2,M⟩=K ↑c/\w'.cell? ⟨(w:Nat)+1,3,M⟩=K ↑n/\w'.cell? ⟨(w:Nat)+1,4,M⟩=K O/\w'.cell? ⟨(w:Nat)+1,5,M⟩=K P/\w'.cell? ⟨(w:Nat)+1,6,M⟩=K x3) kR KD (λaa=> ?_)
 refine wpAnyH_take (i:=0) (v:= ?_) rfl kR kR kR (λ_ _ _ h=>h) (Or.inl ⟨by rfl,?_⟩) (by assumption) ?_;rotate_left
 . (intro w Q;(try dsimp only at Q);go_simp;(try with_reducible rfl))
 refine wpAnyH_ready (rs:=[1]) kR sP ?_;refine AllReadyH.cons rfl (λR C=> ?_) AllReadyH.nil;go_simp;go_wp2_with (go_at_call 45;refine(Mp _).mono ?_;rintro e u1 ⟨rfl,b1⟩);have KE:u1 ⟨(w:Nat)+1,0,M⟩=K ↑t/\u1 ⟨(w:Nat)+1,1,M⟩=K ↑d/\u1 ⟨(w:Nat)+1,2,M⟩=K ↑c/\u1 ⟨(w:Nat)+1,3,M⟩=K ↑n/\u1 ⟨(w:Nat)+1,4,M⟩=K O/\u1 ⟨(w:Nat)+1,5,M⟩=K P/\u1 ⟨(w:Nat)+1,6,M⟩=K x3:=⟨Au b1 d0,Au b1 d1,Au b1 d2,Au b1 d3,Au b1 d4,Au b1 d5,Au b1 d6⟩
 have B1:Ae (Ah U0 U0 u1):=Br b1 lR;clear b1;refine C.out _ _ KE (λaa=> ?_);clear C R;refine wpAnyH_take (i:=2) (v:=An (BF t d c n ⟨O,P,x3⟩)) rfl kR kR kR (λ_ _ _ h=>h) (Or.inl ⟨by rfl,?_⟩) (by assumption) ?_
 . intro w Q;kernel_rfl
 have KF:(Ac u1 (Ak (BF t d c n ⟨O,P,x3⟩) 87)) ⟨(w:Nat)+1,0,M⟩=K ↑t/\(Ac u1 (Ak (BF t d c n ⟨O,P,x3⟩) 87)) ⟨(w:Nat)+1,1,M⟩=K ↑d/\(Ac u1 (Ak (BF t d c n ⟨O,P,x3⟩) 87)) ⟨(w:Nat)+1,2,M⟩=K ↑c/\(Ac u1 (Ak (BF t d c n ⟨O,P,x3⟩) 87)) ⟨(w:Nat)+1,3,M⟩=K ↑n/\(Ac u1 (Ak (BF t d c n ⟨O,P,x3⟩) 87)) ⟨(w:Nat)+1,4,M⟩=K O/\(Ac u1 (Ak (BF t d c n ⟨O,P,x3⟩) 87)) ⟨(w:Nat)+1,5,M⟩=K P/\(Ac u1 (Ak (BF t d c n ⟨O,P,x3⟩) 87)) ⟨(w:Nat)+1,6,M⟩=K x3:=by obtain⟨e0,e1,e2,e3,e4,e5,e6⟩:=KE;have b2:=Al u1 (Ak (BF t d c n ⟨O,P,x3⟩) 87);exact⟨Au b2 e0,Au b2 e1,Au b2 e2,Au b2 e3,Au b2 e4,Au b2 e5,Au b2 e6⟩
 refine wpAnyH_ready (rs:=[3]) kR sP ?_;refine AllReadyH.cons rfl (λR C=> ?_) AllReadyH.nil;go_simp;refine C.out _ _ KF (λaa=> ?_);clear C R;refine wpAnyH_take (i:=4) (v:= ?_) rfl kR kR kR (λ_ _ _ h=>h) (Or.inl ⟨by rfl,?_⟩) (by assumption) ?_;rotate_left
 . (intro w Q;(try dsimp only at Q);go_simp;(try with_reducible rfl))
 refine wpAnyH_done kR ?_ _;have aS:(w:Nat)+1<u1.heap.size:=nH E1.2.1.lt B1.size;have E2:Ae (Ij w (Ac u1 (Ak (BF t d c n ⟨O,P,x3⟩) 87)) ⟨Z q p.az s,Z b p.b8 m,Z f1 p.aC f3,Z z p.bO A⟩ u1 t d c n ⟨O,P,x3⟩ (Z M 0 0)/\BM (Ac u1 (Ak (BF t d c n ⟨O,P,x3⟩) 87)) w B ⟨Z q p.az s,Z b p.b8 m,Z f1 p.aC f3,Z z p.bO A⟩ [] (Z M 0 0) []):=⟨⟨(E1.1.av B1).av (Al _ _),⟨_,Ay.new _ _ _,V7.start _ _ _ _ _⟩,Ar (Ar E1.2.2 lR B1) lR (Al _ _),aS⟩,rfl,mX _ _ _ _, λr hr=>by simp at hr⟩
 clear KD KE KF d0 d1 d2 d3 d4 d5 d6 bD E1 B1 aS;go_upto_region 2 with fail
 generalize u1.heap.size=I at E2⊢;refine Av (λu=>Ae (Ij w u ⟨Z q p.az s,Z b p.b8 m,Z f1 p.aC f3,Z z p.bO A⟩ I t d c n ⟨O,P,x3⟩ (Z M 0 0)/\BM u w B ⟨Z q p.az s,Z b p.b8 m,Z f1 p.aC f3,Z z p.bO A⟩ [] (Z M 0 0) [])) E2 ?_
 rintro U1 E3;clear E2;have p2:=E3.1.pb.cell 2;simp only[lQ,lO,lS]at p2;go_wp2_with fail;go_loopw [15] (λi wr=>∃(k:Nat) (hv:J) (H:List (MF×(VF×J))),k<= ↑p.aC/\i=Ag Af k/\Ae (Ij w wr ⟨Z q p.az s,Z b p.b8 m,Z f1 p.aC f3,Z z p.bO A⟩ I t d c n ⟨O,P,x3⟩ hv/\BM wr w B ⟨Z q p.az s,Z b p.b8 m,Z f1 p.aC f3,Z z p.bO A⟩ (p.aC.take k) hv H)) (λi _=> ↑p.aC-(intOf i).toNat)
 case atStart=>exact⟨0,_,[],oM,rfl,E3.1,by simpa using E3.2⟩
 clear E3 p2;obtain⟨k,hv,H,hk,rfl,HI⟩:=hrel;have bS:=HS.aC;by_cases bx:k< ↑p.aC
 . obtain⟨⟨f,g⟩,hx⟩:∃x,ys[k]?=K x:=⟨_,an (by rw[<-mQ (f:=Prod.fst),HY.1];exact bx)⟩;have aI:=FU HY.1 hx;have aj:=HY.2.2 _ (lP hx);simp only[]at aj aI;have bw:Ah B w wr:=HI.1.cq.mono hB;obtain⟨D,E,aM⟩:=(aj.1 w (mP B w)).1.aD;obtain⟨F,G,aO⟩:=(aj.1 w (mP B w)).2.1.aD;obtain⟨L,N,aQ⟩:=(aj.1 w (mP B w)).2.2.aD;obtain⟨gp,gl,gc⟩:=g;simp only[]at aM aO aQ;subst aM aO aQ;have aW:f.small:=HS.func f (lP aI);rcases(HY.2.1 wr bw).2 with⟨e0,_⟩|⟨gk,ok,ck,e1,aE⟩
   . omega
   simp only[lU,mj]at e1;obtain⟨rfl,rfl⟩:=e1;have j0:=Rd.elem AK aE k _ hx 0 _ rfl;have j1:=Rd.elem AK aE k _ hx 1 _ rfl;have j2:=Rd.elem AK aE k _ hx 2 _ rfl;have j3:=Rd.elem AK aE k _ hx 3 _ rfl;simp only[mL]at j0 j1 j2 j3;obtain⟨ah,ch,rfl⟩:=AF HI.2.2.1;have aR: ↑H=k:=by have:=congrArg List.length HI.2.1;simp at this;omega
   have HD:Ae (p.aC[k]?=K f/\(∀u,Ah B w u->FD u ⟨Z D f.aP E,Z F f.aB G,Z L f.aU N⟩ f)/\BR (Z D f.aP E)/\BR (Z F f.aB G)/\f.small/\ ↑H=k):=⟨aI,aj.1,aj.2.1,aj.2.2,aW,aR⟩
   have EN:Ae (Ij w (Ac wr (Ak #[Z D f.aP E,f.cu,Z F f.aB G,Z L f.aU N] 34)) ⟨Z q p.az s,Z b p.b8 m,Z (K ⟨gk,ok,M⟩) p.aC f3,Z z p.bO A⟩ I t d c n ⟨O,P,x3⟩ (Z ah H ch)/\BM (Ac wr (Ak #[Z D f.aP E,f.cu,Z F f.aB G,Z L f.aU N] 34)) w B ⟨Z q p.az s,Z b p.b8 m,Z (K ⟨gk,ok,M⟩) p.aC f3,Z z p.bO A⟩ (p.aC.take k) (Z ah H ch) H/\Ay (Ac wr (Ak #[Z D f.aP E,f.cu,Z F f.aB G,Z L f.aU N] 34)) wr #[Z D f.aP E,f.cu,Z F f.aB G,Z L f.aU N] 34):=⟨HI.1.av (Al _ _),HI.2.av (mC hB HI.1.cq.size) (Al _ _),Ay.new _ _ _⟩
   clear aE hx aj aI aW aR HI bw;have bQ:(k:Int)<(p.aC:Int):=oM;(go_upto_region 5 with fail);generalize wr.heap.size=V at EN⊢;refine Av (λu=>Ae (Ij w u ⟨Z q p.az s,Z b p.b8 m,Z (K ⟨gk,ok,M⟩) p.aC f3,Z z p.bO A⟩ I t d c n ⟨O,P,x3⟩ (Z ah H ch)/\BM u w B ⟨Z q p.az s,Z b p.b8 m,Z (K ⟨gk,ok,M⟩) p.aC f3,Z z p.bO A⟩ (p.aC.take k) (Z ah H ch) H/\Ay u V #[Z D f.aP E,f.cu,Z F f.aB G,Z L f.aU N] 34)) EN ?_
   rintro U E4;clear EN j0 j1 j2 j3;have q0:=E4.1.pb.cell 0;have q1:=E4.1.pb.cell 1;have q2:=E4.1.pb.cell 2;have q3:=E4.1.pb.cell 3;have y0:=E4.2.2.cell 0;have y1:=E4.2.2.cell 1;have y2:=E4.2.2.cell 2;have y3:=E4.2.2.cell 3;obtain⟨m7,_⟩:=E4.1.c7;simp only[lQ,lO,lS]at q0 q1 q2 q3 y0 y1 y2 y3;have bD:=As U;have bT:=Au bD m7;have KD:U.drew w=K (Z q p.az s)/\U.drew ⟨w,1,M⟩=K (Z b p.b8 m)/\U.drew ⟨w,2,M⟩=K (Z (K ⟨gk,ok,M⟩) p.aC f3)/\U.drew ⟨w,3,M⟩=K (Z z p.bO A)/\U.drew V=K (Z D f.aP E)/\U.drew ⟨V,1,M⟩=K ↑f.cu/\U.drew ⟨V,2,M⟩=K (Z F f.aB G)/\U.drew ⟨V,3,M⟩=K (Z L f.aU N):=⟨Au bD q0,Au bD q1,Au bD q2,Au bD q3,Au bD y0,Au bD y1,Au bD y2,Au bD y3⟩
   have HC:Ae (∀u,Ah U U u->u.cell? w=K (Z q p.az s)/\u.cell? ⟨w,1,M⟩=K (Z b p.b8 m)/\u.cell? ⟨w,2,M⟩=K (Z (K ⟨gk,ok,M⟩) p.aC f3)/\u.cell? ⟨w,3,M⟩=K (Z z p.bO A)/\u.cell? V=K (Z D f.aP E)/\u.cell? ⟨V,1,M⟩=K ↑f.cu/\u.cell? ⟨V,2,M⟩=K (Z F f.aB G)/\u.cell? ⟨V,3,M⟩=K (Z L f.aU N)):= λu hb=>⟨Au hb q0,Au hb q1,Au hb q2,Au hb q3,Au hb y0,Au hb y1,Au hb y2,Au hb y3⟩
   (have aG:Ae (∀u,Ah U U u->u.cell? ⟨I,7,M⟩=K (Z ah H ch)):= λu hb=>Au hb m7);clear q0 q1 q2 q3 y0 y1 y2 y3 m7;refine wp_region_held_drew (S:= λw'=>w'.cell? w=K (Z q p.az s)/\w'.cell? ⟨w,1,M⟩=K (Z b p.b8 m)/\w'.cell? ⟨w,2,M⟩=K (Z (K ⟨gk,ok,M⟩) p.aC f3)/\w'.cell? ⟨w,3,M⟩=K (Z z p.bO A)/\w'.cell? V=K (Z D f.aP E)/\w'.cell? ⟨V,1,M⟩=K ↑f.cu/\w'.cell? ⟨V,2,M⟩=K (Z F f.aB G)/\w'.cell? ⟨V,3,M⟩=K (Z L f.aU N)) kR KD (λaa=> ?_)
   refine wpAnyH_take (i:=0) (v:= ?_) rfl kR kR kR (λ_ _ _ h=>h) (Or.inl ⟨by rfl,?_⟩) (by assumption) ?_;rotate_left
   . (intro w Q;(try dsimp only at Q);go_simp;(try with_reducible rfl))
   refine wpAnyH_take (i:=1) (v:= ?_) rfl kR kR kR (λ_ _ _ h=>h) (Or.inl ⟨by rfl,?_⟩) (by assumption) ?_;rotate_left
   . (intro w Q;(try dsimp only at Q);go_simp;(try with_reducible rfl))
   refine wpAnyH_take (i:=2) (v:= ?_) rfl kR kR kR (λ_ _ _ h=>h) (Or.inl ⟨by rfl,?_⟩) (by assumption) ?_;rotate_left
   . (intro w Q;(try dsimp only at Q);go_simp;(try with_reducible rfl))
   refine wpAnyH_take (i:=3) (v:= ?_) rfl kR kR kR (λ_ _ _ h=>h) (Or.inl ⟨by rfl,?_⟩) (by assumption) ?_;rotate_left
   . (intro w Q;(try dsimp only at Q);go_simp;(try with_reducible rfl))
   refine wpAnyH_take (i:=5) (v:= ?_) rfl kR kR kR (λ_ _ _ h=>h) (Or.inl ⟨by rfl,?_⟩) (by assumption) ?_;rotate_left
   . (intro w Q;(try dsimp only at Q);go_simp;(try with_reducible rfl))
   refine wpAnyH_take (i:=6) (v:= ?_) rfl kR kR kR (λ_ _ _ h=>h) (Or.inl ⟨by rfl,?_⟩) (by assumption) ?_;rotate_left
   . (intro w Q;(try dsimp only at Q);go_simp;(try with_reducible rfl))
   refine wpAnyH_take (i:=7) (v:= ?_) rfl kR kR kR (λ_ _ _ h=>h) (Or.inl ⟨by rfl,?_⟩) (by assumption) ?_;rotate_left
   . (intro w Q;(try dsimp only at Q);go_simp;(try with_reducible rfl))
   refine wpAnyH_take (i:=8) (v:= ?_) rfl kR kR kR (λ_ _ _ h=>h) (Or.inl ⟨by rfl,?_⟩) (by assumption) ?_;rotate_left
   . (intro w Q;(try dsimp only at Q);go_simp;(try with_reducible rfl))
   refine wpAnyH_ready (rs:=[4,9]) kR sP ?_;refine AllReadyH.cons rfl (λR C=> ?_) (AllReadyH.cons rfl (λR C=> ?_) AllReadyH.nil);focus
    go_simp;refine C.out _ _ KD (λaa=> ?_);clear C R;refine wpAnyH_ready (rs:=[9]) kR sP ?_;refine AllReadyH.cons rfl (λR C=> ?_) AllReadyH.nil;go_simp;go_wp2_with (go_at_call 42;refine(GO ⟨Z D f.aP E,Z F f.aB G,Z L f.aU N⟩ f _ HD.2.2.2.2.1 (HD.2.1 _ ((E4.1.cq.trans (As U|>.mono E4.1.cq.size)).mono hB)) HD.2.2.1 HD.2.2.2.1).mono ?_;rintro e T ⟨lv,rfl,aq,b6⟩;obtain⟨W,l2,rfl⟩:=AF aq);have B6:Ae (Ah U U T/\Ab T w 2 1 (Z W (f.aP.length+ ↑f.aB) l2) (f.aP.length+ ↑f.aB) (Ad At (f.aP++f.aB))):=⟨Br b6 lR,Bm aq E4.1.cq.size⟩
    have B7:Ae (Ah U U (Ac T (Ak #[Z q p.az s,Z b p.b8 m,Z (K ⟨gk,ok,M⟩) p.aC f3,Z z p.bO A,Z D f.aP E,f.cu,Z F f.aB G,Z L f.aU N,Z W (f.aP.length+ ↑f.aB) l2] 138))/\Ab (Ac T (Ak #[Z q p.az s,Z b p.b8 m,Z (K ⟨gk,ok,M⟩) p.aC f3,Z z p.bO A,Z D f.aP E,f.cu,Z F f.aB G,Z L f.aU N,Z W (f.aP.length+ ↑f.aB) l2] 138)) w 138 9 (Z ah H ch) H (H.flatMap (Cj ⟨Z q p.az s,Z b p.b8 m,Z (K ⟨gk,ok,M⟩) p.aC f3,Z z p.bO A⟩))/\(∀j y,(Cj ⟨Z q p.az s,Z b p.b8 m,Z (K ⟨gk,ok,M⟩) p.aC f3,Z z p.bO A⟩ (f,((⟨Z D f.aP E,Z F f.aB G,Z L f.aU N⟩:VF),Z W (f.aP.length+ ↑f.aB) l2)))[j]?=K y->(Ac T (Ak #[Z q p.az s,Z b p.b8 m,Z (K ⟨gk,ok,M⟩) p.aC f3,Z z p.bO A,Z D f.aP E,f.cu,Z F f.aB G,Z L f.aU N,Z W (f.aP.length+ ↑f.aB) l2] 138)) ((⟨T,0,M⟩:Addr).add j)=K y)/\ ↑w<=(Ac T (Ak #[Z q p.az s,Z b p.b8 m,Z (K ⟨gk,ok,M⟩) p.aC f3,Z z p.bO A,Z D f.aP E,f.cu,Z F f.aB G,Z L f.aU N,Z W (f.aP.length+ ↑f.aB) l2] 138)).heap.size):=by
     have b7:=Ar B6.1 lR (Al T (Ak #[Z q p.az s,Z b p.b8 m,Z (K ⟨gk,ok,M⟩) p.aC f3,Z z p.bO A,Z D f.aP E,f.cu,Z F f.aB G,Z L f.aU N,Z W (f.aP.length+ ↑f.aB) l2] 138))
     refine⟨b7,AD E4.2.1.2.1 b7 lR, λj y hj=> ?_,mC E4.1.cq.size b7.size⟩;rw[Cq,m9,pD _ _ _ _ _ _ (Fp T #[Z q p.az s,Z b p.b8 m,Z (K ⟨gk,ok,M⟩) p.aC f3,Z z p.bO A,Z D f.aP E,f.cu,Z F f.aB G,Z L f.aU N,Z W (f.aP.length+ ↑f.aB) l2] 138)]
     simpa[Cj]using hj
    have KE:=HC.o T B6.1;have ax:=HC.o _ B7.1;have bJ:=aG.o T B6.1;have bP:=aG.o _ B7.1;clear aq b6;refine C.out _ _ KE (λaa=> ?_);clear C R;refine wpAnyH_take (i:=10) (v:= ?_) rfl kR kR kR (λ_ _ _ h=>h) (Or.inl ⟨by rfl,?_⟩) (by assumption) ?_;rotate_left
    . (intro w Q;(try dsimp only at Q);go_simp;(try with_reducible rfl))
    refine wpAnyH_ready (rs:=[11]) kR sP ?_;refine AllReadyH.cons rfl (λR C=> ?_) AllReadyH.nil;go_simp;refine C.out _ _ ax (λaa=> ?_);clear C R;refine wpAnyH_ready (rs:=[12]) kR sP ?_;refine AllReadyH.cons rfl (λR C=> ?_) AllReadyH.nil
   rotate_left;focus
    go_simp;go_wp2_with (go_at_call 42;refine(GO ⟨Z D f.aP E,Z F f.aB G,Z L f.aU N⟩ f _ HD.2.2.2.2.1 (HD.2.1 _ ((E4.1.cq.trans (As U|>.mono E4.1.cq.size)).mono hB)) HD.2.2.1 HD.2.2.2.1).mono ?_;rintro e T ⟨lv,rfl,aq,b6⟩;obtain⟨W,l2,rfl⟩:=AF aq);have B6:Ae (Ah U U T/\Ab T w 2 1 (Z W (f.aP.length+ ↑f.aB) l2) (f.aP.length+ ↑f.aB) (Ad At (f.aP++f.aB))):=⟨Br b6 lR,Bm aq E4.1.cq.size⟩
    have B7:Ae (Ah U U (Ac T (Ak #[Z q p.az s,Z b p.b8 m,Z (K ⟨gk,ok,M⟩) p.aC f3,Z z p.bO A,Z D f.aP E,f.cu,Z F f.aB G,Z L f.aU N,Z W (f.aP.length+ ↑f.aB) l2] 138))/\Ab (Ac T (Ak #[Z q p.az s,Z b p.b8 m,Z (K ⟨gk,ok,M⟩) p.aC f3,Z z p.bO A,Z D f.aP E,f.cu,Z F f.aB G,Z L f.aU N,Z W (f.aP.length+ ↑f.aB) l2] 138)) w 138 9 (Z ah H ch) H (H.flatMap (Cj ⟨Z q p.az s,Z b p.b8 m,Z (K ⟨gk,ok,M⟩) p.aC f3,Z z p.bO A⟩))/\(∀j y,(Cj ⟨Z q p.az s,Z b p.b8 m,Z (K ⟨gk,ok,M⟩) p.aC f3,Z z p.bO A⟩ (f,((⟨Z D f.aP E,Z F f.aB G,Z L f.aU N⟩:VF),Z W (f.aP.length+ ↑f.aB) l2)))[j]?=K y->(Ac T (Ak #[Z q p.az s,Z b p.b8 m,Z (K ⟨gk,ok,M⟩) p.aC f3,Z z p.bO A,Z D f.aP E,f.cu,Z F f.aB G,Z L f.aU N,Z W (f.aP.length+ ↑f.aB) l2] 138)) ((⟨T,0,M⟩:Addr).add j)=K y)/\ ↑w<=(Ac T (Ak #[Z q p.az s,Z b p.b8 m,Z (K ⟨gk,ok,M⟩) p.aC f3,Z z p.bO A,Z D f.aP E,f.cu,Z F f.aB G,Z L f.aU N,Z W (f.aP.length+ ↑f.aB) l2] 138)).heap.size):=by
     have b7:=Ar B6.1 lR (Al T (Ak #[Z q p.az s,Z b p.b8 m,Z (K ⟨gk,ok,M⟩) p.aC f3,Z z p.bO A,Z D f.aP E,f.cu,Z F f.aB G,Z L f.aU N,Z W (f.aP.length+ ↑f.aB) l2] 138))
     refine⟨b7,AD E4.2.1.2.1 b7 lR, λj y hj=> ?_,mC E4.1.cq.size b7.size⟩;rw[Cq,m9,pD _ _ _ _ _ _ (Fp T #[Z q p.az s,Z b p.b8 m,Z (K ⟨gk,ok,M⟩) p.aC f3,Z z p.bO A,Z D f.aP E,f.cu,Z F f.aB G,Z L f.aU N,Z W (f.aP.length+ ↑f.aB) l2] 138)]
     simpa[Cj]using hj
    have KE:=HC.o T B6.1;have ax:=HC.o _ B7.1;have bJ:=aG.o T B6.1;have bP:=aG.o _ B7.1;clear aq b6;refine C.out _ _ KE (λaa=> ?_);clear C R;refine wpAnyH_take (i:=10) (v:= ?_) rfl kR kR kR (λ_ _ _ h=>h) (Or.inl ⟨by rfl,?_⟩) (by assumption) ?_;rotate_left
    . (intro w Q;(try dsimp only at Q);go_simp;(try with_reducible rfl))
    refine wpAnyH_ready (rs:=[4,11]) kR sP ?_;refine AllReadyH.cons rfl (λR C=> ?_) (AllReadyH.cons rfl (λR C=> ?_) AllReadyH.nil);focus
     go_simp;refine C.out _ _ KE (λaa=> ?_);clear C R;refine wpAnyH_ready (rs:=[11]) kR sP ?_;refine AllReadyH.cons rfl (λR C=> ?_) AllReadyH.nil;go_simp;refine C.out _ _ ax (λaa=> ?_);clear C R;refine wpAnyH_ready (rs:=[12]) kR sP ?_;refine AllReadyH.cons rfl (λR C=> ?_) AllReadyH.nil
    rotate_left;focus
     go_simp;refine C.out _ _ ax (λaa=> ?_);clear C R;refine wpAnyH_ready (rs:=[4]) kR sP ?_;refine AllReadyH.cons rfl (λR C=> ?_) AllReadyH.nil;go_simp;refine C.out _ _ ax (λaa=> ?_);clear C R;refine wpAnyH_ready (rs:=[12]) kR sP ?_;refine AllReadyH.cons rfl (λR C=> ?_) AllReadyH.nil
   all_goals
    refine step_append_lies _ rfl (.tmp 23) (.tmp 30) 76 rfl w 138 i0 (An #[Z M 0 0,Z M 0 0,Z M 0 0,Z M 0 0,Z M 0 0,Ag Af 0,Z M 0 0,Z M 0 0,Z M 0 0]) 9 200 underlying76 hi bG bH bI rfl dC (Z ah H ch) H (H.flatMap (Cj ⟨Z q p.az s,Z b p.b8 m,Z (K ⟨gk,ok,M⟩) p.aC f3,Z z p.bO A⟩)) oE B7.2.1 T 1 1 (Cj ⟨Z q p.az s,Z b p.b8 m,Z (K ⟨gk,ok,M⟩) p.aC f3,Z z p.bO A⟩ (f,((⟨Z D f.aP E,Z F f.aB G,Z L f.aU N⟩:VF),Z W (f.aP.length+ ↑f.aB) l2))) oE rfl B7.2.2.1 (λu hu=>by simp[Cj]at hu;rcases hu with rfl|rfl|rfl|rfl|rfl|rfl|rfl|rfl|rfl<;>rfl) oM (by have:=HD.2.2.2.2.2;unfold maxLen;omega) (by have:=HD.2.2.2.2.2;omega) B7.2.2.2 _ rfl ?_
    intro gg cap u8 aX au br bB;have N8:Ae (Ij w u8 ⟨Z q p.az s,Z b p.b8 m,Z (K ⟨gk,ok,M⟩) p.aC f3,Z z p.bO A⟩ I t d c n ⟨O,P,x3⟩ (Z ah H ch)/\BM u8 w B ⟨Z q p.az s,Z b p.b8 m,Z (K ⟨gk,ok,M⟩) p.aC f3,Z z p.bO A⟩ (p.aC.take k++[f]) (Z gg (H.length+1) cap) (H++[(f,((⟨Z D f.aP E,Z F f.aB G,Z L f.aU N⟩:VF),Z W (f.aP.length+ ↑f.aB) l2))])/\Ay u8 V #[Z D f.aP E,f.cu,Z F f.aB G,Z L f.aU N] 34/\u8 w=K (Z q p.az s)/\u8 ⟨w,1,M⟩=K (Z b p.b8 m)/\u8 ⟨w,2,M⟩=K (Z (K ⟨gk,ok,M⟩) p.aC f3)/\u8 ⟨w,3,M⟩=K (Z z p.bO A)/\u8 V=K (Z D f.aP E)/\u8 ⟨V,1,M⟩=K ↑f.cu/\u8 ⟨V,2,M⟩=K (Z F f.aB G)/\u8 ⟨V,3,M⟩=K (Z L f.aU N)):=by have n7:=E4.1.av B7.1;obtain⟨ai,ae,aT⟩:=n7.mb;have aF:=n7.pb.grown au B7.2.1 dC;have aA:=(E4.2.2.av B7.1).grown au B7.2.1 dC;refine⟨⟨aF,⟨ai,ae.grown au B7.2.1 dC,aT⟩,n7.cq.grown au n7.cq.size (λj hj=>(B7.2.1.lt j hj).1),n7.hM⟩,BM.push E4.2.1 hB (mC hB E4.1.cq.size) B7.1 (x:=(f,((⟨Z D f.aP E,Z F f.aB G,Z L f.aU N⟩:VF),Z W (f.aP.length+ ↑f.aB) l2))) (λu' bC=>HD.2.1 u' ((E4.1.cq.mono hB).trans bC)) (AD B6.2 (Al _ _) lR) au aX,aA,aF.cell 0,aF.cell 1,aF.cell 2,aF.cell 3,aA.cell 0,aA.cell 1,aA.cell 2,aA.cell 3⟩
    have y7:=N8.1.c7.1;have y8:=N8.1.c7.2;have KU:=N8.2.2.2;clear aX au br bB;refine C.out _ _ KU (λaa=> ?_);clear C R;refine wpAnyH_take (i:=13) (v:= ?_) rfl kR kR kR (λ_ _ _ h=>h) (Or.inl ⟨by rfl,?_⟩) (by assumption) ?_;rotate_left
    . (intro w Q;(try dsimp only at Q);go_simp;(try with_reducible rfl))
    refine wpAnyH_take (i:=14) (v:= ?_) rfl kR kR kR (λ_ _ _ h=>h) (Or.inl ⟨by rfl,?_⟩) (by assumption) ?_;rotate_left
    . (intro w Q;(try dsimp only at Q);go_simp;(try with_reducible rfl))
    refine wpAnyH_ready (rs:=[15]) kR sP ?_;refine AllReadyH.cons rfl (λR C=> ?_) AllReadyH.nil;go_simp;have N9:Ae (Ij w (Aa u8 ⟨I,7,M⟩ (Z gg (H.length+1) cap)) ⟨Z q p.az s,Z b p.b8 m,Z (K ⟨gk,ok,M⟩) p.aC f3,Z z p.bO A⟩ I t d c n ⟨O,P,x3⟩ (Z gg (H.length+1) cap)/\BM (Aa u8 ⟨I,7,M⟩ (Z gg (H.length+1) cap)) w B ⟨Z q p.az s,Z b p.b8 m,Z (K ⟨gk,ok,M⟩) p.aC f3,Z z p.bO A⟩ (p.aC.take (k+1)) (Z gg (H.length+1) cap) (H++[(f,((⟨Z D f.aP E,Z F f.aB G,Z L f.aU N⟩:VF),Z W (f.aP.length+ ↑f.aB) l2))])):=by obtain⟨ai,ae,aT⟩:=N8.1.mb;have hM:=N8.1.hM;refine⟨N8.1.k7 _,?_⟩;rw[Ox _ k _ HD.1];exact N8.2.1.ji ae oM 7 _
    have KV:(Aa u8 ⟨I,7,M⟩ (Z gg (H.length+1) cap)) w=K (Z q p.az s)/\(Aa u8 ⟨I,7,M⟩ (Z gg (H.length+1) cap)) ⟨w,1,M⟩=K (Z b p.b8 m)/\(Aa u8 ⟨I,7,M⟩ (Z gg (H.length+1) cap)) ⟨w,2,M⟩=K (Z (K ⟨gk,ok,M⟩) p.aC f3)/\(Aa u8 ⟨I,7,M⟩ (Z gg (H.length+1) cap)) ⟨w,3,M⟩=K (Z z p.bO A)/\(Aa u8 ⟨I,7,M⟩ (Z gg (H.length+1) cap)) V=K (Z D f.aP E)/\(Aa u8 ⟨I,7,M⟩ (Z gg (H.length+1) cap)) ⟨V,1,M⟩=K ↑f.cu/\(Aa u8 ⟨I,7,M⟩ (Z gg (H.length+1) cap)) ⟨V,2,M⟩=K (Z F f.aB G)/\(Aa u8 ⟨I,7,M⟩ (Z gg (H.length+1) cap)) ⟨V,3,M⟩=K (Z L f.aU N):=by have hM:=N8.1.hM;have aJ:=N9.1.pb;(have bj:V≠I:= λe=>by obtain⟨ai,ae,_⟩:=E4.1.mb;rw[<-e]at ae;exact absurd (qJ ae E4.2.2) dC);have aH:=N8.2.2.1.other (a:=⟨I,7,M⟩) (by simpa using bj) (Z gg (H.length+1) cap);exact⟨aJ.cell 0,aJ.cell 1,aJ.cell 2,aJ.cell 3,aH.cell 0,aH.cell 1,aH.cell 2,aH.cell 3⟩
    refine C.out _ _ KV (λaa=> ?_);clear C R;refine wpAnyH_done kR ?_ _;go_wp2;go_roundw;(case rel=>exact⟨k+1,_,_,oM,by go_num,N9.1,N9.2⟩);exact oI
 have bu:k=p.aC.length:=oM;have E5:Ae (Ij w wr ⟨Z q p.az s,Z b p.b8 m,Z f1 p.aC f3,Z z p.bO A⟩ I t d c n ⟨O,P,x3⟩ hv/\BM wr w B ⟨Z q p.az s,Z b p.b8 m,Z f1 p.aC f3,Z z p.bO A⟩ p.aC hv H):=by have h2:=HI.o;rw[bu,List.take_length]at h2;exact h2
 clear HI;go_upto_region 7 with fail
 go_wp2_with (first
  |(go_at_call 46;refine(Lr I _).mono ?_;rintro e u9 ⟨rfl,b9⟩;obtain⟨ai,ae,aK⟩:=(E5.1.av b9).mb)
  |(show wpList _ _ _ ({dst:=M,op:=Op.store 85 _ _,type:=_,pos:=_,after:=_,guard:=_}::_) _ _;refine JE rfl 85 (.tmp 39) (.tmp 37) rfl I 128 (BT I) rfl rfl 87 ai ae kR (by rw[aK.size,Io];omega) kR ?_))
 have hM:=E5.1.hM;have h8:=E5.2.av (mC hB E5.1.cq.size) b9;have bt:=Ar E5.1.cq lR b9;refine mM (v:=.pointer I) (by simp[results,results18,go_sem]) rfl ⟨I,hv,_,H,rfl,oM,setRow_heap _ _ _ _ _ _ ae,by have:=(aK.ju I).1;rw[nD]at this;exact this,by have:=(aK.ju I).2;rw[nD]at this;exact this,?_,below_setRow bt oM _⟩;exact(h8.row ae oM _).base hB
structure BL(w U:Y)(v:VP)(vm:VM)(x y:Nat)(V zl:J)(zs:List MC)(C:List (J×List MC)):Prop where
 args:JH w U v vm
 st:Ay U x #[Ag Af 0,false,Ag Af 0,Ag Af 0,V,Z M 0 0,Z y 1 1] 48
 fr:Ay U y #[Ag Af 0,Ag Af 0,Ag Af 0,zl] 132
 row:Ab U w 45 1 V C (Ad Jy C)
 fg:Co U w (C++[(zl,zs)])
 kZ: ↑w+1+1<x
 yge: ↑w+1+1<y
theorem Co.av{a:Y}(h:Co u B L)(b:Ah u u a):Co a B L:=⟨λr c=>AD (h.own r c) b lR,h.sep⟩
theorem BL.av{b:Y}{c:VM}{x y:Nat}{V d:J}{e:List MC}{C:List (J×List MC)}(h:BL w u v c x y V d e C)(a:Ah u u b):BL w b v c x y V d e C:=⟨h.args.av a,h.st.av a,h.fr.av a,AD h.row a lR,h.fg.av a,h.kZ,h.yge⟩
theorem Co.add{C:List (J×List MC)}{z:J×List MC}{b:J}{d:List MC}(h:Co u B (C++[z]))(m:Ah u u j)(n:Ab j u 193 2 b d (Ad MC.cells d))(p:B<= ↑u):Co j B (C++[(b,d)]++[z]):=by
 have l:∀r∈C++[z],ID (b,d) r:=by intro r c g q e;have s:=n.lt g q;have t:=(h.own r c).lt g e;omega
 refine⟨?_,?_⟩
 . intro r c;simp only[mA,lW,lZ,mS]at c;rcases c with(c|rfl)|rfl
   . exact AD (h.own r (by simp[c])) m lR
   . exact Ms n p
   exact AD (h.own r sP) m lR
 have f:=h.sep;rw[nI]at f;rw[nD,nI];refine⟨f.1,?_,?_⟩
 . simp only[nW,nO,my,lW,lZ,mS,forall_eq];exact⟨l z sP,sP,List.Pairwise.nil⟩
 intro a k r c;simp only[nW,nO,lW,lZ,mS]at c;rcases c with rfl|rfl
 . exact(l a (by simp[k])).symm
 exact f.2.2 a k _ sP
theorem Co.grown{f:Y}{j:Nat}{xs:List J}(h:Co u B L)(l:u.grownBy f V.ownBlock)(p:Ab u j 45 1 V n xs):Co f B L:=⟨λr d=>C6 (h.own r d) l (λg a e=>by
 obtain⟨b,k⟩:∃b,u.heap[g]?=K (Obj.cells b 193 (0,0)):=by
  rcases(h.own r d).2 with⟨c,_⟩|⟨q,cap,b,c,_,m,_⟩
  . rw[c]at a;cases a
  rw[c]at a;simp only[Value.ownBlock,lX]at a;subst a;exact⟨b,m⟩
 exact Bi p k dC g e.symm rfl),h.sep⟩
theorem Co.nil{C D:List (J×List MC)}(h:Co u B (C++D)):Co u B (C++[((Z M 0 0:J),[])]++D):=by
 refine⟨?_,?_⟩
 . intro r b;simp only[mA,lW,lZ,mS]at b;rcases b with(b|rfl)|b
   . exact h.own r (by simp[b])
   . exact mX _ _ _ _
   exact h.own r (by simp[b])
 have c:=h.sep;rw[nI]at c;rw[nD,nI];refine⟨c.1,?_,?_⟩
 . simp only[nW,nO,my];exact⟨λa _ g d=>(by cases d),c.2.1⟩
 intro a f r b;simp only[nW,nO,lW]at b;rcases b with rfl|b
 . exact λg d e=>by cases e
 exact c.2.2 a f _ b
theorem JH.grown{w u c:Y}{d:VM}{xs:List J}(h:JH w u v d)(a:u.grownBy c V.ownBlock)(b:Ab u w 45 1 V n xs):JH w c v d:=⟨h.pb.grown a b dC,h.mb.grown a b dC,h.rb.grown a b dC,h.cq.grown a h.cq.size (λj e=>(b.lt j e).1)⟩
theorem BL.next{e:Y}{l:VM}{x y n:Nat}{V c f b:J}{g j:List MC}{C:List (J×List MC)}(h:BL w u v l x y V f g C)(m:Co u w (C++[(b,j)]++[(f,g)]))(d:u.grownBy e V.ownBlock)(q:Ab e w 45 1 c n (Ad Jy C++[b]))(p:n= ↑C+1):BL w (Aa e ⟨x,4,M⟩ c) v l x y c f g (C++[(b,j)]):=by have st:=h.st.grown d h.row dC;have k:=h.fr.grown d h.row dC;refine⟨(h.args.grown d h.row).set h.kZ 4 c,st.set 4 c,k.other (a:=⟨x,4,M⟩) (YC st k dC) c,?_,(m.grown d h.row).iW st 4 c,h.kZ,h.yge⟩;rw[mB,mT,<-p,mW];exact GT q st dC 4 c
theorem BL.of{k:VM}{a:J}{e:List MC}(h:JH w u v k)(n:Ab u w 193 2 a e (Ad MC.cells e)):BL w (Ac (Ac u (Ak #[Ag Af 0,Ag Af 0,Ag Af 0,a] 132)) (Ak #[Ag Af 0,false,Ag Af 0,Ag Af 0,Z M 0 0,Z M 0 0,Z u 1 1] 48)) v k ((u:Nat)+1) u (Z M 0 0) a e []:=by
 have c:=Al u (Ak #[Ag Af 0,Ag Af 0,Ag Af 0,a] 132);have g:=Ay.new u #[Ag Af 0,Ag Af 0,Ag Af 0,a] 132;generalize l:Ac u (Ak #[Ag Af 0,Ag Af 0,Ag Af 0,a] 132)=b at c g⊢;have p:(b:Nat)= ↑u+1:=by rw[<-l];simp
 have d:=Al b (Ak #[Ag Af 0,false,Ag Af 0,Ag Af 0,Z M 0 0,Z M 0 0,Z u 1 1] 48);have j:=Ay.new b #[Ag Af 0,false,Ag Af 0,Ag Af 0,Z M 0 0,Z M 0 0,Z u 1 1] 48;rw[p]at j;have m:=h.lt;refine⟨(h.av c).av d,j,g.av d,mX _ _ _ _,⟨?_,sP⟩,oM,m⟩;intro r f;simp only[nO,lW,lZ,mS]at f;subst f;exact AD (AD n c lR) d lR
theorem BL.own{U:Y}{c:VM}{x y:Nat}{a:J}{b:List MC}{C:List (J×List MC)}(h:BL w U v c x y V a b C):AB U w ⟨V,Z M 0 0,Z y 1 1⟩ C [] [(⟨0,0,0,b⟩,a)]:=⟨h.row,⟨rfl,.inr ⟨y,1,_,rfl,by have:=h.yge;omega,h.fr,Nat.le_refl _,oX,rfl,rfl⟩⟩,Co.nil h.fg⟩
theorem Mt(w:Y)(B:Nat):AB w B ⟨Z M 0 0,Z M 0 0,Z M 0 0⟩ [] [] []:=⟨mX _ _ _ _,mX _ _ _ _,Co.nil (C:=[]) (D:=[]) ⟨λr a=>(by cases a),List.Pairwise.nil⟩⟩
theorem VJ{a:Option Addr}{n c:Nat}{p:List (List Int)}(h:D8 u (Z a n c) p)(B:n= ↑p){b:List Int}(d:p[i]?=K b):∃j k l g,a=K ⟨j,k,M⟩/\u ⟨j,k+i,M⟩=K (Z l b g)/\Rd u 1 (Z l b g) b (Ad At b)/\ ↑b<=g:=by
 obtain⟨xs,s,t,v⟩:=h;have A:=(f7.1 d).1;obtain⟨x,f,z⟩:∃x,xs[i]?=K x/\x.1=b:=by
  rw[<-s,mN]at d;cases f:xs[i]? with
  |none=>rw[f]at d;cases d
  |some x=>rw[f]at d;exact⟨x,rfl,mD d⟩
 subst z;rcases t.2 with⟨e,_⟩|⟨j,k,cc,e,w⟩
 . omega
 simp only[lU]at e;have m:=Rd.elem Dx w i _ f 0 _ rfl;rw[nX,mL]at m;obtain⟨q,l,g,r,y⟩:=v x (lP f);rw[r]at m q;exact⟨j,k,l,g,e.1,m,q,y⟩
def NM(xs:List MI)(C C':List Int):Prop:=C.length= ↑C'/\∀x∈xs,x.op=28->cf C x.a.toNat=cf C' x.a.toNat
section
variable {xs:List MI} {C C':List Int} {x:MI} {m:MB}
theorem NM.symm(h:NM xs C C'):NM xs C' C:=⟨h.1.symm, λx a e=>(h.2 x a e).symm⟩
theorem NM.cc(h:NM xs C C')(b:x∈xs)(a:OK C x):OK C' x:= λe=>by have:=a e;rw[<-h.1,<-h.2 x b e];exact this
theorem NM.ic(h:NM xs C C')(a:x∈xs):Gm C x=Gm C' x:=by
 unfold Gm;by_cases e:x.op=28
 . rw[mE e,mE e,h.2 x a e]
 rw[lY e,lY e]
theorem NM.sum(h:NM xs C C')(a:Nat):∀k,FH xs C a k=FH xs C' a k
 |0=>rfl
 | k+1=>by
   unfold FH;rw[h.sum a k];cases e:xs[a+k]? with
   |none=>rfl
   |some x=>simp only[h.ic (lP e)]
theorem NM.bc(h:NM xs C C'):Cm xs C=Cm xs C':=funext λm=>h.sum _ _
theorem NM.bad(h:NM xs C C')(a:FF xs C m):FF xs C' m:=by
 rcases a with⟨j,x,c,d,b,e⟩|a
 . exact .inl ⟨j,x,c,d,b, λq=>e (h.symm.cc (lP b) q)⟩
 right;rw[<-h.bc];exact a
theorem NM.fcv{c:Int}{v:Int}(h:NM xs C C')(e:RY p c C xs r v):RY p c C' xs r v:=by
 rcases e with⟨a|⟨m,b,a⟩,rfl⟩|⟨a,d,O,D,L,sl,g,f,s1,c1⟩
 . exact .inl ⟨.inl a,rfl⟩
 . exact .inl ⟨.inr ⟨m,b,h.bad a⟩,rfl⟩
 rw[h.bc]at c1;exact .inr ⟨a, λm b q=>d m b (h.symm.bad q),O,D,L,sl,g,f,s1,c1⟩
end
theorem GZ.ag{C C':List Int}{v:Int}(l:p.aC[q]?=K f)(h:NM f.aU C C')(m:GZ p (q:Int) C v):GZ p (q:Int) C' v:=by
 rcases m with k|⟨n,r,b,c,a,d,g,j⟩
 . exact .inl k
 have e:=a;rw[lV,l]at e;cases e
 exact .inr ⟨f,r,b,c,a,d,g,h.fcv j⟩
def He{α:Type}(P:α->Prop)(xs:List α)(x:α):Prop:=∃k:Nat,xs[k]?=K x/\P x/\∀(j:Nat) y,j<k->xs[j]?=K y->¬P y
theorem He.one{P:α->Prop}{xs:List α}{x y:α}(h:He P xs x)(d:He P xs y):x=y:=by
 obtain⟨k,b,f,j⟩:=h;obtain⟨c,a,g,l⟩:=d;rcases Nat.lt_trichotomy k c with e|rfl|e
 . exact absurd f (l k x e b)
 . rw[b]at a;exact mD a
 exact absurd g (j c y e a)
theorem He.no{P:α->Prop}{xs:List α}{x:α}(h:He P xs x)(c:∀y∈xs,¬P y):False:=by obtain⟨k,a,b,_⟩:=h;exact c x (lP a) b
def se(p:MP)(q:Nat)(xs:List MI)(a:List MB)(l:ML):Prop:=∃k,k≠0/\A5 p (q:Int) xs a l k
def Ud(q:Nat)(r:DQ)(t:MT):Prop:=t.func=(q:Int)/\∀l∈r.cv,∀m,r.a7[l.head.toNat]?=K m->m.cz≠t.head
def WA(p:MP)(b:List (List Int))(D:List Int)(k:Nat)(x:MI):Int:=IntKind.i64.wrap (IntKind.i64.wrap ((((b[k]?).getD []).length:Int)-(match p.aC[x.a.toNat]? with|some g=>(g.aP:Int)|none=>0))+cf D x.a.toNat)
def Ha(p:MP)(xs:List MI)(b:List (List Int))(D:List Int)(a:Int):Nat->Int
 |0=>a
 |k+1=>match xs[k]? with|some x=>if x.op=28 then max (Ha p xs b D a k) (WA p b D k x)else Ha p xs b D a k|none=>Ha p xs b D a k
def IQ(p:MP)(f:MF)(y:R7)(D:List Int):Int:=Ha p f.aU y.eC D y.depth f.aU
theorem TD{xs:List MI}{d:List (List Int)}{D b:List Int}{c:Int}(h:NM xs D b):∀k,Ha p xs d D c k=Ha p xs d b c k
 |0=>rfl
 | k + 1=>by
   unfold Ha;rw[TD h k];cases e:xs[k]? with
   |none=>rfl
   | some x=>
     simp only[];by_cases a:x.op=28
     . rw[mE a,mE a];unfold WA;rw[h.2 x (lP e) a]
     rw[lY a,lY a]
def RR (p:MP)(q:Nat)(C D:List Int)(c a v d:Int):Prop:=∃f r,p.aC[q]?=K f/\Ba f.aU r/\
 ((r.aU≠0/\c=3/\a=r.at_)\/(r.aU=0/\∃y,Lp p (q:Int) y/\
   ((y.aU≠0/\c=4/\a=y.at_)\/(y.aU=0/\
     ((∃ l m,He (se p q f.aU r.a7) r.cv l/\r.a7[l.head.toNat]?=K m/\c=5/\a=m.cz)\/((∀l∈r.cv,¬se p q f.aU r.a7 l)/\
       ((∃t,He (Ud q r) p.bO t/\c=6/\a=t.head)\/((∀t∈p.bO,¬Ud q r t)/\
         ∃z,GZ p (q:Int) C z/\((z<0/\c=7/\a=0)\/(0<=z/\((64<IQ p f y D/\c=8/\a=0)\/(IQ p f y D<=64/\c=0/\a=0/\v=z/\d=IQ p f y D))))))))))))
theorem RR.one{C D C' s:List Int}{c a v d c' a' v' F:Int}{f0:MF}(L:p.aC[q]?=K f0)(hC:NM f0.aU C C')(hD:NM f0.aU D s)(h:RR p q C D c a v d)(T:RR p q C' s c' a' v' F):c=c'/\a=a'/\(c=0->v=v'/\d=F):=by
 obtain⟨f,r,H,U,W⟩:=h;obtain⟨f',r',I,V,X⟩:=T;rw[L]at H I;cases H
 cases I
 obtain rfl:=U.one V;rcases W with⟨u,rfl,rfl⟩|⟨u,y,P,Q⟩<;>rcases X with⟨B,rfl,rfl⟩|⟨B,y',k2,k3⟩
 . exact⟨rfl,rfl, λe=>by cases e⟩
 . exact absurd B u
 . exact absurd u B
 obtain rfl:=P.one k2;rcases Q with⟨w,rfl,rfl⟩|⟨w,R⟩<;>rcases k3 with⟨E,rfl,rfl⟩|⟨E,k5⟩
 . exact⟨rfl,rfl, λe=>by cases e⟩
 . exact absurd E w
 . exact absurd w E
 rcases R with⟨l,m,b,A,rfl,rfl⟩|⟨b,A⟩<;>rcases k5 with⟨l',m',j,k,rfl,rfl⟩|⟨j,k⟩
 . obtain rfl:=b.one j;rw[A]at k;(cases k);exact⟨rfl,rfl, λe=>by cases e⟩
 . exact(b.no j).elim
 . exact(j.no b).elim
 rcases A with⟨t,g,rfl,rfl⟩|⟨g,z,S,G⟩<;>rcases k with⟨t',n,rfl,rfl⟩|⟨n,z',k9,aa⟩
 . obtain rfl:=g.one n;exact⟨rfl,rfl, λe=>by cases e⟩
 . exact(g.no n).elim
 . exact(n.no g).elim
 obtain rfl:z=z':=(S.ag L hC).one k9;have e:IQ p f0 y D=IQ p f0 y s:=TD hD _;rw[e]at G;rcases G with⟨N,rfl,rfl⟩|⟨N,⟨O,rfl,rfl⟩|⟨O,rfl,rfl,rfl,rfl⟩⟩<;>rcases aa with⟨ae,rfl,rfl⟩|⟨ae,⟨ai,rfl,rfl⟩|⟨ai,rfl,rfl,rfl,rfl⟩⟩<;>first|exact⟨rfl,rfl, λ_=>⟨rfl,rfl⟩⟩|exact⟨rfl,rfl, λe=>absurd e dC⟩|omega
theorem RR.a0{C D:List Int}{a v d:Int}(h:RR p q C D 0 a v d):a=0:=by
 obtain⟨f,r,_,_,h⟩:=h;rcases h with⟨_,h,_⟩|⟨_,y,_,h⟩
 . cases h
 rcases h with⟨_,h,_⟩|⟨_,h⟩
 . cases h
 rcases h with⟨_,_,_,_,h,_⟩|⟨_,h⟩
 . cases h
 rcases h with⟨_,_,h,_⟩|⟨_,z,_,h⟩
 . cases h
 rcases h with⟨_,h,_⟩|⟨_,⟨_,h,_⟩|⟨_,_,h,_⟩⟩
 . cases h
 . cases h
 exact h
inductive Tr (p:MP):List Nat->List Int->List Int->Int->Int->Int->List Int->List Int->Prop
 |nil {C D:List Int}:Tr p [] C D 0 0 0 C D
 |bad {q:Nat} {r:List Nat} {C D:List Int} {c a v d:Int}:RR p q C D c a v d->c≠0->Tr p (q::r) C D c (q:Int) a [] []
 |step {q:Nat} {r:List Nat} {C D C' D':List Int} {c g a v d:Int}:RR p q C D 0 0 v d->Tr p r (C.set q v) (D.set q d) c g a C' D'->Tr p (q::r) C D c g a C' D'
def qk(fs:List MF):List Nat->List Nat->Prop
 |_,[]=>True
 |done,q::r=>q< ↑fs/\(∀f,fs[q]?=K f->∀a∈Jh f,∃n∈done,a=((n:Nat):Int))/\qk fs (q::done) r
theorem Ld{C:List Int}{q c:Nat}{v:Int}(h:q< ↑C):cf (C.set q v) c=if c=q then v else cf C c:=Hg (an h)
theorem Tr.one{o:List Nat}{C D A B:List Int}{c g a:Int}(h:Tr p o C D c g a A B):∀{done:List Nat} {C' z C2 s:List Int} {c' F a':Int},qk p.aC done o->C.length= ↑p.aC->C'.length= ↑p.aC->D.length= ↑p.aC->z.length= ↑p.aC->(∀n∈done,cf C n=cf C' n/\cf D n=cf z n)->Tr p o C' z c' F a' C2 s->
 c=c'/\g=F/\a=a'/\(c≠0->A=C2/\B=s)/\(c=0->A.length= ↑p.aC/\C2.length= ↑p.aC/\B.length= ↑p.aC/\s.length= ↑p.aC/\∀n,n∈done\/n∈o->cf A n=cf C2 n/\cf B n=cf s n):=by
 have O:∀{q:Nat} {done:List Nat} {C C':List Int} {f:MF},p.aC[q]?=K f->(∀f,p.aC[q]?=K f->∀a∈Jh f,∃n∈done,a=((n:Nat):Int))->C.length= ↑p.aC->C'.length= ↑p.aC->(∀n∈done,cf C n=cf C' n)->NM f.aU C C':= λj L l m k=>⟨l.trans m.symm, λx U S=>by obtain⟨n,b,e⟩:=L _ j x.a (mV.2 ⟨x,oP.2 ⟨U,by simpa using S⟩,rfl⟩);rw[e,lV];exact k n b⟩
 induction h with
 | nil=>intro done C' z C2 s c' F a' _ l m t u k G;(cases G);exact⟨rfl,rfl,rfl, λe=>absurd rfl e, λ_=>⟨l,m,t,u, λn b=>k n (b.resolve_right sP)⟩⟩
 | @bad q r C D c a v d hO hc=>
   intro done C' z C2 s c' F a' L l m t u k G;obtain⟨y,N,P⟩:=L;have j:=an y;(have H:=O j N l m λn b=>(k n b).1);(have I:=O j N t u λn b=>(k n b).2);cases G with
   | bad w hc'=>obtain⟨E,Q,_⟩:=hO.one j H I w;exact⟨E,rfl,Q, λ_=>⟨rfl,rfl⟩, λe=>absurd e hc⟩
   | step w _=>obtain⟨E,_,_⟩:=hO.one j H I w;exact absurd E hc
 | @step q r C D A B c g a v d hO hr ih=>
   intro done C' z C2 s c' F a' L l m t u k G;obtain⟨y,N,P⟩:=L;have j:=an y;(have H:=O j N l m λn b=>(k n b).1);(have I:=O j N t u λn b=>(k n b).2);cases G with
   | bad w hc'=>obtain⟨E,_,_⟩:=hO.one j H I w;exact absurd E.symm hc'
   | step w T=>
     obtain⟨_,_,R⟩:=hO.one j H I w;obtain⟨rfl,rfl⟩:=R rfl;obtain⟨V,W,X,i4,i5⟩:=ih P (by rw[mF];exact l) (by rw[mF];exact m) (by rw[mF];exact t) (by rw[mF];exact u) (λn b=>by
      rw[Ld (by rw[l];exact y),Ld (by rw[m];exact y),Ld (by rw[t];exact y),Ld (by rw[u];exact y)];by_cases e:n=q
      . simp only[mE e,and_self]
      simp only[lY e];exact k n ((lW.1 b).resolve_left e)) T
     refine⟨V,W,X,i4, λe=> ?_⟩;obtain⟨j1,j2,j3,j4,j5⟩:=i5 e;refine⟨j1,j2,j3,j4, λn b=>j5 n ?_⟩;rcases b with b|b
     . exact .inl (nA _ b)
     rcases lW.1 b with rfl|b
     . exact .inl (nG ..)
     exact .inr b
theorem Xw{a:Int}{l:List Nat}(h:a∈ints l):∃n∈l,a=((n:Nat):Int):=by obtain⟨n,b,e⟩:=mV.1 h;exact⟨n,b,e.symm⟩
theorem Mq{fs:List MF}:∀(k:Nat) (done:List Nat),Ej fs k (ints done)≠[]-> ↑done+k= ↑fs->(∀n∈done,n< ↑fs)->done.Nodup->∃r,Ej fs k (ints done)=ints (done++r)/\qk fs done.reverse r/\(∀n,n< ↑fs->n∈done++r)
 | 0,done,_,hl,h,hd=>by refine⟨[],by rw[nm];rfl,trivial, λn c=> ?_⟩;rw[nm];have m:=Hv done fs h hd;have d:Bq done fs=0:=oM;unfold Bq at d;rw[List.length_eq_zero_iff,List.filter_eq_nil_iff]at d;have:=d n (nN.2 c);simpa using this
 | k + 1,done,hne,hl,h,hd=>by
   unfold Ej at hne⊢;cases e:Hs fs (ints done)with
   |none=>rw[e]at hne;exact absurd rfl hne
   | some i=>
     rw[e]at hne;simp only[]at hne⊢;(have j:i<fs.length:=by have:=List.mem_of_find?_eq_some e;simpa using this);have g:=List.find?_some e;unfold FX at g;rw[an j]at g;simp only[mu,Bool.not_eq_true',nV]at g;(have u:i∉done:= λq=>by (have:(ints done).contains (i:Int)=true:=by rw[List.contains_iff_mem];exact mV.2 ⟨i,q,rfl⟩);rw[this]at g;exact nU g.1.symm);(have s:ints done++[(i:Int)]=ints (done++[i]):=by unfold ints;rw[nS];rfl);rw[s]at hne⊢;obtain⟨r,m,d,t⟩:=Mq k (done++[i]) hne (by rw[mB,mT];omega) (λn c=>by
      rcases mA.1 c with q|q
      . exact h n q
      rw[mK.1 q];exact j) (pH.2 ⟨hd,sP, λa l b h e=>u (by rw[mK.1 h]at e;rw[<-e];exact l)⟩)
     refine⟨i::r,by rw[m,nD];rfl,⟨j, λf p a l=> ?_,by rw[List.reverse_append]at d;exact d⟩, λn c=>by have:=t n c;rw[nD]at this;exact this⟩;rw[an j]at p;(cases p);have:=g.2 a l;rw[List.contains_iff_mem]at this;obtain⟨n,c,e⟩:=Xw this;exact⟨n,nL.2 c,e⟩
def PM(p:MP)(c g a:Int)(C D:List Int):Prop:=
 (¬AY p 0/\c=1/\g=0/\a=0/\C=[]/\D=[])\/
 (AY p 0/\Dk p.aC=[]/\c=2/\g=0/\a=0/\C=[]/\D=[])\/
 (AY p 0/\Dk p.aC≠[]/\∃b d:List Int,b.length= ↑p.aC/\d.length= ↑p.aC/\Tr p ((Dk p.aC).map Int.toNat) b d c g a C D)
theorem WM{C C':List Int}(a: ↑C=n)(b: ↑C'=n)(h:∀k,k<n->cf C k=cf C' k):C=C':=by
 refine List.ext_getElem (a.trans b.symm) λk c d=> ?_
 have:=h k oM;rw[Kt (an c),Kt (an d)]at this;exact this
theorem PM.one{c g a c' t a':Int}{C D C' q:List Int}(h:PM p c g a C D)(B:PM p c' t a' C' q):c=c'/\g=t/\a=a'/\C=C'/\D=q:=by
 rcases h with⟨b,rfl,rfl,rfl,rfl,rfl⟩|⟨b,f,rfl,rfl,rfl,rfl,rfl⟩|⟨b,f,U,W,Q,R,u⟩<;>rcases B with⟨d,rfl,rfl,rfl,rfl,rfl⟩|⟨d,m,rfl,rfl,rfl,rfl,rfl⟩|⟨d,m,V,X,S,T,v⟩
 . exact⟨rfl,rfl,rfl,rfl,rfl⟩
 . exact absurd d b
 . exact absurd d b
 . exact absurd b d
 . exact⟨rfl,rfl,rfl,rfl,rfl⟩
 . exact absurd f m
 . exact absurd b d
 . exact absurd m f
 obtain⟨r,y,z,s⟩:=Mq (fs:=p.aC) p.aC [] f sP (λn l=>by simp at l) .nil;have A:(Dk p.aC).map Int.toNat=r:=by unfold Dk;rw[show([]:List Int)=ints []from rfl,y];unfold ints;rw[ot,nO];exact(o4 λx _=>lV x).trans (List.map_id' r)
 rw[A]at u v;obtain⟨E,F,G,H,I⟩:=u.one z Q S R T (λn l=>by simp at l) v;refine⟨E,F,G,?_⟩;by_cases e:c=0
 . obtain⟨L,N,O,P,w⟩:=I e;exact⟨WM L N λk j=>(w k (.inr (by simpa using s k j))).1,WM O P λk j=>(w k (.inr (by simpa using s k j))).2⟩
 exact H e
theorem VE{x:MI}{d b:Nat}{a:List Int}(c:f.aU[d]?=K x)(g:d<=b):El p f (b+1-d) d a T D=if Cd p f x a=0 then El p f (b+1-(d+1)) (d+1) (D9 p f x a) (ET T d a) (max D (D9 p f x a).length)else .inl (Cd p f x a,d):=by have e:b+1-d=(b+1-(d+1))+1:=oM;rw[e,El,c]
theorem X3{a d:Nat}{b:List Int}(c:d=a+1):El p f (a+1-d) d b T D=.inr (b,T,D):=by have e:a+1-d=0:=oM;rw[e,El]
theorem TF{l:List α}{x:α}(h:l[k]?=K x):l.drop k=x::l.drop (k+1):=by obtain⟨i,rfl⟩:=f7.1 h;exact oG i
theorem QA{x:MI}{a:List Int}(h:Hi p f x a=0):(Mr p f x a).length<=64:=by
 unfold Hi at h;by_cases b: ↑a<(AA p f x).length
 . rw[mE b]at h;simp at h
 rw[lY b]at h;split at h
 . simp at h
 split at h
 . simp at h
 omega
def Hf(u:Y)(B:Nat)(V:J)(a:List Int):Prop:=Ab u B 2 1 V a (Ad At a)
theorem Hf.av{b:Y}{a:List Int}(h:Hf u B V a)(c:Ah u u b):Hf b B V a:=AD h c lR
theorem Hf.set{b:List Int}(h:Hf u B V b){a:Addr}(c:a.block<B)(x:J):Hf (u.setCell a x) B V b:=mY h c x
theorem Hf.nil(u:Y)(B:Nat):Hf u B sN []:=mX _ _ _ _
theorem QR(u:Y)(a:Addr)(x:J):(u.setCell a x).heap.size=u.heap.size:=sP
theorem Ty{a:Option Addr}{n c:Nat}{p:List MB}(h:KQ u (Z a n c) p){m:MB}(l:p[k]?=K m):∃g o b d,a=K ⟨g,o,M⟩/\u ⟨g,o+k*3,M⟩=K ↑m.cz/\u ⟨g,o+k*3+1,M⟩=K ↑m.last/\u ⟨g,o+k*3+2,M⟩=K (Z b m.next d)/\Yq u (Z b m.next d) m:=by
 obtain⟨xs,w,y,z⟩:=h;have D:=(f7.1 l).1;obtain⟨⟨E,F⟩,f,r⟩:∃x,xs[k]?=K x/\x.1=m:=by rw[<-w,mN]at l;exact nJ.1 l
 simp only[]at r;subst r;have q:=z _ (lP f);obtain⟨b,d,t⟩:=Rd.aD q;simp only[]at t;subst t;rcases y.2 with⟨e,_⟩|⟨v,C,cc,e,j⟩
 . omega
 simp only[lU]at e;have s:=Rd.elem Bj j k _ f 0 _ rfl;have A:=Rd.elem Bj j k _ f 1 _ rfl;have B:=Rd.elem Bj j k _ f 2 _ rfl;rw[mL]at s;exact⟨v,C,b,d,e.1,s,A,B,q⟩
end Go.Proofs.YtkgohaigebcgoaaGreatDoor
