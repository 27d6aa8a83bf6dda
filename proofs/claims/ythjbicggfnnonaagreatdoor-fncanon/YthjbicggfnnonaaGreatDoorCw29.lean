import Derived.Test.YthjbicggfnnonaaGreatDoorCw23
import Derived.Lib.AppendZerosOnto
import Derived.Lib.AppendZeros
import Derived.Laws.Append
import Derived.Test.YthjbicggfnnonaaGreatDoorCw27
namespace Go.Proofs.YthjbicggfnnonaaGreatDoor
open Go.ChangeShapes Go.WideShapes Go.ChangeAt Go.RowKit
set_option linter.unusedVariables false
set_option maxHeartbeats 4000000
set_option maxRecDepth 100000
variable {w u U:World}{f:Array Oper}{a:Act}{P:Program}{o:Oper}{K:Act->World->Prop}{Q:Exit->Act->World->Prop}{rest:List Oper}{k n m c g:Nat}{d:List (ML×Value×Value)}{z:ML×Value×Value}
theorem Lx(v:VP)(p:MP)(w:World)(hs:p.small)(hw:p.wf)(hp:AD p.aB)(am:Bk p.funcs)(h:Ft w v p)(aj:Mw w v.r p.aB):
 Calls Tryz.prog 46 #[.agg #[v.r,v.k,v.f,v.t]] w fun e w'=>Au e (CI p)/\Below w.heap.size w w':=by
 obtain⟨xs,ys,J⟩:=Pg.of hs hw h;obtain⟨vr,vk,vf,vt⟩:=v;simp only[]at J;obtain⟨r3,c3,e3⟩:=J.fr.bW;have hm:=hs.funcs;subst e3;have HH:=Ag (f7 hp (f7 am aj));clear hs hw h hp am aj;obtain⟨C,y,aF⟩:=J.rr.bW;obtain⟨D,A,aE⟩:∃a c,vk=.slice a p.ag.length c:=J.rd.ag.bW;obtain⟨E,B,aG⟩:∃a c,vt=.slice a p.a7.length c:=J.rd.a7.bW;subst aF aE aG;have u:Hid _:=J;clear J;have n:Hid _:=Lq.of w (.slice C p.aB.length y) (.slice D p.ag.length A) (.slice r3 p.funcs.length c3) (.slice E p.a7.length B) 29;generalize hM:p.funcs.length=m at*;have L:=Ag hM;clear hM;have u:=Ag u;go_enter Tryz.func46,Tryz.ntmps46;go_wp2;go_loopw [11] (fun i wr=>∃k:Nat,k<=m/\i=iZ k/\Hid (∀j,j<k->∀f,p.funcs[j]?=some f->Fp p f)/\Hid (Lq w wr (.slice C p.aB.length y) (.slice D p.ag.length A) (.slice r3 m c3) (.slice E p.a7.length B))) (fun i _=>m-(intOf i).toNat)
 case atStart=>exact⟨0,oM,rfl,fun j R=>oM,n⟩
 clear n;obtain⟨k,hk,rfl,HT,n⟩:=hrel;by_cases a6:k<m
 . obtain⟨⟨f,v⟩,d⟩:∃x,ys[k]?=some x:=⟨_,an (by rw[u.o.fl,L.o];exact a6)⟩;have l:=CK u.o.fm d;have s:=Ag (f7 (u.o.fe _ (d9 d)) (f7 (u.o.small.func _ (d9 l)) (f7 l (f7 (u.o.wf.funcs _ (d9 l)) (HH.o.2.1.2.2.1 k (by rw[L.o];exact a6) _ l)))));clear l;rcases u.o.fr.2 with⟨e0,_⟩|⟨b,o,c,l,P⟩
   . rw[L.o]at e0;omega
   rw[L.o]at l;simp only[ip,kU]at l;obtain⟨rfl,rfl⟩:=l;have K:=Rd.elem Aj P k _ d 0 _ rfl;have S:=Rd.elem Aj P k _ d 1 _ rfl;have T:=Rd.elem Aj P k _ d 2 _ rfl;have U:=Rd.elem Aj P k _ d 3 _ rfl;rw[<-n.o.aC.cell (d5 K),kD]at K;rw[<-n.o.aC.cell (d5 S)]at S;rw[<-n.o.aC.cell (d5 T)]at T;rw[<-n.o.aC.cell (d5 U)]at U;clear P d;simp only[]at K S T U;obtain⟨F,H,ep⟩:=s.o.1.1.bW;obtain⟨al,cl,el⟩:=s.o.1.2.1.bW;obtain⟨I,G,ec⟩:=s.o.1.2.2.bW;obtain⟨vp,vl,vc⟩:=v;simp only[]at ep el ec K S T U;subst ep el ec;obtain⟨p0,p1,p2,p3⟩:=n.o.prog;have nb:¬b=wr.heap.size:=kg (d5 K);have mb:b<wr.heap.size:=d5 K;have np:¬w.heap.size=wr.heap.size:=kg n.o.prog.lt;have mp:w.heap.size<wr.heap.size:=n.o.prog.lt;have hz:=s.o.2.1.2.2
   have g:Hid (Lq w ((wr.alloc (.cells #[.slice F f.params.length H,iZ f.result,.slice al f.locals.length cl,.slice I f.code.length G] 68)).alloc (.cells #[(.slice C p.aB.length y),(.slice D p.ag.length A),sO b o m c3,(.slice E p.a7.length B),.slice F f.params.length H,iZ f.result,.slice al f.locals.length cl,.slice I f.code.length G] 143)) (.slice C p.aB.length y) (.slice D p.ag.length A) (sO b o m c3) (.slice E p.a7.length B)/\Nd ((wr.alloc (.cells #[.slice F f.params.length H,iZ f.result,.slice al f.locals.length cl,.slice I f.code.length G] 68)).alloc (.cells #[(.slice C p.aB.length y),(.slice D p.ag.length A),sO b o m c3,(.slice E p.a7.length B),.slice F f.params.length H,iZ f.result,.slice al f.locals.length cl,.slice I f.code.length G] 143)) (wr.heap.size+1) (.slice C p.aB.length y) (.slice D p.ag.length A) (sO b o m c3) (.slice E p.a7.length B) (.slice F f.params.length H) (iZ f.result) (.slice al f.locals.length cl) (.slice I f.code.length G)):=by refine⟨n.o.aa (Ac (Aa _ _) lR (Aa _ _)),?_⟩;have:=Nd.new (wr.alloc (.cells #[.slice F f.params.length H,iZ f.result,.slice al f.locals.length cl,.slice I f.code.length G] 68)) (.slice C p.aB.length y) (.slice D p.ag.length A) (sO b o m c3) (.slice E p.a7.length B) (.slice F f.params.length H) (iZ f.result) (.slice al f.locals.length cl) (.slice I f.code.length G) 143;simpa using this
   go_wp2;clear p0 p1 p2 p3 K S T U nb mb np mp;generalize hZ:f.code.length=z at*;have O:=Ag hZ;clear hZ;generalize wr.heap.size+1=SB at g⊢;go_loopw [21] (fun i au=>∃q:Nat,q<=z/\i=iZ q/\Hid (∀j,j<q->∀x,f.code[j]?=some x->A8 p f x)/\Hid (Lq w au (.slice C p.aB.length y) (.slice D p.ag.length A) (sO b o m c3) (.slice E p.a7.length B)/\Nd au SB (.slice C p.aB.length y) (.slice D p.ag.length A) (sO b o m c3) (.slice E p.a7.length B) (.slice F f.params.length H) (iZ f.result) (.slice al f.locals.length cl) (.slice I z G))) (fun i _=>z-(intOf i).toNat)
   (case atStart=>exact⟨0,oM,rfl,fun j R=>oM,g⟩);clear g;obtain⟨q,hq,rfl,ae,g⟩:=hrel;by_cases ao:q<z
   . obtain⟨x,d⟩:∃x,f.code[q]?=some x:=⟨_,an (by rw[O.o];exact ao)⟩;have aq:=s.o.2.2.2.1.code x (d9 d);rcases s.o.1.2.2.2 with⟨e0,_⟩|⟨b',o',c',l,Q⟩
     . rw[O.o]at e0;omega
     rw[O.o]at l;simp only[ip,kU]at l;obtain⟨rfl,rfl⟩:=l;have M:=Rd.elem MI.aK Q q x d 0 _ rfl;have X:=Rd.elem MI.aK Q q x d 1 _ rfl;have Y:=Rd.elem MI.aK Q q x d 2 _ rfl;have Z:=Rd.elem MI.aK Q q x d 3 _ rfl;rw[<-g.o.1.aC.cell (d5 M),kD]at M;rw[<-g.o.1.aC.cell (d5 X)]at X;rw[<-g.o.1.aC.cell (d5 Y)]at Y;rw[<-g.o.1.aC.cell (d5 Z)]at Z;have N:=Ag (f7 d aq);clear Q d aq;obtain⟨xo,xa,xb,xc⟩:=x;simp only[]at M X Y Z;obtain⟨s0,s1,s2,s3,s4,s5,s6,s7⟩:=g.o.2;have nb:¬b'=wr.heap.size:=kg (d5 M);have mb:b'<wr.heap.size:=d5 M;have np:¬SB=wr.heap.size:=kg g.o.2.lt;have mp:SB<wr.heap.size:=g.o.2.lt;go_wp2_with fail;have bA:=Aa wr (.cells #[iZ xo,iZ xa,iZ xb,iZ xc] 96);have V:=Ac g.o.1.aC lR bA;refine(QV ⟨(.slice C p.aB.length y),(.slice D p.ag.length A),sO b o m c3,(.slice E p.a7.length B)⟩ p ⟨.slice F f.params.length H,.slice al f.locals.length cl,sO b' o' z G⟩ f xo xa xb xc _ u.o.small HH.o.1 s.o.2.2.2.2 s.o.2.1 N.o.2.2.1 N.o.2.2.2.1 N.o.2.2.2.2 (u.o.rd.aa V lR) (HH.o.2.2.aa V lR) (s.o.1.aa V lR)).mono ?_;rintro e u4 ⟨⟨b4,rfl,W⟩,ah⟩;have bU:=Ac bA lR ah;have a8:=Ag (f7 (g.o.1.aa bU) (g.o.2.aa bU));clear bA V ah bU g M X Y Z s0 s1 s2 s3 s4 s5 s6 s7 nb mb np mp;cases b4
     . (have HN:Hid (¬CI p):=fun e=>by have:=e k (by rw[L.o];exact a6) f s.o.2.2.1 q (by rw[O.o];exact ao) _ N.o.1;simp[this]at W);clear W;go_wp2;go_ret;exact⟨.no HN.o,a8.o.1.aC⟩
     . have aD:Hid (A8 p f ⟨xo,xa,xb,xc⟩):=W.1 rfl;clear W;go_wp2;go_roundw;(case rel=>exact⟨q+1,oM,by go_num,Dc N.o.1 aD.o ae.o,a8⟩);exact oI
   have aI:z=q:=oM;subst aI;(have aA:Hid (Fp p f):=fun j R x d=>ae.o j (by rw[<-O.o];exact R) x d);go_wp2;go_roundw;(case rel=>exact⟨k+1,oM,by go_num,Dc s.o.2.2.1 aA.o HT.o,g.o.1⟩);exact oI
 have aH:m=k:=oM;subst aH;have aw:Hid (CI p):=fun j R f hf=>HT.o j (by rw[<-L.o];exact R) f hf
 go_wp2;go_ret;exact⟨.hQ aw.o,n.o.aC⟩
def OP(v:Value):Prop:=v=sN\/∃ad n c,v=.slice (some ad) n c
theorem Mp(x y:MT)(w:World):
 Calls Tryz.prog 81 #[.agg #[iZ x.func,iZ x.head,iZ x.counter,.int .u32 x.init],.agg #[iZ y.func,iZ y.head,iZ y.counter,.int .u32 y.init]] w fun e b=>Au e (It x y)/\Below w.heap.size w b:=by
 have a:Hid (Below w.heap.size w ((w.alloc (.cells #[iZ x.func,iZ x.head,iZ x.counter,.int .u32 x.init] 72)).alloc (.cells #[iZ y.func,iZ y.head,iZ y.counter,.int .u32 y.init] 72))):=Ac (Aa _ _) lR (Aa _ _);go_enter Tryz.func81,Tryz.ntmps81;go_wp2;all_goals(go_ret;refine⟨Au.of ?_,by first|exact a.o|(rw[‹x.func=y.func›]at a;exact a.o)⟩;go_light;unfold It;simp_all<;>omega)
def OQ(w:World)(s:Value)(b:List MF):Prop:=∃a:List (MF×VF),a.map Prod.fst=b/\Rd w 4 s b.length (a.flatMap AJ)/\∀x∈a,IG w x.2 x.1/\OP x.2.p/\OP x.2.l
theorem OQ.aa{f:World}{s:Value}{a:List MF}(h:OQ w s a){B:Nat}(d:Below B w f)(c:w.heap.size<=B):OQ f s a:=by obtain⟨g,h1,h2,b⟩:=h;exact⟨g,h1,h2.aa d c,fun x e=>⟨(b x e).1.aa d c,(b x e).2⟩⟩
theorem OY{p:MP}{fn:Nat}{f:MF}(h:p.funcs[fn]?=some f)(e b j:Int):Fo p ⟨fn,e,b,j⟩↔(0<=e/\e<(f.code.length:Int))/\(0<=b/\b<((f.params.length+f.locals.length:Nat):Int))/\(f.params++f.locals)[b.toNat]?=some 3:=by
 constructor
 . rintro⟨g,h1,h2,c,d,a⟩;simp only[kJ]at h1 c d a;rw[h]at h1;obtain rfl:=kH h1;unfold AR at a;split at a
   . simp at a
   rename_i l;rw[kF]at a;by_cases q:b.toNat<(f.params++f.locals).length
   . rw[an q]at a⊢;refine⟨⟨c,d⟩,⟨oM,by rw[f6]at q;omega⟩,?_⟩;simpa using a
   rw[kK oM]at a;simp at a
 rintro⟨⟨c,d⟩,⟨a,k⟩,i⟩;refine⟨f,by simp only[kJ];exact h,oS,c,d,?_⟩;unfold AR;rw[lE oS,kF,i];rfl
theorem EP(v:VP)(p:MP)(E b d i:Int)(w:World)(hs:p.small)(h:Ft w v p)(aD:OQ w v.f p.funcs):
 Calls Tryz.prog 80 #[.agg #[v.r,v.k,v.f,v.t],.agg #[iZ E,iZ b,iZ d,.int .u32 i]] w fun e w'=>Au e (Fo p ⟨E,b,d,i⟩)/\Below w.heap.size w w':=by
 obtain⟨vr,vk,vf,vt⟩:=v;obtain⟨ys,aj,ae,am⟩:=aD;simp only[]at ae;obtain⟨A,j,aq⟩:∃a c,vr=.slice a p.aB.length c:=by obtain⟨_,_,hq,_⟩:=h.aB;exact hq.bW
 obtain⟨B,l,au⟩:∃a c,vk=.slice a p.ag.length c:=h.ag.bW;obtain⟨C,n,aw⟩:∃a c,vt=.slice a p.a7.length c:=h.a7.bW;subst aq au aw;have ao:ys.length=p.funcs.length:=by rw[<-aj];simp
 obtain⟨a2,c2,e2⟩:=ae.bW;subst e2;have M:=Ag (f7 ae (f7 aj (f7 am (f7 hs.func ao))));have hm:=hs.funcs;clear ae aj am ao hs h;generalize p.aB.length=q at*;generalize p.ag.length=s at*;generalize p.a7.length=z at*;generalize hM:p.funcs.length=m at*;have HL:=Ag hM;have H:Hid (Below w.heap.size w ((w.alloc (.cells #[.slice A q j,.slice B s l,.slice a2 m c2,.slice C z n] 29)).alloc (.cells #[iZ E,iZ b,iZ d,.int .u32 i] 72))/\Ep ((w.alloc (.cells #[.slice A q j,.slice B s l,.slice a2 m c2,.slice C z n] 29)).alloc (.cells #[iZ E,iZ b,iZ d,.int .u32 i] 72)) (w.heap.size+1) (iZ E) (iZ b) (iZ d) (.int .u32 i)):=by refine⟨Ac (Aa _ _) lR (Aa _ _),?_⟩;have:=Ep.new (w.alloc (.cells #[.slice A q j,.slice B s l,.slice a2 m c2,.slice C z n] 29)) (iZ E) (iZ b) (iZ d) (.int .u32 i) 72;simpa using this
 by_cases q0:0<=E/\E<(m:Int)
 . have a8:decide (0<=E/\E<(m:Int))=true:=decide_eq_true q0
   obtain⟨fn,rfl⟩:=i7 q0.1;have aH:fn<m:=oM;clear q0;obtain⟨⟨f,v⟩,O⟩:∃y,ys[fn]?=some y:=⟨_,an (by rw[M.o.2.2.2.2];omega)⟩;have X:=CK M.o.2.1 O;have ah:=M.o.2.2.1 _ (d9 O);have G:=Ag (f7 ah.1 (f7 ah.2.1 (f7 ah.2.2 (f7 (M.o.2.2.2.1 _ (d9 X)) X))));rcases M.o.1.2 with⟨e0,_⟩|⟨g,D,c',X,Z⟩
   . omega
   simp only[ip,kU]at X;obtain⟨rfl,rfl⟩:=X;have F:=Rd.elem Aj Z fn _ O 0 _ rfl;have P:=Rd.elem Aj Z fn _ O 1 _ rfl;have Q:=Rd.elem Aj Z fn _ O 2 _ rfl;have R:=Rd.elem Aj Z fn _ O 3 _ rfl;rw[kD]at F;clear Z O;simp only[]at F P Q R;obtain⟨J,L,ep⟩:=G.o.1.1.bW;obtain⟨al,cl,el⟩:=G.o.1.2.1.bW;obtain⟨I,K,ec⟩:=G.o.1.2.2.bW;obtain⟨vp,vl,vc⟩:=v;simp only[]at ep el ec F P Q R;subst ep el ec;have k0:=(H.o.1.cell (d5 F)).trans F;have k1:=(H.o.1.cell (d5 P)).trans P;have k2:=(H.o.1.cell (d5 Q)).trans Q;have k3:=(H.o.1.cell (d5 R)).trans R;have nb:¬g=w.heap.size:=kg (d5 F);(have aF:¬g=w.heap.size+1:=by have:=d5 F;simp only[]at this;omega);(have aG:¬g=w.heap.size+1+1:=by have:=d5 F;simp only[]at this;omega);have mb:g<w.heap.size:=d5 F;go_enter Tryz.func80,Tryz.ntmps80;go_wp2_with fail;refine(AY (fn:Int) (m:Int) _).mono ?_;rintro e u ⟨rfl,rfl⟩;rw[a8];go_wp2_with fail;have aA:(fn:Int)<(m:Int):=oM;have BX:Below w.heap.size w (((w.alloc (.cells #[.slice A q j,.slice B s l,sO g D m c2,.slice C z n] 29)).alloc (.cells #[iZ (fn:Int),iZ b,iZ d,.int .u32 i] 72)).alloc (.cells #[sN,sN,sN,sN,sN,iZ 0,sN,sN] 143)).drew:=Ac (Ac H.o.1 lR (Aa _ _)) lR (Ae _);have x0:=(BX.cell (d5 F)).trans F;have x1:=(BX.cell (d5 P)).trans P;have x2:=(BX.cell (d5 Q)).trans Q;have x3:=(BX.cell (d5 R)).trans R;go_region
   have B1:Hid (Below w.heap.size w ((((w.alloc (.cells #[.slice A q j,.slice B s l,sO g D m c2,.slice C z n] 29)).alloc (.cells #[iZ (fn:Int),iZ b,iZ d,.int .u32 i] 72)).alloc (.cells #[.slice A q j,.slice B s l,sO g D m c2,.slice C z n,.slice J f.params.length L,iZ f.result,.slice al f.locals.length cl,.slice I f.code.length K] 143)).drew)):=Ac (Ac H.o.1 lR (Aa _ _)) lR (Ae _);have A1:Hid (Ep ((((w.alloc (.cells #[.slice A q j,.slice B s l,sO g D m c2,.slice C z n] 29)).alloc (.cells #[iZ (fn:Int),iZ b,iZ d,.int .u32 i] 72)).alloc (.cells #[.slice A q j,.slice B s l,sO g D m c2,.slice C z n,.slice J f.params.length L,iZ f.result,.slice al f.locals.length cl,.slice I f.code.length K] 143)).drew) (w.heap.size+1) (iZ (fn:Int)) (iZ b) (iZ d) (.int .u32 i)):=(H.o.2.alloc _).aa (Ae _)
   (have A2:Hid (Nd ((((w.alloc (.cells #[.slice A q j,.slice B s l,sO g D m c2,.slice C z n] 29)).alloc (.cells #[iZ (fn:Int),iZ b,iZ d,.int .u32 i] 72)).alloc (.cells #[.slice A q j,.slice B s l,sO g D m c2,.slice C z n,.slice J f.params.length L,iZ f.result,.slice al f.locals.length cl,.slice I f.code.length K] 143)).drew) (w.heap.size+1+1) (.slice A q j) (.slice B s l) (sO g D m c2) (.slice C z n) (.slice J f.params.length L) (iZ f.result) (.slice al f.locals.length cl) (.slice I f.code.length K)):=by have:=(Nd.new ((w.alloc (.cells #[.slice A q j,.slice B s l,sO g D m c2,.slice C z n] 29)).alloc (.cells #[iZ (fn:Int),iZ b,iZ d,.int .u32 i] 72)) (.slice A q j) (.slice B s l) (sO g D m c2) (.slice C z n) (.slice J f.params.length L) (iZ f.result) (.slice al f.locals.length cl) (.slice I f.code.length K) 143).aa (Ae _);have aE:((w.alloc (.cells #[.slice A q j,.slice B s l,sO g D m c2,.slice C z n] 29)).alloc (.cells #[iZ (fn:Int),iZ b,iZ d,.int .u32 i] 72)).heap.size=w.heap.size+1+1:=sP;rw[aE]at this;exact this);generalize (((w.alloc (.cells #[.slice A q j,.slice B s l,sO g D m c2,.slice C z n] 29)).alloc (.cells #[iZ (fn:Int),iZ b,iZ d,.int .u32 i] 72)).alloc (.cells #[.slice A q j,.slice B s l,sO g D m c2,.slice C z n,.slice J f.params.length L,iZ f.result,.slice al f.locals.length cl,.slice I f.code.length K] 143)).drew=W1 at B1 A1 A2⊢;have N:=Ag (f7 B1.o (f7 A1.o A2.o));clear B1 A1 A2 H M F P Q R k0 k1 k2 k3 nb aF aG mb a8 x0 x1 x2 x3 aA;have U:=Ag (OY G.o.2.2.2.2 b d i);obtain⟨i0,i1,i2,i3⟩:=N.o.2.1;obtain⟨g0,g1,g2,g3,g4,g5,g6,g7⟩:=N.o.2.2;have aI:=G.o.2.2.2.1.2.2
   go_wp2_with fail;refine(AY b (f.code.length:Int) _).mono ?_;rintro e u ⟨rfl,rfl⟩;by_cases T:0<=b/\b<(f.code.length:Int)
   . have Y:decide (0<=b/\b<(f.code.length:Int))=true:=decide_eq_true T
     rw[Y];go_wp2_with fail;refine(GH (.slice A q j) (.slice B s l) (sO g D m c2) (.slice C z n) ⟨.slice J f.params.length L,.slice al f.locals.length cl,.slice I f.code.length K⟩ f d _ G.o.2.2.2.1 (G.o.1.aa N.o.1 lR)).mono ?_;rintro e u ⟨⟨bh,rfl,a6⟩,S⟩;have W:=Ag (f7 (Ac N.o.1 lR S) (f7 (N.o.2.1.aa S) (N.o.2.2.aa S)));cases bh
     . (have V:Hid (¬Fo p ⟨fn,b,d,i⟩):=fun e=>absurd (a6.2 ⟨(U.o.1 e).2.1.1,by have:=(U.o.1 e).2.1.2;omega⟩) mS);clear a6 T Y;go_wp2;go_ret;exact⟨.no V.o,W.o.1⟩
     have hl:I4 f d:=a6.1 rfl;obtain⟨k,rfl⟩:=i7 hl.1;(have hk:k<(f.params++f.locals).length:=by have:=hl.2;rw[f6];omega);obtain⟨x,hx⟩:∃x,(f.params++f.locals)[k]?=some x:=⟨_,an hk⟩;(have HY:Hid ((x==3)=true↔Fo p ⟨fn,b,k,i⟩):=by show _↔_;have h2:=hl.2;rw[U.o,kJ,hx];simp[T];intro _;omega);have HX:=Ag hx;clear a6 T Y hl hk hx U;obtain⟨i0,i1,i2,i3⟩:=W.o.2.1;obtain⟨g0,g1,g2,g3,g4,g5,g6,g7⟩:=W.o.2.2;go_wp2_with fail;refine(LH (.slice A q j) (.slice B s l) (sO g D m c2) (.slice C z n) ⟨.slice J f.params.length L,.slice al f.locals.length cl,.slice I f.code.length K⟩ f k x _ G.o.2.2.2.1 (G.o.1.aa W.o.1 lR) HX.o).mono ?_;rintro e u' ⟨rfl,S⟩;have HE:=Ag (Ac W.o.1 lR S);clear S i0 i1 i2 i3 g0 g1 g2 g3 g4 g5 g6 g7;go_wp2;go_ret;exact⟨.of HY.o,HE.o⟩
   have Y:decide (0<=b/\b<(f.code.length:Int))=false:=ld T
   (have V:Hid (¬Fo p ⟨fn,b,d,i⟩):=fun e=>T (U.o.1 e).1);rw[Y];go_wp2;go_ret;exact⟨.no V.o,N.o.1⟩
 have V:Hid (¬Fo p ⟨E,b,d,i⟩):=fun⟨f,h1,h2,_⟩=>q0 ⟨h2,by have:=(d7.1 h1).1;simp only[]at this h2;rw[HL.o]at this;omega⟩
 have a8:decide (0<=E/\E<(m:Int))=false:=ld q0
 clear M;go_enter Tryz.func80,Tryz.ntmps80;go_wp2_with fail;refine(AY E (m:Int) _).mono ?_;rintro e u ⟨rfl,rfl⟩;rw[a8];go_wp2;go_ret;exact⟨.no V.o,H.o.1⟩
theorem C4(xs:List Int):∀u∈xs.flatMap Ad,u.oneCell'=true:=by intro u b;obtain⟨x,_,a⟩:=lP.1 b;simp[Ad]at a;subst a;rfl
theorem Fv(base:Nat)(t h e:TypeId)(i:TypeInfo)(size:Nat)(b:P.underlying t=some (.slice e))(a:P.info? e=some i)(v:Value)(n:Nat)(xs:List Value)(f:w.ownsRow base e size v n xs)(c:Nat):(Builtin.append_ #[t,t] h #[v,.slice none 0 c]).run P w=.ok v w:=by
 rcases f.2 with⟨rfl,rfl⟩|⟨g,cap,j,rfl,_,_,d,_⟩
 . simp[Builtin.append_,run_underlying b,sizeOf,typeInfo,a,Builtin.lenOf,Builtin.firstCells]
 simp[Builtin.append_,run_underlying b,sizeOf,typeInfo,a,Builtin.lenOf,Builtin.firstCells,d,storeCells]
theorem Rz(u:World)(B:Nat)(t r e:TypeId)(i:TypeInfo)(z:Value)(k h:Nat)(A:P.underlying t=some (.slice e))(s:P.info? e=some i)(R:i.zero=some z)(M:i.size=k)(J:i.bytes=h)(S:z.cells.size=k)(Q:0<k)(V:Value)(n:Nat)(xs:List Value)(p:u.ownsRow B e k V n xs)(Vs:Value)(m:Nat)(b:List Value)(q:Rd u k Vs m b)(N:b.length=m*k)(h1:∀x∈b,x.oneCell'=true)(G:n+m<=maxLen)(K:(n+m)*h<=140737488355328)(H:B<=u.heap.size):∃v' d,(Builtin.append_ #[t,t] r #[V,Vs]).run P u=.ok v' d/\d.ownsRow B e k v' (n+m) (xs++b)/\u.grownBy d V.ownBlock/\(v'.ownBlock=V.ownBlock\/v'.ownBlock=some u.heap.size):=by
 obtain⟨a,c,rfl⟩:=q.bW;cases a with
 | none=>
   have O:m=0:=by
    rcases q.2 with⟨l,_⟩|⟨g,o,c,f,_⟩
    . exact l
    cases f
   subst O;have C:b=[]:=lV oM;subst C;exact⟨_,_,Fv (P:=P) B t r e i k A s _ _ _ p c,by simpa using p,⟨rfl,rfl,rfl,Nat.le_refl _,fun _ _ _=>rfl⟩,.inl rfl⟩
 | some ad=>
   have I:∀j v,b[j]?=some v->u.cell? (ad.add j)=some v:=fun j v y=>by
    rcases q.2 with⟨l,_⟩|⟨g,o,c,f,L⟩
    . subst l;have:b=[]:=lV oM;subst this;simp at y
    simp only[ip,i4]at f;obtain⟨rfl,_⟩:=f;rw[DF];exact L j v y
   obtain⟨v',d,h2,D,E,_,F⟩:=run_append_own_at (P:=P) (w:=u) B t r e i z k h A s R M J S Q V n xs p ad m c b N I h1 G K H;exact⟨v',d,h2,D,E,F⟩
theorem Qw(s x:Operand)(B:Nat)(t e:TypeId)(i:TypeInfo)(z:Value)(k d:Nat)(A:o.op=.call {callee:=.builtin .append,args:=#[s,x],argTypes:=#[t,t]})(F:P.underlying t=some (.slice e))(v:P.info? e=some i)(H:i.zero=some z)(w:i.size=k)(q:i.bytes=d)(I:z.cells.size=k)(E:0<k)(V:Value)(n:Nat)(xs:List Value)(D:a.eval s=V)(hw:u.ownsRow B e k V n xs)(Vs:Value)(m:Nat)(c:List Value)(G:a.eval x=Vs)(C:Rd u k Vs m c)(y:c.length=m*k)(h1:∀x∈c,x.oneCell'=true)(j:n+m<=maxLen)(r:(n+m)*d<=140737488355328)(l:B<=u.heap.size)(p:∀v' b,b.ownsRow B e k v' (n+m) (xs++c)->u.grownBy b V.ownBlock->(v'.ownBlock=V.ownBlock\/v'.ownBlock=some u.heap.size)->K (a.put o.dst v') b):o.wp P a u K Q:=by obtain⟨v',b,h2,f,g,h⟩:=Rz (P:=P) u B t o.type e i z k d F v H w q I E V n xs hw Vs m c C y h1 j r l;exact Lib.wp_append_run _ s x t t A _ _ D G v' b h2 (p v' b f g h)
theorem OD(r:o.guard=none)(s x:Operand)(B:Nat)(t e:TypeId)(i:TypeInfo)(z:Value)(k d:Nat)(A:o.op=.call {callee:=.builtin .append,args:=#[s,x],argTypes:=#[t,t]})(F:P.underlying t=some (.slice e))(v:P.info? e=some i)(H:i.zero=some z)(w:i.size=k)(p:i.bytes=d)(I:z.cells.size=k)(E:0<k)(V:Value)(n:Nat)(xs:List Value)(D:a.eval s=V)(hw:u.ownsRow B e k V n xs)(Vs:Value)(m:Nat)(c:List Value)(G:a.eval x=Vs)(C:Rd u k Vs m c)(y:c.length=m*k)(h1:∀x∈c,x.oneCell'=true)(g:n+m<=maxLen)(q:(n+m)*d<=140737488355328)(h:B<=u.heap.size)(j:∀v' b,b.ownsRow B e k v' (n+m) (xs++c)->u.grownBy b V.ownBlock->(v'.ownBlock=V.ownBlock\/v'.ownBlock=some u.heap.size)->wpList P f Q rest (a.put o.dst v') b):wpList P f Q (o::rest) a u:=wpList_plain r fun _ l=>Qw s x B t e i z k d A F v H w p I E V n xs D hw Vs m c G C y h1 g q h fun v' b J K L=>l _ _ (j v' b J K L)
theorem Cc{E:Prop}(q:o.guard=none)(s x:Operand)(B:Nat)(t e:TypeId)(i:TypeInfo)(z:Value)(k c:Nat)(y:o.op=.call {callee:=.builtin .append,args:=#[s,x],argTypes:=#[t,t]})(F:P.underlying t=some (.slice e))(r:P.info? e=some i)(I:i.zero=some z)(v:i.size=k)(l:i.bytes=c)(J:z.cells.size=k)(D:0<k)(V:Value)(n:Nat)(xs:List Value)(C:a.eval s=V)(hw:u.ownsRow B e k V n xs)(Vs:Value)(m:Nat)(b:List Value)(H:a.eval x=Vs)(A:Rd u k Vs m b)(w:b.length=m*k)(h1:∀x∈b,x.oneCell'=true)(g:n+m<=maxLen)(p:(n+m)*c<=140737488355328)(h:B<=u.heap.size)(j:∀v' d,d.ownsRow B e k v' (n+m) (xs++b)->u.grownBy d V.ownBlock->(v'.ownBlock=V.ownBlock\/v'.ownBlock=some u.heap.size)->K (a.put o.dst v') d):if Region.wanted o (yielded f a.tmps)=true then Oper.wp P o a u K Q else E:=by
 have G:Region.wanted o (yielded f a.tmps)=true:=by simp[Region.wanted,q]
 rw[lI G];exact Qw s x B t e i z k c y F r I v l J D V n xs C hw Vs m b H A w h1 g p h j
theorem BK(u:World)(e:TypeId)(k:Nat):(u.alloc (.cells #[] e)).ownsRow u.heap.size e k (.slice (some ⟨u.heap.size,0,none⟩) 0 0) 0 []:=⟨sP,.inr ⟨u.heap.size,0,#[],rfl,Nat.le_refl _,lq _ _,Nat.le_refl _,lr _,sP,sP⟩⟩
theorem Rd.front{a:Option Addr}{xs:List Value}(h:Rd u k (.slice a n c) n xs)(f:xs.length=n*k)(i:m<=n)(c':Nat):Rd u k (.slice a m c') m (xs.take (m*k)):=by
 refine⟨by rw[lB,f];exact Nat.min_eq_left (Nat.mul_le_mul_right k i),?_⟩;rcases h.2 with⟨l,_⟩|⟨g,o,c1,d,e⟩
 . obtain rfl:m=0:=oM;exact .inl ⟨rfl,a,c',rfl⟩
 simp only[ip]at d;obtain⟨rfl,_⟩:=d;refine .inr ⟨g,o,c',rfl,fun j u b=>e j u ?_⟩;rw[List.getElem?_take]at b;split at b
 . exact b
 cases b
def ON(y:ML×Value×Value):Prop:=(∃a c,y.2.1=.slice a y.1.back.length c)/\∃a c,y.2.2=.slice a y.1.blocks.length c
theorem Om(h:∀y∈d,ON y):∀u∈d.flatMap CM,u.oneCell'=true:=by
 intro u b;obtain⟨y,g,b⟩:=lP.1 b;obtain⟨⟨a,c,e⟩,a',c',f⟩:=h y g;simp only[CM,ka,kr,ly]at b;rcases b with rfl|rfl|rfl
 . rfl
 . rw[e];rfl
 rw[f];rfl
theorem QN(l:TypeId)(u:World)(m:Nat)(V:Value)(b:List (ML×Value×Value))(h:Rd u 3 V b.length (b.flatMap CM))(x:∀y∈b,ON y)(n:m<=u.heap.size)(G:b.length<=1048576):∃v' d,(Builtin.append_ #[208,208] l #[.slice (some ⟨u.heap.size,0,none⟩) 0 0,V]).run Tryz.prog (u.alloc (.cells #[] 218))=.ok v' d/\d.ownsRow m 218 3 v' b.length (b.flatMap CM)/\Below u.heap.size u d:=by
 obtain⟨q,p,C,D,E⟩:=kS Su;have i:(u.alloc (.cells #[] 218)).ownsRow u.heap.size 218 3 (.slice (some ⟨u.heap.size,0,none⟩) 0 0) 0 []:=⟨rfl,.inr ⟨u.heap.size,0,#[],rfl,Nat.le_refl _,lq _ _,Nat.le_refl _,lr _,rfl,sP⟩⟩;obtain⟨a,c,rfl⟩:=Rd.bW h;cases a with
 | none=>
   have B:b.length=0:=by
    rcases h.2 with⟨k,_⟩|⟨g,o,c,e,_⟩
    . exact k
    cases e
   have r:b=[]:=lV B;subst r;exact⟨_,_,Fv (P:=Tryz.prog) u.heap.size 208 l 218 q 3 Tryz.underlying208 p _ _ _ i c,Db i n,Aa _ _⟩
 | some ad=>
   have w:∀j v,(b.flatMap CM)[j]?=some v->(u.alloc (.cells #[] 218)).cell? (ad.add j)=some v:=fun j v f=>by
    rcases h.2 with⟨k,_⟩|⟨g,o,c,e,z⟩
    . have:b=[]:=lV k;subst this;simp at f
    simp only[ip,i4]at e;obtain⟨rfl,_⟩:=e;have:=z j v f;rw[DF,(Aa u (.cells #[] 218)).cell (d5 this)];exact this
   obtain⟨v',d,A,h2,s,F⟩:=run_append_own (P:=Tryz.prog) (u.alloc (.cells #[] 218)) u.heap.size 208 l 218 q (.agg #[.int .i64 0,.slice none 0 0,.slice none 0 0]) 3 56 Tryz.underlying208 p C D E rfl dC _ 0 [] i ad b.length c (b.flatMap CM) (by rw[Av CM 3 CN]) w (Om x) oX oM (Aa _ _).size;(have t:d.ownsRow u.heap.size 218 3 v' b.length (b.flatMap CM):=by simpa using h2);exact⟨_,d,A,Db t n,(Aa u (.cells #[] 218)).grown s (Aa _ _).size (fun j f=>(i.lt j f).1)⟩
theorem M9{e:Array Oper}(k:o.guard=none)(s x:Operand)(m:o.op=.call {callee:=.builtin .append,args:=#[s,x],argTypes:=#[208,208]})(u:World)(d:Nat)(V:Value)(b:List (ML×Value×Value))(p:a.eval s=.slice (some ⟨u.heap.size,0,none⟩) 0 0)(q:a.eval x=V)(h:Rd u 3 V b.length (b.flatMap CM))(j:∀y∈b,ON y)(f:d<=u.heap.size)(l:b.length<=1048576)(g:∀v' c,c.ownsRow d 218 3 v' b.length (b.flatMap CM)->Below u.heap.size u c->wpList Tryz.prog e Q rest (a.put o.dst v') c):wpList Tryz.prog e Q (o::rest) a (u.alloc (.cells #[] 218)):=wpList_plain k fun _ i=>by obtain⟨v',c,n,h1,h2⟩:=QN o.type u d V b h j f l;exact Lib.wp_append_run _ s x 208 208 m _ _ p q v' c n (i _ _ (g v' c h1 h2))
structure Ik(w u:World)(V:Value)(n:Nat)(ys zs:List (ML×Value×Value)):Prop where
 own:u.ownsRow w.heap.size 218 3 V n (zs.flatMap CM)
 len:zs.length=n
 sub:∀z∈zs,z∈ys
 aC:Below w.heap.size w u
theorem Ik.at_{q f:List (ML×Value×Value)}(h:Ik w u (.slice (some ⟨g,0,none⟩) n c) n q f)(A:∀y∈q,ON y)(B:k<n):∃z a b d e,f[k]?=some z/\z∈q/\z.2.1=.slice a z.1.back.length b/\z.2.2=.slice d z.1.blocks.length e/\u.cell? ⟨g,k*3,none⟩=some (.int .i64 z.1.head)/\u.cell? ⟨g,k*3+1,none⟩=some (.slice a z.1.back.length b)/\u.cell? ⟨g,k*3+2,none⟩=some (.slice d z.1.blocks.length e):=by
 have t:k<f.length:=by rw[h.len];exact B
 have i:f[k]?=some f[k]:=an t;have v:=h.sub _ (ku t);obtain⟨⟨a,b,r⟩,d,e,s⟩:=A _ v;rcases(Rd.cB h.own).2 with⟨j,_⟩|⟨C,D,c',j,l⟩
 . omega
 simp only[ip,i4,lF,kU,lp]at j;obtain⟨⟨rfl,rfl⟩,rfl⟩:=j;have x:=Rd.elem CN l k _ i 0 _ rfl;have m:=Rd.elem CN l k _ i 1 _ rfl;have p:=Rd.elem CN l k _ i 2 _ rfl;rw[r]at m;rw[s]at p;simp only[ki,kD]at x m p;exact⟨_,a,b,d,e,i,v,r,s,x,m,p⟩
theorem Ik.aa{b:World}{V:Value}{c:List (ML×Value×Value)}(h:Ik w u V n c d)(a:Below u.heap.size u b):Ik w b V n c d:=⟨Ai h.own a lR,h.len,h.sub,Ac h.aC lR a⟩
theorem TQ{a:List (ML×Value×Value)}:(((a.flatMap CM).set (k*3) (.int .i64 z.1.head)).set (k*3+1) z.2.1).set (k*3+2) z.2.2=(a.set k z).flatMap CM:=by
 induction a generalizing k with
 |nil=>rfl
 | cons y r b=>
   cases k with
   |zero=>rfl
   | succ k=>rw[kb,kG,kG,<-b,show(k+1)*3=k*3+1+1+1 from oM];rfl
theorem Ik.j8{b f:List (ML×Value×Value)}(h:Ik w U (.slice (some ⟨g,0,none⟩) n c) n b f)(j:z∈b){v1 v2:Value}(h1:z.2.1=v1)(h2:z.2.2=v2):Ik w (((U.setCell ⟨g,k*3,none⟩ (.int .i64 z.1.head)).setCell ⟨g,k*3+1,none⟩ v1).setCell ⟨g,k*3+2,none⟩ v2) (.slice (some ⟨g,0,none⟩) n c) n b (f.set k z):=by
 subst h1 h2;have a:=(AQ h.own).1;have l:=(lm h.own (k*3) (.int .i64 z.1.head)).1;have m:=(lm l (k*3+1) z.2.1).1;have d:=(lm m (k*3+2) z.2.2).1;rw[TQ]at d;refine⟨d,by rw[lw];exact h.len,fun y i=> ?_,((h.aC.setCell a _).setCell a _).setCell a _⟩;rcases mM i with e|e
 . exact h.sub y e
 subst e;exact j
theorem Ik.jh{q r:Nat}{B:List (ML×Value×Value)}(h:Ik w U (.slice (some ⟨g,0,none⟩) n c) n B d)(s:∀y∈B,ON y)(C:q<n)(D:r<n){a b:ML×Value×Value}{e f k l:Option Addr}{i j p:Nat}(E:d[q]?=some a)(F:d[r]?=some b)(f1:a.2.1=.slice e a.1.back.length i)(f2:a.2.2=.slice k a.1.blocks.length m)(f3:b.2.1=.slice f b.1.back.length j)(f4:b.2.2=.slice l b.1.blocks.length p):U.cell? ⟨g,q*3,none⟩=some (.int .i64 a.1.head)/\U.cell? ⟨g,q*3+1,none⟩=some (.slice e a.1.back.length i)/\U.cell? ⟨g,q*3+2,none⟩=some (.slice k a.1.blocks.length m)/\U.cell? ⟨g,r*3,none⟩=some (.int .i64 b.1.head)/\U.cell? ⟨g,r*3+1,none⟩=some (.slice f b.1.back.length j)/\U.cell? ⟨g,r*3+2,none⟩=some (.slice l b.1.blocks.length p):=by
 obtain⟨M,_,_,_,_,t,_,u,v,G,H,I⟩:=h.at_ s C;obtain⟨N,_,_,_,_,x,_,z,A,J,K,L⟩:=h.at_ s D;rw[E]at t;rw[F]at x;cases t
 cases x
 rw[f1]at u;rw[f2]at v;rw[f3]at z;rw[f4]at A;cases u
 cases v
 cases z
 cases A
 exact⟨G,H,I,J,K,L⟩
theorem Oh(s:Value)(n:Nat)(j:List (ML×Value×Value))(w:World)(hN:j.length=n)(hn:n<=1048576)(h:Rd w 3 s n (j.flatMap CM))(hS:∀y∈j,ON y):
 Calls Tryz.prog 146 #[s] w fun e w'=>∃V d,e=.returned V/\Ik w w' V n j d:=by
 obtain⟨v,c1,p⟩:=Rd.bW h;subst p;have H:=Ag (f7 h hS);have E:=Ag hN;go_enter Tryz.func146,Tryz.ntmps146;go_wp2_with (at_builtin;refine M9 rfl (.tmp 7) (.tmp 8) rfl w w.heap.size (.slice v n c1) j rfl rfl (by rw[E.o];exact H.o.1) H.o.2 lR (by rw[E.o];exact hn) ?_;intro V w3 ao ah);have f:Hid (Ik w w3 V n j j):=⟨by rw[<-E.o];exact ao,E.o,fun z M=>M,ah⟩;rcases B9 f.o.own with⟨rfl,M⟩|⟨g,c,rfl⟩
 . subst M;go_wp2_with fail;go_loopw [4,5,6] (fun i _ _ wr=>i=.int .i64 0/\wr=w3) (fun _ _ _ _=>0)
   (case atStart=>exact⟨rfl,rfl⟩);obtain⟨rfl,rfl⟩:=hrel;go_wp2_with fail;go_ret;exact⟨.slice none 0 0,_,rfl,f.o⟩
 go_wp2_with fail;go_loopw [4,5,6] (fun i _ _ wr=>∃(m:Nat) (d:List (ML×Value×Value)),m<=n/\i=.int .i64 m/\Hid (Ik w wr (.slice (some ⟨g,0,none⟩) n c) n j d)) (fun i _ _ _=>n-(intOf i).toNat)
 case atStart=>exact⟨0,_,oM,rfl,f⟩
 obtain⟨m,d,hm,rfl,f⟩:=hrel;by_cases aw:m<n;case neg=>go_wp2_with fail;go_ret;exact⟨.slice (some ⟨g,0,none⟩) n c,_,rfl,f.o⟩
 have aA:(m:Int)<(n:Int):=oM;go_wp2_with fail;go_loopw [5,6] (fun k _ wr=>∃(q:Nat) (d:List (ML×Value×Value)),q<n/\k=.int .i64 q/\Hid (Ik w wr (.slice (some ⟨g,0,none⟩) n c) n j d)) (fun k _ _=>(intOf k).toNat)
 case atStart=>exact⟨n-1,d,oM,by go_num,f⟩
 obtain⟨q,d,L,rfl,f⟩:=hrel;by_cases aq:m<q;case neg=>
  go_wp2_with fail;go_roundw;case rel=>exact⟨m+1,d,oM,by go_num,f⟩
  exact oI
 have au:(q:Int)>(m:Int):=oM;have aD:(q:Int)<(n:Int):=oM;obtain⟨r,Z⟩:∃r,q=r+1:=⟨q-1,oM⟩;have A:=Ag Z;obtain⟨b,v,B,x,p,a6,aj,f1,f2,N,O,G⟩:=f.o.at_ H.o.2 L;obtain⟨t,R,T,J,K,a8,am,f3,f4,P,Q,I⟩:=f.o.at_ H.o.2 (show r<n by have:=A.o;omega);have g6:(q:Int)-1=(r:Int):=oM;have g3:(0:Int)<=(r:Int):=oM;have g4:(r:Int)<(n:Int):=oM;clear Z;have g5:IntKind.i64.wrap (r:Int)=(r:Int):=lU _ ⟨oM,oM⟩;go_upto_region 8 with fail
 have C:Hid (Ik w wr.drew (.slice (some ⟨g,0,none⟩) n c) n j d):=⟨Ai f.o.own (Ae _) lR,f.o.len,f.o.sub,Ac f.o.aC lR (Ae _)⟩;refine wp_region_held_drew (S:=fun W=>W.cell? ⟨g,q*3+2,none⟩=some (.slice x b.1.blocks.length p)/\W.cell? ⟨g,r*3+2,none⟩=some (.slice J t.1.blocks.length K)) kR (by exact⟨G,I⟩) (fun ae=> ?_)
 clear f N O G P Q I;generalize wr.drew=D at C ae⊢;refine An 0 ?_;refine An 1 ?_;refine An 2 ?_;refine An 3 ?_;refine An 4 ?_;refine An 5 ?_;refine An 6 ?_;refine An 7 ?_;refine An 8 ?_;refine An 9 ?_;refine An 10 ?_;refine An 11 ?_;refine An 12 ?_;refine An 13 ?_;refine wpAnyH_done kR ?_ _;go_simp;by_cases Y:b.1.blocks.length<t.1.blocks.length;case neg=>
  rw[ld Y];go_wp2_with fail;go_roundw;case rel=>exact⟨r,d,by have:=A.o;omega,by go_num,C⟩
  simp[intOf];have:=A.o;omega
 rw[decide_eq_true Y];have PC:Hid _:=C.o.jh H.o.2 L (show r<n by have:=A.o;omega) a6 a8 f1 f2 f3 f4;obtain⟨N,O,G,P,Q,I⟩:=PC.o;go_upto_region 10 with fail
 have l:Hid (Ik w (D.alloc (.cells #[.int .i64 b.1.head,.slice v b.1.back.length B,.slice x b.1.blocks.length p] 218)) (.slice (some ⟨g,0,none⟩) n c) n j d/\Aw (D.alloc (.cells #[.int .i64 b.1.head,.slice v b.1.back.length B,.slice x b.1.blocks.length p] 218)) D.heap.size #[.int .i64 b.1.head,.slice v b.1.back.length B,.slice x b.1.blocks.length p] 218/\g≠D.heap.size):=⟨C.o.aa (Aa _ _),Aw.new _ _ _,fun e=>by obtain⟨_,_,h1⟩:=AQ C.o.own;have:=(kN.1 h1).1;omega⟩
 generalize D.heap.size=X at l⊢;refine Ao (fun U=>Hid (Ik w U (.slice (some ⟨g,0,none⟩) n c) n j d/\Aw U X #[.int .i64 b.1.head,.slice v b.1.back.length B,.slice x b.1.blocks.length p] 218/\g≠X)) l ?_
 rintro U l;have PC:Hid _:=l.o.1.jh H.o.2 L (show r<n by have:=A.o;omega) a6 a8 f1 f2 f3 f4;obtain⟨N,O,G,P,Q,I⟩:=PC.o;have y0:=l.o.1.own.frozenAt (q*3);have y1:=l.o.1.own.frozenAt (q*3+1);have y2:=l.o.1.own.frozenAt (q*3+2);go_upto_region 11 with fail
 have u:Hid (Ik w (((U.setCell ⟨g,q*3,none⟩ (.int .i64 t.1.head)).setCell ⟨g,q*3+1,none⟩ (.slice R t.1.back.length T)).setCell ⟨g,q*3+2,none⟩ (.slice J t.1.blocks.length K)) (.slice (some ⟨g,0,none⟩) n c) n j (d.set q t)/\Aw (((U.setCell ⟨g,q*3,none⟩ (.int .i64 t.1.head)).setCell ⟨g,q*3+1,none⟩ (.slice R t.1.back.length T)).setCell ⟨g,q*3+2,none⟩ (.slice J t.1.blocks.length K)) X #[.int .i64 b.1.head,.slice v b.1.back.length B,.slice x b.1.blocks.length p] 218):=⟨l.o.1.j8 am f3 f4,((l.o.2.1.other (a:=⟨g,q*3,none⟩) (fun e=>l.o.2.2 e.symm) _).other (a:=⟨g,q*3+1,none⟩) (fun e=>l.o.2.2 e.symm) _).other (a:=⟨g,q*3+2,none⟩) (fun e=>l.o.2.2 e.symm) _⟩
 refine Ao (fun U=>Hid (Ik w U (.slice (some ⟨g,0,none⟩) n c) n j (d.set q t)/\Aw U X #[.int .i64 b.1.head,.slice v b.1.back.length B,.slice x b.1.blocks.length p] 218)) u ?_
 rintro F u;have x0:F.cell? ⟨X,0,none⟩=some (.int .i64 b.1.head):=by rw[u.o.2.cell];rfl
 have x1:F.cell? ⟨X,1,none⟩=some (.slice v b.1.back.length B):=by rw[u.o.2.cell];rfl
 have x2:F.cell? ⟨X,2,none⟩=some (.slice x b.1.blocks.length p):=by rw[u.o.2.cell];rfl
 obtain⟨zz,_,_,_,_,_,_,_,_,k4,k5,k6⟩:=u.o.1.at_ H.o.2 (show r<n by have:=A.o;omega);have y0:=u.o.1.own.frozenAt (r*3);have y1:=u.o.1.own.frozenAt (r*3+1);have y2:=u.o.1.own.frozenAt (r*3+2);have E8:Hid (Ik w (((F.setCell ⟨g,r*3,none⟩ (.int .i64 b.1.head)).setCell ⟨g,r*3+1,none⟩ (.slice v b.1.back.length B)).setCell ⟨g,r*3+2,none⟩ (.slice x b.1.blocks.length p)) (.slice (some ⟨g,0,none⟩) n c) n j ((d.set q t).set r b)):=u.o.1.j8 aj f1 f2;go_wp2_with fail;go_roundw;case rel=>exact⟨r,_,by have:=A.o;omega,by go_num,E8⟩
 simp[intOf];have:=A.o;omega
theorem Rf(xs:List Int)(m:Nat):(xs.flatMap Ad).take (m*1)=(xs.take m).flatMap Ad:=by
 induction xs generalizing m with
 |nil=>simp
 | cons x r a=>
   cases m with
   |zero=>simp
   | succ m=>rw[List.take_succ_cons,kG,kG,<-a m];rfl
def Tr(u:World)(e:Ending)(b:World):Prop:=∃(a:Option Addr) (c:Nat) (xs:List Int),e=.returned (.slice a xs.length c)/\b.ownsRow u.heap.size 2 1 (.slice a xs.length c) xs.length (xs.flatMap Ad)/\xs.length<=1048576/\Below u.heap.size u b
theorem Iz(w u:World)(s:CP)(k:GK)(p left lv:Int)(sl:Nat)(D:List Ax)(E:DH k)(h:GS w u s k p left lv sl D):
 Calls Tryz.prog 124 #[.pointer (some ⟨k.Gb,0,none⟩)] u (Tr u):=by
 obtain⟨Y,O,R,T,V⟩:=kS Co;obtain⟨v,vc,g,h1,h2⟩:=h.ex;obtain⟨⟨f,vf⟩,M⟩:∃y,k.G[k.fi]?=some y:=⟨_,an E.fi⟩;obtain⟨gf,cf,d,i,al,cl,r,t,e1,e2,⟨f0,f1,f2,f3⟩,Z,F,o3⟩:=h1.bl.fn M;simp only[]at e2 f0 f1 f2 f3 Z F o3;obtain⟨_,q1,q2,_,_,_⟩:=h1.cells;obtain⟨_,_,p2,_⟩:=h1.gI;rw[e1]at p2;have aq:(k.fi:Int)<(k.G.length:Int):=by have:=E.fi;omega
 have ae:=E.lc _ (d9 M);have ah:=E.pr _ (d9 M);simp only[]at ae ah;have I:Hid (∀W,Below u.heap.size u W->(W.ownsRow w.heap.size 2 1 (.slice d f.params.length i) f.params.length (f.params.flatMap Ad)/\W.ownsRow w.heap.size 2 1 (.slice al f.locals.length cl) f.locals.length (f.locals.flatMap Ad))):=fun W c=>⟨Ai Z c lR,Ai F c lR⟩
 have H:Hid (∀W,Below u.heap.size u W->W.cell? ⟨k.Gb,1,none⟩=some (.pointer (some ⟨k.P,0,none⟩))/\W.cell? ⟨k.Gb,2,none⟩=some (iZ (k.fi:Int))/\W.cell? ⟨k.P,2,none⟩=some (sG gf k.G.length cf)/\W.cell? ⟨gf,k.fi*4,none⟩=some (.slice d f.params.length i)/\W.cell? ⟨gf,k.fi*4+1,none⟩=some (iZ f.result)/\W.cell? ⟨gf,k.fi*4+2,none⟩=some (.slice al f.locals.length cl)/\W.cell? ⟨gf,k.fi*4+3,none⟩=some (.slice r f.code.length t)):=fun W c=>⟨Af c q1,Af c q2,Af c p2,Af c f0,Af c f1,Af c f2,Af c f3⟩
 go_enter Tryz.func124,Tryz.ntmps124;go_upto_region 1 with fail
 refine wp_region_held_drew (S:=fun W=>W.cell? ⟨k.Gb,1,none⟩=some (.pointer (some ⟨k.P,0,none⟩))/\W.cell? ⟨k.Gb,2,none⟩=some (iZ (k.fi:Int))/\W.cell? ⟨k.P,2,none⟩=some (sG gf k.G.length cf)/\W.cell? ⟨gf,k.fi*4,none⟩=some (.slice d f.params.length i)/\W.cell? ⟨gf,k.fi*4+1,none⟩=some (iZ f.result)/\W.cell? ⟨gf,k.fi*4+2,none⟩=some (.slice al f.locals.length cl)/\W.cell? ⟨gf,k.fi*4+3,none⟩=some (.slice r f.code.length t)) kR (by exact H.o _ (Ae _)) (fun n=> ?_)
 have b:Hid (Below u.heap.size u u.drew):=Ae _;generalize u.drew=a at b n⊢;refine An 0 ?_;refine An 1 ?_;refine An 2 ?_;refine An 3 ?_;refine An 4 ?_;refine An 5 ?_;refine An 6 ?_;refine An 7 ?_;refine An 8 ?_;refine An 9 ?_;refine An 10 ?_;refine An 11 ?_;refine An 12 ?_;refine rdH 13 ?_;intro C m;go_simp;refine m.o _ _ (by exact H.o _ (Ac b.o lR (Aa _ _))) (fun n=> ?_);refine rdH 14 ?_;intro C m;go_simp;refine m.o _ _ (by exact H.o _ (Ac b.o lR (Aa _ _))) (fun n=> ?_);refine wpAnyH_done kR ?_ _;have l:Hid (Aw (a.alloc (.cells #[.slice d f.params.length i,iZ f.result,.slice al f.locals.length cl,.slice r f.code.length t] 68)) a.heap.size #[.slice d f.params.length i,iZ f.result,.slice al f.locals.length cl,.slice r f.code.length t] 68/\Below u.heap.size u (a.alloc (.cells #[.slice d f.params.length i,iZ f.result,.slice al f.locals.length cl,.slice r f.code.length t] 68))):=⟨Aw.new _ _ _,Ac b.o lR (Aa _ _)⟩
 generalize a.heap.size=X at l⊢;generalize a.alloc (.cells #[.slice d f.params.length i,iZ f.result,.slice al f.locals.length cl,.slice r f.code.length t] 68)=U at l⊢;go_upto_region 2 with fail
 have B:Hid (∀W,Below U.heap.size U W->W.cell? ⟨X,0,none⟩=some (.slice d f.params.length i)/\W.cell? ⟨X,2,none⟩=some (.slice al f.locals.length cl)):=fun W c=>⟨Af c (l.o.1.cell 0),Af c (l.o.1.cell 2)⟩
 have au:IntKind.i64.wrap ((f.locals.length:Int)-3)=((f.locals.length-3:Nat):Int):=by rw[lU _ ⟨oM,oM⟩];omega
 obtain⟨z,a6,am⟩:∃z,al=some ⟨z,0,none⟩/\f.locals.length<=cl:=by
  have F:=(I.o _ l.o.2).2;rcases F.2 with⟨e,h0⟩|⟨g5,cap,aj,e,_,_,h5,_⟩
  . omega
  simp only[ip]at e;exact⟨g5,e.1,by rw[e.2.2];exact h5⟩
 subst a6;have ao:f.locals.length<=cl+3:=oM;refine wp_region_held_drew (S:=fun W=>W.cell? ⟨X,0,none⟩=some (.slice d f.params.length i)/\W.cell? ⟨X,2,none⟩=some (sG z f.locals.length cl)) kR (by exact B.o _ (Ae _)) (fun n=> ?_)
 have b:Hid (Below U.heap.size U U.drew):=Ae _;generalize U.drew=a at b n⊢;refine An 1 ?_;refine An 2 ?_;refine An 4 ?_;refine An 5 ?_;refine An 6 ?_;refine An 7 ?_;refine An 8 ?_;refine An 9 ?_;refine An 10 ?_;refine rdH 0 ?_;intro C m;go_simp;refine m.o _ _ (by exact B.o _ (Ac b.o lR (Aa _ _))) (fun n=> ?_);refine rdH 3 ?_;intro C m;have B1:Hid (Below u.heap.size u (a.alloc (.cells #[] 2))):=Ac (Ac l.o.2 lR b.o) lR (Aa _ _);refine Cc rfl (.tmp 17) (.tmp 19) a.heap.size 58 2 Y (iZ 0) 1 8 rfl Tryz.underlying58 O R T V rfl dC (sG a.heap.size 0 0) 0 [] oE (BK a _ _) (.slice d f.params.length i) f.params.length (f.params.flatMap Ad) oE (Rd.cB (I.o _ B1.o).1) (by rw[Av Ad 1 Ar]) (C4 _) oX oM (Aa _ _).size ?_;intro v1 N L J a8;have q:Hid (N.ownsRow a.heap.size 2 1 v1 f.params.length (f.params.flatMap Ad)/\Below a.heap.size a N):=⟨by simpa using L,(Aa _ _).grown J (Aa _ _).size (fun j K=>by cases K;exact Nat.le_refl _)⟩
 refine m.o _ _ (by exact B.o _ (Ac b.o lR q.o.2)) (fun n=> ?_);refine rdH 11 ?_;intro C m;have B2:=Ag (Ac (Ac l.o.2 lR b.o) lR q.o.2);have RL:Hid (Rd N 1 (sG z (f.locals.length-3) cl) (f.locals.length-3) ((f.locals.flatMap Ad).take ((f.locals.length-3)*1))):=Rd.front (Rd.cB (I.o _ B2.o).2) (by rw[Av Ad 1 Ar]) oM cl;refine Cc rfl (.tmp 20) (.tmp 27) a.heap.size 58 2 Y (iZ 0) 1 8 rfl Tryz.underlying58 O R T V rfl dC v1 f.params.length (f.params.flatMap Ad) (by rfl) q.o.1 (sG z (f.locals.length-3) cl) (f.locals.length-3) _ (by rfl) RL.o (by rw[lB,Av Ad 1 Ar];omega) (fun x hx=>C4 _ x (lz hx)) oX oM q.o.2.size ?_;intro v2 u2 L J a8;have A:Hid (u2.ownsRow a.heap.size 2 1 v2 (f.params.length+(f.locals.length-3)) ((f.params++f.locals.take (f.locals.length-3)).flatMap Ad)/\Below a.heap.size a u2):=⟨by rw[kO,<-Rf];exact L,q.o.2.grown J q.o.2.size (fun j K=>(q.o.1.lt j K).1)⟩
 refine m.o _ _ (by exact B.o _ (Ac b.o lR A.o.2)) (fun n=> ?_);refine An 12 ?_;refine wpAnyH_done kR ?_ _;obtain⟨a9,c9,rfl⟩:=AO A.o.1;go_wp2_with fail;go_ret;have Q:(f.params++f.locals.take (f.locals.length-3)).length=f.params.length+(f.locals.length-3):=by rw[f6,lB];omega
 refine⟨a9,c9,f.params++f.locals.take (f.locals.length-3),by rw[Q];rfl,?_,oM,Ac (Ac l.o.2 lR b.o) lR A.o.2⟩;rw[Q];exact BD A.o.1 (jX l.o.2.size b.o.size)
end Go.Proofs.YthjbicggfnnonaaGreatDoor
