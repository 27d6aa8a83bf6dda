import Derived.Test.YthjbicggfnnonaaGreatDoorCw9
namespace Go.Proofs.YthjbicggfnnonaaGreatDoor
open Go.ChangeShapes Go.WideShapes Go.ChangeAt Go.RowKit
set_option linter.unusedVariables false
set_option maxHeartbeats 4000000
set_option maxRecDepth 100000
def Fo(p:MP)(c:MT):Prop:=∃f,p.funcs[c.func.toNat]?=some f/\0<=c.func/\0<=c.head/\c.head<f.code.length/\AR f c.counter=3
def It(d c:MT):Prop:=d.func<c.func\/d.func=c.func/\d.head<c.head
def Fm(p:MP)(a:List MT)(j:Nat):Prop:=∀c,a[j]?=some c->Fo p c/\∀i d,i+1=j->a[i]?=some d->It d c
def BG(p:MP):Prop:=p.a7.length<=64/\∀j,j<p.a7.length->Fm p p.a7 j
theorem FC{p:MP}{a:List MT}{k:Nat}(b:Fm p a k)(h:∀j,j<k->Fm p a j):∀j,j<k+1->Fm p a j:=by
 intro j c;by_cases e:j=k
 . subst e;exact b
 exact h j oM
theorem Of(v:VP)(p:MP)(w:World)(hs:p.small)(hw:p.wf)(h:Ft w v p):
 Calls Tryz.prog 42 #[.agg #[v.r,v.k,v.f,v.t]] w fun e w'=>Au e (BG p)/\Below w.heap.size w w':=by
 obtain⟨V,vk,vf,vt⟩:=v;have H1:=Ag h.a7;obtain⟨xs,aj,ae,au⟩:=h.funcs;simp only[]at ae;have aD:xs.length=p.funcs.length:=by rw[<-aj];simp
 have N:=Ag (f7 ae (f7 aj (f7 au (f7 hs.func aD))));have hn:=hs.a7;have hm:=hs.funcs;obtain⟨Y,c1,C⟩:∃a c,vt=.slice a p.a7.length c:=h.a7.bW;obtain⟨Q,c2,e2⟩:=ae.bW;subst C e2;have HV:Hid p.wf:=hw;have l:Hid (Below w.heap.size w (w.alloc (.cells #[V,vk,.slice Q p.funcs.length c2,.slice Y p.a7.length c1] 29))/\Ep (w.alloc (.cells #[V,vk,.slice Q p.funcs.length c2,.slice Y p.a7.length c1] 29)) w.heap.size V vk (.slice Q p.funcs.length c2) (.slice Y p.a7.length c1)):=⟨Aa _ _,Ep.new _ _ _ _ _ _⟩
 generalize aq:p.a7.length=n at*;generalize aw:p.funcs.length=m at*;have q:=Ag (f7 aq aw);go_enter Tryz.func42,Tryz.ntmps42;go_wp2;go_loopw [3] (fun i wr=>∃k:Nat,k<=n/\i=.int .i64 k/\Hid (∀j,j<k->Fm p p.a7 j)/\Hid (Below w.heap.size w wr/\Ep wr w.heap.size V vk (.slice Q m c2) (.slice Y n c1))) (fun i _=>n-(intOf i).toNat)
 case atStart=>exact⟨0,oM,rfl,fun j hj=>oM,l⟩
 obtain⟨k,hk,rfl,X,l⟩:=hrel;obtain⟨p0,p1,p2,p3⟩:=l.o.2;by_cases H:k<n
 . obtain ⟨x,J⟩:∃x,p.a7[k]?=some x:=⟨_,an (by rw[q.o.1];exact H)⟩;have ah:=HV.o.a7 x (d9 J);rcases H1.o.2 with⟨e0,_⟩|⟨b,o,c,C,S⟩
   . omega
   simp only[ip,kU]at C;obtain⟨rfl,rfl⟩:=C;have T:=Rd.elem MT.aK S k x J 0 _ rfl;have i1:=Rd.elem MT.aK S k x J 1 _ rfl;have i2:=Rd.elem MT.aK S k x J 2 _ rfl;have i3:=Rd.elem MT.aK S k x J 3 _ rfl;rw[<-l.o.1.cell (d5 T),kD]at T;rw[<-l.o.1.cell (d5 i1)]at i1;rw[<-l.o.1.cell (d5 i2)]at i2;rw[<-l.o.1.cell (d5 i3)]at i3;have A:=Ag J;have HC:=Ag S;obtain⟨I,F,B,L⟩:=x;simp only[]at T i1 i2 i3;obtain⟨x0,x1⟩:=Gy ah.1;obtain⟨x2,x3⟩:=Gy ah.2.1;have am:=Ag ah.2.2.1;have nb:¬b=wr.heap.size:=kg (d5 T);have mb:b<wr.heap.size:=d5 T;have np:¬w.heap.size=wr.heap.size:=kg l.o.2.lt;have mp:w.heap.size<wr.heap.size:=l.o.2.lt;have P:Hid (Below w.heap.size w (wr.alloc (.cells #[.int .i64 I,.int .i64 F,.int .i64 B,.int .u32 L] 72))/\Ep (wr.alloc (.cells #[.int .i64 I,.int .i64 F,.int .i64 B,.int .u32 L] 72)) w.heap.size V vk (.slice Q m c2) (.slice (some ⟨b,o,none⟩) n c1)/\Ep (wr.alloc (.cells #[.int .i64 I,.int .i64 F,.int .i64 B,.int .u32 L] 72)) wr.heap.size (.int .i64 I) (.int .i64 F) (.int .i64 B) (.int .u32 L)):=⟨Ac l.o.1 lR (Aa _ _),l.o.2.alloc _,Ep.new _ _ _ _ _ _⟩
   by_cases q0:I<0
   . (have s:Hid (¬BG p):=fun e=>by obtain⟨⟨f,h1,h2,_⟩,_⟩:=e.2 k (by rw[q.o.1];exact H) _ A.o;simp only[]at h2;omega);go_wp2;go_ret;exact⟨.no s.o,P.o.1⟩
   obtain⟨fn,rfl⟩:=i7 (show 0<=I from oM);by_cases q1:m<=fn
   . (have s:Hid (¬BG p):=fun e=>by obtain⟨⟨f,h1,h2,_⟩,_⟩:=e.2 k (by rw[q.o.1];exact H) _ A.o;have:=(d7.1 h1).1;simp only[]at this;rw[q.o.2]at this;omega);have aE:¬(fn:Int)<(m:Int):=oM;have aN:(m:Int)<=(fn:Int):=oM;go_wp2;go_ret;exact⟨.no s.o,P.o.1⟩
   have aE:¬(m:Int)<=(fn:Int):=oM;obtain⟨⟨f,v⟩,K⟩:∃y,xs[fn]?=some y:=⟨_,an (by rw[N.o.2.2.2.2];omega)⟩;have C:=CK N.o.2.1 K;have E:Hid (IG wr v f/\f.small/\p.funcs[fn]?=some f):=⟨(N.o.2.2.1 _ (d9 K)).aa l.o.1 lR,N.o.2.2.2.1 _ (d9 C),C⟩
   rcases N.o.1.2 with⟨e0,_⟩|⟨b',o',c',C,Z⟩
   . omega
   simp only[ip,kU]at C;obtain⟨rfl,rfl⟩:=C;have M:=Rd.elem Aj Z fn _ K 0 _ rfl;have j1:=Rd.elem Aj Z fn _ K 1 _ rfl;have j2:=Rd.elem Aj Z fn _ K 2 _ rfl;have j3:=Rd.elem Aj Z fn _ K 3 _ rfl;rw[<-l.o.1.cell (d5 M),kD]at M;rw[<-l.o.1.cell (d5 j1)]at j1;rw[<-l.o.1.cell (d5 j2)]at j2;rw[<-l.o.1.cell (d5 j3)]at j3;simp only[]at M j1 j2 j3;obtain⟨ap,cp,ep⟩:=E.o.1.1.bW;obtain⟨al,cl,el⟩:=E.o.1.2.1.bW;obtain⟨ac,cc,ec⟩:=E.o.1.2.2.bW;obtain⟨vp,vl,vc⟩:=v;simp only[]at ep el ec M j1 j2 j3;subst ep el ec;have aM:¬b'=wr.heap.size:=kg (d5 M);have aL:b'<wr.heap.size:=d5 M;have aH:=E.o.2.1.2.2;have a8:Hid (Below w.heap.size w ((wr.alloc (.cells #[.int .i64 (fn:Int),.int .i64 F,.int .i64 B,.int .u32 L] 72)).alloc (.cells #[.slice ap f.params.length cp,.int .i64 f.result,.slice al f.locals.length cl,.slice ac f.code.length cc] 68))):=Ac P.o.1 lR (Aa _ _);by_cases q2:F<0
   . (have s:Hid (¬BG p):=fun e=>by obtain⟨⟨f,h1,h2,h3,_⟩,_⟩:=e.2 k (by rw[q.o.1];exact H) _ A.o;simp only[]at h3;omega);go_wp2;go_ret;exact⟨.no s.o,a8.o⟩
   by_cases q3:(f.code.length:Int)<=F
   . (have s:Hid (¬BG p):=fun e=>by obtain⟨⟨g,h1,h2,h3,h4,_⟩,_⟩:=e.2 k (by rw[q.o.1];exact H) _ A.o;simp only[kJ]at h1 h4;rw[E.o.2.2]at h1;obtain rfl:=kH h1;omega);go_wp2;go_ret;exact⟨.no s.o,a8.o⟩
   go_wp2_with fail;refine(DS ⟨.slice ap f.params.length cp,.slice al f.locals.length cl,.slice ac f.code.length cc⟩ f B _ E.o.2.1 am.o (E.o.1.aa (Ac (Aa _ _) lR (Aa _ _)) lR)).mono ?_;rintro e u ⟨rfl,bl⟩;have z:=Ag (f7 (Ac a8.o lR bl) (f7 ((P.o.2.1.alloc _).aa bl) ((P.o.2.2.alloc _).aa bl)));by_cases U:AR f B=3
   . rw [U];have a6:Hid (Fo p ⟨(fn:Int),F,B,L⟩):=⟨f,by simp only[kJ];exact E.o.2.2,oS,oS,oS,U⟩;by_cases q5:k=0
     . subst q5;(have O:Hid (Fm p p.a7 0):=fun c G=>by rw[A.o]at G;obtain rfl:=kH G;exact⟨a6.o,fun i d hi=>oM⟩);go_wp2;go_quiet (fail);go_wp2;go_roundw;(case rel=>exact⟨1,oM,by go_num,FC O.o X.o,⟨z.o.1.trans (Aq _ _ _),z.o.2.1.aa (Aq _ _ _)⟩⟩);exact oI
     obtain⟨i,rfl⟩:∃i,k=i+1:=⟨k-1,oM⟩;obtain⟨d,D⟩:∃d,p.a7[i]?=some d:=⟨_,an (by rw[q.o.1];omega)⟩;have y0:=Rd.elem MT.aK HC.o i d D 0 _ rfl;have y1:=Rd.elem MT.aK HC.o i d D 1 _ rfl;rw[<-z.o.1.cell (d5 y0),kD]at y0;rw[<-z.o.1.cell (d5 y1)]at y1;obtain⟨p0,p1,p2,p3⟩:=z.o.2.1;obtain⟨r0,r1,r2,r3⟩:=z.o.2.2;obtain⟨R,ao,aF,aG⟩:=d;simp only[]at y0 y1;have W:=Ag D;clear D;have aI:((i+1:Nat):Int)-1=(i:Int):=oM;have aJ:(0:Int)<((i+1:Nat):Int):=oM;by_cases q6:(fn:Int)<R
     . (have s:Hid (¬BG p):=fun e=>by have:=(e.2 (i+1) (by rw[q.o.1];exact H) _ A.o).2 i _ rfl W.o;simp only[It]at this;omega);go_wp2;go_quiet (fail);go_wp2;go_ret;exact⟨.no s.o,z.o.1.trans (Aq _ _ _)⟩
     by_cases q7:R=(fn:Int)
     . subst q7;by_cases q8:F<=ao
       . (have s:Hid (¬BG p):=fun e=>by have:=(e.2 (i+1) (by rw[q.o.1];exact H) _ A.o).2 i _ rfl W.o;simp only[It]at this;omega);go_wp2;go_quiet (fail);go_wp2;go_ret;exact⟨.no s.o,z.o.1.trans (Aq _ _ _)⟩
       . (have O:Hid (Fm p p.a7 (i+1)):=fun c G=>by rw[A.o]at G;obtain rfl:=kH G;refine⟨a6.o,fun i' d' hi D=> ?_⟩;obtain rfl:i'=i:=oM;rw[W.o]at D;obtain rfl:=kH D;unfold It;dsimp only;omega);go_wp2;go_quiet (fail);go_wp2;go_roundw;(case rel=>exact⟨i+1+1,oM,by go_num,FC O.o X.o,⟨z.o.1.trans (Aq _ _ _),z.o.2.1.aa (Aq _ _ _)⟩⟩);exact oI
     (have aS:(R==(fn:Int))=false:=by simpa using q7);(have aR:decide ((fn:Int)<R)=false:=by simpa using q6);have q9:R<(fn:Int):=oM;(have O:Hid (Fm p p.a7 (i+1)):=fun c G=>by rw[A.o]at G;obtain rfl:=kH G;refine⟨a6.o,fun i' d' hi D=> ?_⟩;obtain rfl:i'=i:=oM;rw[W.o]at D;obtain rfl:=kH D;unfold It;dsimp only;omega);go_wp2;go_quiet (fail);go_wp2;go_roundw;(case rel=>exact⟨i+1+1,oM,by go_num,FC O.o X.o,⟨z.o.1.trans (Aq _ _ _),z.o.2.1.aa (Aq _ _ _)⟩⟩);exact oI
   (have s:Hid (¬BG p):=fun e=>by obtain⟨⟨g,h1,h2,h3,h4,h5⟩,_⟩:=e.2 k (by rw[q.o.1];exact H) _ A.o;simp only[kJ]at h1 h5;rw[E.o.2.2]at h1;obtain rfl:=kH h1;exact U h5);(have aP:(AR f B==3)=false:=by simpa using U);(have aQ:(AR f B != 3)=true:=by simpa using U);go_wp2;go_ret;exact⟨.no s.o,z.o.1⟩
 have aA:n=k:=oM;subst aA;have HY:Hid (decide ((n:Int)<=64)=true↔BG p):=by show _↔_;rw[mP];exact⟨fun e=>⟨by rw[q.o.1];omega,by rw[q.o.1];exact X.o⟩,fun e=>by have:=e.1;rw[q.o.1]at this;omega⟩
 go_wp2;go_ret;exact⟨.of HY.o,l.o.1⟩
end Go.Proofs.YthjbicggfnnonaaGreatDoor
