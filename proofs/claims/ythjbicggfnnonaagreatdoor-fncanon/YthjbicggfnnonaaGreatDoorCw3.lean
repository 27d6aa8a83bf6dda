import Derived.Test.YthjbicggfnnonaaGreatDoorCw2
import Derived.Deep.RegionLaw
import Derived.Deep.AppendLies
namespace Go.Proofs.YthjbicggfnnonaaGreatDoor
open Go.ChangeShapes Go.WideShapes Go.ChangeAt Go.RowKit
set_option linter.unusedVariables false
set_option maxHeartbeats 2000000
set_option maxRecDepth 100000
variable {w c u b u':World}{base g k n B X q:Nat}{e t:TypeId}{s v v':Value}{xs:List Value}{fr:Nat×Nat}{L M A C:List Ax}{d:Array Value}{p:MP}{r:Ax}{code:List MI}
structure MB where
 cK:Int
 last:Int
 next:List Int
def Fx(x:MB×Value):List Value:=[.int .i64 x.1.cK,.int .i64 x.1.last,x.2]
theorem BT(x:MB×Value):(Fx x).length=3:=rfl
theorem Wa:(Tryz.prog.info? 216).map (fun i=>(i.zero,i.size,i.bytes))=some (some (.agg #[.int .i64 0,.int .i64 0,.slice none 0 0]),3,40):=kR
theorem B3{c:Array Value}(h:w.ownsRow base e k s n xs)(f:w.heap[g]?=some (Obj.cells c t fr))(i:e≠t):∀j,s.ownBlock=some j->j≠g:=by
 intro j b d;subst d;rcases h.2 with⟨rfl,_⟩|⟨p,l,m,rfl,_,a,_⟩
 . cases b
 simp only[Value.ownBlock,i4]at b;subst b;rw[f]at a;simp only[i4,lZ]at a;exact i a.2.1.symm
theorem JN.set{L:List (Value×List Int)}(h:JN w base L){c:Array Value}(d:w.heap[g]?=some (Obj.cells c t fr))(f:2≠t)(i:Nat)(x:Value):JN (w.setCell ⟨g,i,none⟩ x) base L:=⟨fun y b=>i9 (h.own y b) (a:=⟨g,i,none⟩) (fun e=>B3 (h.own y b) d f g e rfl) x,h.sep⟩
structure Wb(base:Nat)(w w':World):Prop where
 aC:Below base w w'
 cC:∀(k:Nat) (cur:Array Value) (t:TypeId),w.heap[k]?=some (Obj.cells cur t (0,0))->t≠2->t≠216->w'.heap[k]?=some (Obj.cells cur t (0,0))
theorem Wb.refl(base:Nat)(w:World):Wb base w w:=⟨kV _ _,fun _ _ _ h _ _=>h⟩
theorem Wb.trans{v:World}(h:Wb base u v)(b:Wb base v w):Wb base u w:=⟨h.aC.trans b.aC,fun k a t c h1 h2=>b.cC k a t (h.cC k a t c h1 h2) h1 h2⟩
theorem Wv.wb{w a:World}(h:Wv base w a):Wb base w a:=⟨h.aC,fun k b t c h1 _=>h.cC k b t c h1⟩
theorem Wb.iO(a:w.heap[g]?=some (Obj.cells d 216 (0,0)))(f:base<=g)(i:Nat)(x:Value):Wb base w (w.setCell ⟨g,i,none⟩ x):=by
 refine⟨(kV _ _).setCell f _,fun k c t b h1 h2=> ?_⟩;rw[km w _ k x ?_]
 . exact b
 intro e;simp only[]at e;subst e;rw[b]at a;simp only[i4,lZ]at a;exact h2 a.2.1
theorem AQ{c:Nat}(h:w.ownsRow base e k (.slice (some ⟨g,0,none⟩) n c) n xs):base<=g/\∃a,w.heap[g]?=some (Obj.cells a e (0,0)):=by
 rcases h.2 with⟨b,_⟩|⟨j,i,a,b,d,f,_⟩
 . cases b
 cases b
 exact⟨d,a,f⟩
structure Dh(f:MF):Prop where
 ij:f.params.length<=8
 loc:f.params.length+f.locals.length<=32
 pt:f.params.all Fk=true
 lt:f.locals.all Fk=true
 gT:f.result=0\/Fk f.result=true
 ix:¬f.code.length=0
 iJ:f.code.length<=1024
def OO(f:MF):Prop:=f.params.length=0/\f.result=0
def Cw(f:MF)(a:Bool):Prop:=Dh f/\(a=true->OO f)
theorem Pe(v:VF)(f:MF)(g:Bool)(w:World)(E:f.small)(h:IG w v f):
 Calls Tryz.prog 40 #[.agg #[v.p,.int .i64 f.result,v.l,v.c],.bool g] w fun e O=>Au e (Cw f g)/\Below w.heap.size w O:=by
 have n:Hid (IG w v f/\f.small):=⟨h,E⟩
 obtain⟨G,c1,z⟩:=h.1.bW;obtain⟨H,c2,A⟩:=h.2.1.bW;obtain⟨I,c3,B⟩:=h.2.2.bW;obtain⟨Z,Y,X⟩:=v;obtain⟨U,V,W⟩:=E;simp only[]at z A B;subst z A B;clear h;have d:Hid (Below w.heap.size w (w.alloc (.cells #[.slice G f.params.length c1,.int .i64 f.result,.slice H f.locals.length c2,.slice I f.code.length c3] 68))):=Aa _ _;by_cases J:8<f.params.length
 . (have b:Hid (¬(Cw f g)):=fun e=>absurd e.1.ij oM);clear n;generalize f.params.length=k at*;go_enter Tryz.func40,Tryz.ntmps40;go_wp2;go_ret;exact⟨.no b.o,d.o⟩
 by_cases K:32<f.params.length+f.locals.length
 . (have b:Hid (¬(Cw f g)):=fun e=>absurd e.1.loc oM);clear n;generalize f.params.length=k at*;generalize f.locals.length=P at*;go_enter Tryz.func40,Tryz.ntmps40;go_wp2;go_ret;exact⟨.no b.o,d.o⟩
 have Q:¬(8:Int)<(f.params.length:Int):=oM;have S:¬(32:Int)<(f.params.length:Int)+(f.locals.length:Int):=oM;have q:Hid (f.params.length<=8/\f.params.length+f.locals.length<=32):=⟨oM,oM⟩
 go_enter Tryz.func40,Tryz.ntmps40;go_wp2_with fail;refine(Hk _ f.params _ n.o.2.1 (n.o.1.1.aa d.o lR)).mono ?_;rintro e u ⟨rfl,rfl⟩;cases t1:f.params.all Fk
 . (have b:Hid (¬(Cw f g)):=fun e=>by have:=e.1.pt;simp[t1]at this);clear t1;go_wp2;go_ret;exact⟨.no b.o,d.o⟩
 have t:=Ag t1;clear t1;go_wp2_with fail;refine(Hk _ f.locals _ n.o.2.2.1 (n.o.1.2.1.aa d.o lR)).mono ?_;rintro e u ⟨rfl,rfl⟩;cases t1:f.locals.all Fk
 . (have b:Hid (¬(Cw f g)):=fun e=>by have:=e.1.lt;simp[t1]at this);clear t1;go_wp2;go_ret;exact⟨.no b.o,d.o⟩
 have x:=Ag t1;clear t1;generalize D:f.result=R at*;generalize h1:f.params.length=k at*;generalize C:f.code.length=i at*;have a:Hid (f.result=R/\f.params.length=k/\f.code.length=i):=⟨D,h1,C⟩
 clear D h1 C J K;by_cases s:R=0
 . subst s;by_cases j:i=0
   . subst j;(have b:Hid (¬(Cw f g)):=fun e=>e.1.ix a.o.2.2);go_wp2;go_ret;exact⟨.no b.o,d.o⟩
   (have L:((i:Int)==0)=false:=by simpa using j);by_cases M:1024<i
   . have y:(1024:Int)<(i:Int):=oM;(have b:Hid (¬(Cw f g)):=fun e=>absurd e.1.iJ (by rw[a.o.2.2];omega));go_wp2;go_ret;exact⟨.no b.o,d.o⟩
   have y:¬(1024:Int)<(i:Int):=oM;cases g
   . have r:Hid (Cw f false):=⟨⟨by rw[a.o.2.1];exact q.o.1,by rw[a.o.2.1];exact q.o.2,t.o,x.o,.inl a.o.1,by rw[a.o.2.2];exact j,by rw[a.o.2.2];omega⟩,fun h=>by cases h⟩;go_wp2;go_ret;exact⟨.hQ r.o,d.o⟩
   by_cases m:k=0
   . subst m;have r:Hid (Cw f true):=⟨⟨by rw[a.o.2.1];exact q.o.1,by rw[a.o.2.1];exact q.o.2,t.o,x.o,.inl a.o.1,by rw[a.o.2.2];exact j,by rw[a.o.2.2];omega⟩,fun _=>⟨a.o.2.1,a.o.1⟩⟩;go_wp2;go_ret;exact⟨.hQ r.o,d.o⟩
   (have N:((k:Int)==0)=false:=by simpa using m);(have b:Hid (¬(Cw f true)):=fun e=>m (by rw[<-a.o.2.1];exact(e.2 rfl).1));go_wp2;go_ret;exact⟨.no b.o,d.o⟩
 have T:(R==0)=false:=by simpa using s
 go_wp2_with fail;refine(Ey R _).mono ?_;rintro e u ⟨rfl,rfl⟩;cases t1:Fk R
 . (have b:Hid (¬(Cw f g)):=fun e=>by have:=e.1.gT;rw[a.o.1]at this;simp[s,t1]at this);go_wp2;go_ret;exact⟨.no b.o,d.o⟩
 have F:=Ag t1;clear t1;by_cases j:i=0
 . subst j;(have b:Hid (¬(Cw f g)):=fun e=>e.1.ix a.o.2.2);go_wp2;go_ret;exact⟨.no b.o,d.o⟩
 have L:((i:Int)==0)=false:=by simpa using j
 by_cases M:1024<i
 . have y:(1024:Int)<(i:Int):=oM;(have b:Hid (¬(Cw f g)):=fun e=>absurd e.1.iJ (by rw[a.o.2.2];omega));go_wp2;go_ret;exact⟨.no b.o,d.o⟩
 have y:¬(1024:Int)<(i:Int):=oM;cases g
 . have r:Hid (Cw f false):=⟨⟨by rw[a.o.2.1];exact q.o.1,by rw[a.o.2.1];exact q.o.2,t.o,x.o,.inr (by rw[a.o.1];exact F.o),by rw[a.o.2.2];exact j,by rw[a.o.2.2];omega⟩,fun h=>by cases h⟩;go_wp2;go_ret;exact⟨.hQ r.o,d.o⟩
 by_cases m:k=0
 . subst m;(have b:Hid (¬(Cw f true)):=fun e=>s (by rw[<-a.o.1];exact(e.2 rfl).2));go_wp2;go_ret;exact⟨.no b.o,d.o⟩
 have N:((k:Int)==0)=false:=by simpa using m
 have b:Hid (¬(Cw f true)):=fun e=>m (by rw[<-a.o.2.1];exact(e.2 rfl).1)
 go_wp2;go_ret;exact⟨.no b.o,d.o⟩
theorem Aw.ii{b:Nat}{x y z t:Value}{c:TypeId}(h:Aw w b #[x,y,z,t] c):Ep w b x y z t:=by have a:w.ownsRow 0 c 4 (sG b 1 1) 1 [x,y,z,t]:=⟨rfl,.inr ⟨b,1,#[x,y,z,t],rfl,lr _,h,Nat.le_refl _,oX,rfl,rfl⟩⟩;exact⟨a.cellAt 0 oM,a.cellAt 1 oM,a.cellAt 2 oM,a.cellAt 3 oM⟩
structure IX(w:World)(v0:VP)(p:MP)(base:Nat)(u:World)(v:Value)(bs:List Value):Prop where
 own:u.ownsRow w.heap.size 5 1 v bs.length bs
 arg:Aw u w.heap.size #[v0.r,v0.k,v0.f,v0.t] 29
 prog:EZ u base v0 p
 aC:Below w.heap.size w u
theorem IX.call{d:VP}{b:List Value}(h:IX w d p base u v b)(a:Below u.heap.size u c):IX w d p base c v b:=⟨Ai h.own a lR,h.arg.aa a,h.prog.aa a lR,Ac h.aC lR a⟩
theorem IX.more{d:VP}{e a:List Value}(h:IX w d p base u v e)(g:c.ownsRow w.heap.size 5 1 v' a.length a)(b:u.grownBy c v.ownBlock):IX w d p base c v' a:=⟨g,h.arg.grown b h.own dC,h.prog.grown b h.own,h.aC.grown b h.aC.size (fun k f=>(h.own.lt k f).1)⟩
theorem IX.put{e:VP}{d:World}{a c:List Value}(h:IX w e p base u v a)(b:Bw w.heap.size u v d v' (a++c)):IX w e p base d v' (a++c):=h.more b.own b.grown
def Cb(r:List Int):List Value:=Az r.length 2++CV 1 r
def Bz(c:MC):List Value:=Az c.type 1++Az c.word 4
def BI(x:MI):List Value:=CV 1 [x.op,x.a]++Az x.b 2++Az x.c 4
def BC(f:MF):List Value:=Az f.params.length 1++CV 1 f.params++CV 1 [f.result,f.locals.length]++CV 1 f.locals++Az f.code.length 2++f.code.flatMap BI
def Cf(c:MT):List Value:=CV 2 [c.func,c.head]++Az c.counter 1++Az c.init 4
def B8:List Value:=[.int .u8 80,.int .u8 76,.int .u8 67,.int .u8 49]
def CY(p:MP):List Value:=B8++Az 1 2++p.aB.flatMap Cb++Az p.ag.length 2++p.ag.flatMap Bz++Az p.funcs.length 2++p.funcs.flatMap BC++Az p.a7.length 2++p.a7.flatMap Cf
theorem JA(r:List Int):(Cb r).length=2+r.length:=by simp[Cb,Ak,C5]
theorem Kd(c:MC):(Bz c).length=5:=by simp[Bz,Ak]
theorem GW(x:MI):(BI x).length=8:=by simp[BI,Ak,C5]
theorem KH(c:MT):(Cf c).length=9:=by simp[Cf,Ak,C5]
theorem Hf(f:MF):(BC f).length=5+f.params.length+f.locals.length+f.code.length*8:=by unfold BC;rw[f6,Av BI 8 GW];simp[Ak,C5];omega
section
variable {P:Program} {ops:Array Oper} {Q:Exit->Act->World->Prop} {md:Region.Mode} {S:World->Prop} {n f:Nat} {d:Array Bool} {a:Act} {w:World}
def Wm(md:Region.Mode)(ops:Array Oper)(d:Array Bool)(i:Nat):Bool:=Region.noSelect ops&&Region.free md ops d i&&(Region.ready md ops d).contains i
theorem Tf{i:Nat}(h:Wm md ops d i=true):Region.noSelect ops=true/\Region.free md ops d i=true/\(Region.ready md ops d).contains i=true:=by simp only[Wm,nL]at h;exact⟨h.1.1,h.1.2,h.2⟩
theorem An(i:Nat){b:Oper}(h:wpAnyH P md ops Q S f (d.setIfInBounds i true) (a.put b.dst v) w)(m:ops[i]?=some b:=by rfl)(l:Wm md ops d i=true:=by kernel_rfl)(g:∀c a w,Q (.panic c) (a.put b.dst v) w->Q (.panic c) a w:=by exact fun _ _ _ h=>h)(hw:Region.wanted b (yielded ops a.tmps)=true:=by rfl)
 (n:∀w,S w->(execOp a.eval b).run P w=.ok (.value v) w:=by(intro w e;(try dsimp only at e);(repeat obtain⟨p,e⟩:=e);go_simp;(try with_reducible rfl))) (j:S w:=by assumption):wpAnyH P md ops Q S (f+1) d a w:=
 have k:=Tf l
 wpAnyH_take m k.1 k.2.1 k.2.2 g (.inl ⟨hw,n⟩) j h
theorem tkU(i:Nat){b:Oper}(h:wpAnyH P md ops Q S f (d.setIfInBounds i true) (a.put b.dst undef) w)(l:ops[i]?=some b:=by rfl)(j:Wm md ops d i=true:=by kernel_rfl)(e:∀c a w,Q (.panic c) (a.put b.dst undef) w->Q (.panic c) a w:=by exact fun _ _ _ h=>h)(hw:Region.wanted b (yielded ops a.tmps)=false:=by rfl)(g:S w:=by assumption):wpAnyH P md ops Q S (f+1) d a w:=
 have k:=Tf j
 wpAnyH_take l k.1 k.2.1 k.2.2 e (.inr ⟨hw,rfl⟩) g h
theorem B7(i:Nat){b:Oper}(h:DG P md ops Q S n f (d.setIfInBounds i true) (a.put b.dst v) w)(q:ops[i]?=some b:=by rfl)(p:(Wm md ops d i&&Qa md ops n d&&decide (i<n))=true:=by kernel_rfl)(l:∀c a w,Q (.panic c) (a.put b.dst v) w->Q (.panic c) a w:=by exact fun _ _ _ h=>h)(hw:Region.wanted b (yielded ops a.tmps)=true:=by rfl)
 (r:∀w,S w->(execOp a.eval b).run P w=.ok (.value v) w:=by(intro w e;(try dsimp only at e);(repeat obtain⟨s,e⟩:=e);go_simp;(try with_reducible rfl))) (m:S w:=by assumption):DG P md ops Q S n (f+1) d a w:=
 have g:=Bool.and_eq_true_iff.1 p
 have j:=Bool.and_eq_true_iff.1 g.1
 have k:=Tf j.1
 OC q k.1 k.2.1 k.2.2 j.2 (mv g.2) l (.inl ⟨hw,r⟩) m h
theorem rdH(i:Nat){o:Oper}(h:∀b:Act->World->Prop,Shut (∀a w,S w->(S w->wpAnyH P md ops Q S f (d.setIfInBounds i true) a w)->b a w)->if Region.wanted o (yielded ops a.tmps)=true then Oper.wp P o a w b Q else b (a.put o.dst undef) w)(e:Region.ready md ops d=[i]:=by kernel_rfl)(c:ops[i]?=some o:=by rfl):wpAnyH P md ops Q S (f+1) d a w:=wpAnyH_ready e sP (AllReadyH.cons c h AllReadyH.nil)
theorem DV(i:Nat){o:Oper}(h:∀b:Act->World->Prop,Shut (∀a w,(i<n->S w)->((i<n->S w)->DG P md ops Q S n f (d.setIfInBounds i true) a w)->b a w)->if Region.wanted o (yielded ops a.tmps)=true then Oper.wp P o a w b Q else b (a.put o.dst undef) w)(e:Region.ready md ops d=[i]:=by kernel_rfl)(c:ops[i]?=some o:=by rfl):DG P md ops Q S n (f+1) d a w:=GT e sP (Cl.cons c h Cl.nil)
theorem LL(i j:Nat){o c:Oper}(h:(∀b:Act->World->Prop,Shut (∀a w,S w->(S w->wpAnyH P md ops Q S f (d.setIfInBounds i true) a w)->b a w)->if Region.wanted o (yielded ops a.tmps)=true then Oper.wp P o a w b Q else b (a.put o.dst undef) w))(e:(∀b:Act->World->Prop,Shut (∀a w,S w->(S w->wpAnyH P md ops Q S f (d.setIfInBounds j true) a w)->b a w)->if Region.wanted c (yielded ops a.tmps)=true then Oper.wp P c a w b Q else b (a.put c.dst undef) w))(l:Region.ready md ops d=[i,j]:=by kernel_rfl)(g:ops[i]?=some o:=by rfl)(k:ops[j]?=some c:=by rfl):wpAnyH P md ops Q S (f+1) d a w:=wpAnyH_ready l sP (AllReadyH.cons g h (AllReadyH.cons k e AllReadyH.nil))
theorem Wj(i j k:Nat){o c q:Oper}(h:(∀b:Act->World->Prop,Shut (∀a w,S w->(S w->wpAnyH P md ops Q S f (d.setIfInBounds i true) a w)->b a w)->if Region.wanted o (yielded ops a.tmps)=true then Oper.wp P o a w b Q else b (a.put o.dst undef) w))(e:(∀b:Act->World->Prop,Shut (∀a w,S w->(S w->wpAnyH P md ops Q S f (d.setIfInBounds j true) a w)->b a w)->if Region.wanted c (yielded ops a.tmps)=true then Oper.wp P c a w b Q else b (a.put c.dst undef) w))(h2:(∀b:Act->World->Prop,Shut (∀a w,S w->(S w->wpAnyH P md ops Q S f (d.setIfInBounds k true) a w)->b a w)->if Region.wanted q (yielded ops a.tmps)=true then Oper.wp P q a w b Q else b (a.put q.dst undef) w))(n:Region.ready md ops d=[i,j,k]:=by kernel_rfl)(g:ops[i]?=some o:=by rfl)(l:ops[j]?=some c:=by rfl)(m:ops[k]?=some q:=by rfl):wpAnyH P md ops Q S (f+1) d a w:=wpAnyH_ready n sP (AllReadyH.cons g h (AllReadyH.cons l e (AllReadyH.cons m h2 AllReadyH.nil)))
end
theorem _root_.Go.Shut.o{p:Prop}(h:Shut p):p:=h
def Tu(w:World)(v:Value)(f:MB):Prop:=Rd w 1 v f.next.length (f.next.flatMap Ad)
def MB.small(f:MB):Prop:=f.next.length<=1048576
theorem Tu.aa{w a:World}{f:MB}(h:Tu w v f)(c:Below B w a)(b:w.heap.size<=B):Tu a v f:=Rd.aa h c b
def Kv(w:World)(s:Value)(a:List MB):Prop:=∃xs:List (MB×Value),xs.map Prod.fst=a/\Rd w 3 s a.length (xs.flatMap Fx)/\∀x∈xs,Tu w x.2 x.1
theorem Kv.aa{d:World}{a:List MB}(h:Kv w s a)(c:Below B w d)(b:w.heap.size<=B):Kv d s a:=by obtain⟨xs,h1,h2,e⟩:=h;exact⟨xs,h1,h2.aa c b,fun x f=>(e x f).aa c b⟩
def EM(B:Nat)(u:World)(wb:Nat)(a:List Value):Prop:=∃v,Aw u wb #[v] 56/\u.ownsRow B 5 1 v a.length a
structure Wg(B:Nat)(u u':World):Prop where
 aC:Below B u u'
 cC:∀(k:Nat) (cur:Array Value) (t:TypeId),u.heap[k]?=some (Obj.cells cur t (0,0))->t≠5->t≠56->u'.heap[k]?=some (Obj.cells cur t (0,0))
theorem Wg.refl(B:Nat)(u:World):Wg B u u:=⟨kV _ _,fun _ _ _ h _ _=>h⟩
theorem Wg.trans{v:World}(h:Wg B u v)(b:Wg B v w):Wg B u w:=⟨h.aC.trans b.aC,fun k a t c h1 h2=>b.cC k a t (h.cC k a t c h1 h2) h1 h2⟩
theorem Wg.gz(h:Below u.heap.size u b)(c:B<=u.heap.size):Wg B u b:=⟨h.mono c,fun k d t a _ _=>by rw[h.block k (kN.1 a).1];exact a⟩
theorem Wg.size{u a:World}(h:Wg B u a):u.heap.size<=a.heap.size:=h.aC.size
theorem Wg.jk{b:Nat}{g:World}(a:u.grownBy g v.ownBlock)(f:u.ownsRow B 5 k v n xs)(m:B<=u.heap.size):Wg B u g:=by
 refine⟨⟨a.os,a.tape,a.output,a.size,fun k c=>a.block k oM (fun e=>by have:=(f.lt k e.symm).1;omega)⟩,fun k i t c h1 h2=> ?_⟩;rw[a.block k (kN.1 c).1 ?_]
 . exact c
 intro e;rcases f.2 with⟨rfl,_⟩|⟨l,h,j,rfl,_,d,_⟩
 . cases e
 simp only[Value.ownBlock,i4]at e;subst e;rw[c]at d;simp only[i4,lZ]at d;exact h1 d.2.1
theorem Wg.iO{B wb:Nat}(a:Aw u wb d 56)(f:B<=wb)(i:Nat)(x:Value):Wg B u (u.setCell ⟨wb,i,none⟩ x):=by
 refine⟨(kV _ _).setCell f _,fun k c t b h1 h2=> ?_⟩;rw[km u _ k x ?_]
 . exact b
 intro e;simp only[]at e;subst e;unfold Aw at a;rw[b]at a;simp only[i4,lZ]at a;exact h2 a.2.1
theorem Wg.own(h:Wg B u c)(b:u.ownsRow base e k s n xs)(h1:e≠5)(h2:e≠56):c.ownsRow base e k s n xs:=by
 refine⟨b.1,?_⟩;rcases b.2 with f|⟨g,cap,a,d,i,j,l⟩
 . exact .inl f
 exact .inr ⟨g,cap,a,d,i,h.cC g a e j h1 h2,l⟩
theorem Wg.iW(h:Wg B u b){v:VF}{f:MF}(a:Fs u base v f):Fs b base v f:=⟨h.own a.1 dC dC,h.own a.2.1 dC dC,h.own a.2.2 dC dC⟩
theorem Wg.jF(h:Wg B u b){a:List MF}(d:DZ u base s a):DZ b base s a:=by obtain⟨xs,h1,h2,c⟩:=d;exact⟨xs,h1,h.own h2 dC dC,fun x e=>h.iW (c x e)⟩
theorem Wg.jS{u a:World}(h:Wg B u a){rs:List (List Int)}(c:Gw u base s rs):Gw a base s rs:=by obtain⟨xs,h1,h2,b⟩:=c;exact⟨xs,h1,h.own h2 dC dC,fun x d=>h.own (b x d) dC dC⟩
theorem Wg.ik(h:Wg B u b){v:VP}(a:EZ u base v p):EZ b base v p:=⟨h.jS a.aB,h.own a.ag dC dC,h.jF a.funcs,h.own a.a7 dC dC⟩
theorem Wg.block(h:Wg B u c){b:Nat}{a:Array Value}(d:Aw u b a t)(h1:t≠5)(h2:t≠56):Aw c b a t:=h.cC b a t d h1 h2
theorem EM.call{wb:Nat}{a:List Value}(h:EM B u wb a)(b:Below u.heap.size u c):EM B c wb a:=by obtain⟨v,h1,h2⟩:=h;exact⟨v,h1.aa b,Ai h2 b lR⟩
theorem Bu(B wb:Nat)(c:List Value)(x:Int)(n:Nat)(w:World)(h1:1<=n)(U:n<=8)(V:c.length<=1073741824)(F:B<=w.heap.size)(hw:B<=wb)(h:EM B w wb c):
 Calls Tryz.prog 17 #[.pointer (some ⟨wb,0,none⟩),iZ x,iZ (n:Int)] w fun e l=>e=.returned (.tuple #[])/\EM B l wb (c++Az x n)/\Wg B w l:=by
 obtain⟨Q,L,N,O,P⟩:=kS infoBD;obtain⟨v,G,k⟩:=h;have H:=Ag (f7 G k);have I:Hid (∀u:World,Calls Tryz.prog 48 #[iZ x,iZ (n:Int)] u fun e l=>∃r,e=.returned r/\l.ownsRow u.heap.size 5 1 r n (Az x n)/\Below u.heap.size u l):=fun u=>by have:=Ir x (n:Int) u;rw[show Q1 (n:Int)=n from by unfold Q1;rw[lI oM];exact kJ n]at this;exact this
 clear G k;have z:=((H.o.1.aa (Ae w)).cell 0);have A:w.drew.cell? ⟨wb,0,none⟩=some v:=z;clear z;go_enter Tryz.func17,Tryz.ntmps17;go_wp2_with fail;go_region_law (first
  |(refine step_append_lies _ rfl (.tmp 10) (.tmp 13) 22 rfl B 5 Q (.int .u8 0) 1 1 Tryz.underlying22 L N O P rfl dC v c.length c oE d.o.1 ⟨D,0,none⟩ n c1 (Az x n) oE (by rw[Ak,kn]) (Bm d.o.2.1) (AX x n) oM oX oM d.o.2.2.2 _ rfl ?_;intro g cap j k s J M;have f:Hid (j.ownsRow B 5 1 (sG g (c.length+n) cap) (c.length+n) (c++Az x n)/\Aw j wb #[v] 56/\Wg B w j):=⟨k,d.o.2.2.1.grown s d.o.1 dC,(Wg.gz m.o F).trans (Wg.jk (b:=0) s d.o.1 d.o.2.2.2)⟩;have A:j.cell? ⟨wb,0,none⟩=some v:=f.o.2.1.cell 0;have Z:=f.o.2.1.frozen 0;clear k s J M)
  |(go_simp;go_at_call 48;refine(I.o _).mono ?_;rintro e i ⟨r,rfl,t,C⟩;obtain⟨D,c1,rfl,_,_⟩:=t.form oM;have m:Hid (Below w.heap.size w i):=Gf C lR;have d:Hid (i.ownsRow B 5 1 v c.length c/\i.ownsRow w.heap.size 5 1 (sG D n c1) n (Az x n)/\Aw i wb #[v] 56/\B<=i.heap.size):=⟨Ai H.o.2 m.o lR,t,H.o.1.aa m.o,jX F m.o.size⟩;have A:i.cell? ⟨wb,0,none⟩=some v:=d.o.2.2.1.cell 0;clear t C))
 all_goals
  have y:Hid (EM B (j.setCell ⟨wb,0,none⟩ (sG g (c.length+n) cap)) wb (c++Az x n)/\Wg B w (j.setCell ⟨wb,0,none⟩ (sG g (c.length+n) cap))):=by
   refine⟨⟨sG g (c.length+n) cap,?_,?_⟩,f.o.2.2.trans (Wg.iO f.o.2.1 hw 0 _)⟩
   . exact f.o.2.1.set 0 _
   have K:¬g=wb:=fun e=>by
    subst e;have E:=f.o.2.1;unfold Aw at E;rcases f.o.1.2 with⟨p,_⟩|⟨T,R,S,p,_,q,_⟩
    . cases p
    (cases p);rw[E]at q;simp only[i4,lZ]at q;exact absurd q.2.1 dC
   have:=i9 f.o.1 (a:=⟨wb,0,none⟩) (by simp only[Value.ownBlock];intro e;exact K (kH e)) (sG g (c.length+n) cap);rw[f6,Ak];exact this
  go_end0;exact⟨rfl,y.o.1,y.o.2⟩
structure CP where
 S:Nat
 a:Option Addr
 len:Nat
 cap:Nat
theorem AG.grow{w a:World}(h:AG g w a):w.grownBy a (some g):=⟨h.os,h.tape,h.output,h.size,fun k b c=>h.block k b (fun e=>c (by rw[e]))⟩
theorem AG.setCell(h:AG g w u){a:Addr}(d:w.heap.size<=a.block)(x:Value):AG g w (u.setCell a x):=⟨h.os,h.tape,h.output,by rw[lM];exact h.size,fun k c b=>(km u a k x oM).trans (h.block k c b)⟩
theorem AG.grown(h:AG g w u){r:Option Nat}(a:u.grownBy u' r)(d:∀k,r=some k->w.heap.size<=k):AG g w u':=⟨a.os.trans h.os,a.tape.trans h.tape,a.output.trans h.output,jX h.size a.size,fun k b c=>(a.block k (lA b h.size) (fun e=>by have:=d k e.symm;omega)).trans (h.block k b c)⟩
structure LT(w u:World)(s:CP)(p:Int):Prop where
 gJ:AG s.S w u
 src:Dy u s.S s.a s.len s.cap p
 lo:s.S<w.heap.size
section
variable {w u u':World} {s:CP} {p p':Int}
theorem LT.size(h:LT w u s p):w.heap.size<=u.heap.size:=h.gJ.size
theorem LT.on(h:LT w u s p)(a:Below u.heap.size u u'):LT w u' s p:=⟨h.gJ.trans (.gz a),h.src.below a,h.lo⟩
theorem LT.draw(h:LT w u s p)(c:Dy u' s.S s.a s.len s.cap p')(b:AG s.S u u'):LT w u' s p':=⟨h.gJ.trans b,c,h.lo⟩
theorem LT.setCell(h:LT w u s p){a:Addr}(b:w.heap.size<=a.block)(x:Value):LT w (u.setCell a x) s p:=⟨h.gJ.setCell b x,h.src.aa fun k c=>km u a k x (by have:=h.lo;omega),h.lo⟩
theorem LT.grown(h:LT w u s p){r:Option Nat}(a:u.grownBy u' r)(b:∀k,r=some k->w.heap.size<=k):LT w u' s p:=⟨h.gJ.grown a b,h.src.aa fun k c=>a.block k (by have:=h.lo;have:=h.size;omega) (fun e=>by have:=b k e.symm;have:=h.lo;omega),h.lo⟩
end
theorem CJ.drawn(h:CJ u w.heap.size L)(d:AG g u u')(f:g<w.heap.size):CJ u' w.heap.size L:=⟨fun r a=>BJ (h.own r a) d.grow (fun b c e=>by have:=(h.lt r a b c).1;simp only[i4]at e;omega),h.sep⟩
structure Bs(w u:World)(s:CP)(p:Int)(Ls:List Ax):Prop where
 sep:CJ u w.heap.size Ls
 aC:LT w u s p
section
variable {w u u':World} {s:CP} {p:Int} {Ls:List Ax} {v:VP} {F:List (List Int×Value)} {cs:List MC} {G:List (MF×VF)} {ts:List MT} {D:List Ax}
theorem Bs.start(h:LT w u s p):Bs w u s p []:=⟨CJ.nil _ _,h⟩
theorem Bs.draw{p':Int}(h:Bs w u s p Ls)(c:Dy u' s.S s.a s.len s.cap p')(b:AG s.S u u'):Bs w u' s p' Ls:=⟨h.sep.drawn b h.aC.lo,h.aC.draw c b⟩
theorem Bs.size(h:Bs w u s p Ls):w.heap.size<=u.heap.size:=h.aC.size
theorem Bs.aa(h:Bs w u s p Ls)(a:Below u.heap.size u u'):Bs w u' s p Ls:=⟨h.sep.aa a,h.aC.on a⟩
theorem Bs.box(h:Bs w u s p Ls)(t:TypeId)(q:Nat)(xs:List Value)(a:xs.length=q):Bs w (u.alloc (.cells xs.toArray t)) s p (Ls++[AH u.heap.size t q xs]):=⟨h.sep.box h.size t q xs a,h.aC.on (Aa _ _)⟩
theorem Bs.rows(h:Bs w u s p Ls)(a:Below u.heap.size u u')(c:CJ u' u.heap.size M):Bs w u' s p (Ls++M):=⟨(h.aa a).sep.en c (fun x d g b=>(h.sep.lt x d g b).2) h.size,(h.aa a).aC⟩
theorem Bs.row(h:Bs w u s p Ls)(a:Below u.heap.size u u')(b:r.own u' u.heap.size):Bs w u' s p (Ls++[r]):=h.rows a ⟨fun x c=>by rw[kM.1 c];exact b,mo _ _⟩
theorem Bs.set(h:Bs w u s p (A++AH X t q xs::C))(i:Nat)(a:i<q)(x:Value):Bs w (u.setCell ⟨X,i,none⟩ x) s p (A++AH X t q (xs.set i x)::C):=⟨h.sep.iK i a x,h.aC.setCell ((h.sep.lt (AH X t q xs) sP X rfl).1) _⟩
theorem Bs.grow(h:Bs w u s p (A++r::C))(a:Ax)(e:a.own u' w.heap.size)(b:u.grownBy u' r.v.ownBlock)(c:a.v.ownBlock=r.v.ownBlock\/∀g,a.v.ownBlock=some g->u.heap.size<=g):Bs w u' s p (A++a::C):=⟨h.sep.grow a e b c,h.aC.grown b (fun k d=>(h.sep.lt r sP k d).1)⟩
theorem Bs.en(h:Bs w u s p (A++r::C))(a:Ax)(d:a.own u' w.heap.size)(b:u.grownBy u' r.v.ownBlock)(c:a.v.ownBlock=r.v.ownBlock\/a.v.ownBlock=some u.heap.size):Bs w u' s p (A++a::C):=h.grow a d b (c.imp_right fun e g b=>by rw[e]at b;cases b;exact Nat.le_refl _)
theorem Bs.sub(h:Bs w u s p Ls)(a:M.Sublist Ls):Bs w u s p M:=⟨h.sep.sub a,h.aC⟩
theorem Bs.perm(h:Bs w u s p Ls)(a:Ls.Perm M):Bs w u s p M:=⟨h.sep.perm a,h.aC⟩
theorem Bs.nil(h:Bs w u s p Ls)(e:TypeId)(q:Nat):Bs w u s p (Ls++[⟨e,q,sN,0,[]⟩]):=⟨h.sep.snoc (N:=u.heap.size) (fun x b g a=>(h.sep.lt x b g a).2) (lJ _ _ _ _) h.size,h.aC⟩
theorem Bs.cell(h:Bs w u s p Ls)(b:AH X t q xs∈Ls)(i:Nat)(a:i<q):u.cell? ⟨X,i,none⟩=xs[i]?:=AH.cell (h.sep.own _ b) i a
theorem Bs.frozen(h:Bs w u s p Ls)(a:AH X t q xs∈Ls)(i:Nat):u.frozen? ⟨X,i,none⟩=false:=kx (show u.ownsRow w.heap.size t q (sG X 1 1) 1 xs from h.sep.own _ a) i
theorem Bs.gZ{a:Value}(h:Bs w u s p (Ab v F cs G ts (A3 a code::D)))(xs:List MI)(V:Value)(d:u'.ownsRow w.heap.size 96 4 V (code.length+xs.length) (code.flatMap MI.cells++xs.flatMap MI.cells))(c:u.grownBy u' a.ownBlock)(b:V.ownBlock=a.ownBlock\/V.ownBlock=some u.heap.size):Bs w u' s p (Ab v F cs G ts (A3 V (code++xs)::D)):=by rw[Dt]at h⊢;exact h.en (A3 V (code++xs)) (by simpa[Ax.own,A3]using d) c b
theorem Bs.gS(h:Bs w u s p (Ab v F cs G ts D))(x:MC)(V:Value)(c:u'.ownsRow w.heap.size 63 2 V (cs.length+1) (cs.flatMap MC.cells++x.cells))(b:u.grownBy u' v.k.ownBlock)(a:V.ownBlock=v.k.ownBlock\/V.ownBlock=some u.heap.size):Bs w u' s p (Ab {v with k:=V} F (cs++[x]) G ts D):=Bs.en (A:=Bf v.r F::A5 F) h (Cd V (cs++[x])) (by simpa[Ax.own,Cd]using c) b a
theorem Bs.ic{y:MF×VF}(h:Bs w u s p (Ab v F cs G ts D++Bl y))(V:Value)(c:u'.ownsRow w.heap.size 68 4 V (G.length+1) (G.flatMap AJ++AJ y))(b:u.grownBy u' v.f.ownBlock)(a:V.ownBlock=v.f.ownBlock\/V.ownBlock=some u.heap.size):Bs w u' s p (Ab {v with f:=V} F cs (G++[y]) ts D):=by
 have h1:Bs w u s p ((Bf v.r F::A5 F++[Cd v.k cs])++AP v.f G::(AV G++(Bl y++(BS v.t ts::D)))):=h.perm (by simp only[Ab,kL,kT,kf];refine .cons _ (List.Perm.append_left _ (.cons _ (.cons _ (List.Perm.append_left _ ?_))));exact(mH (l₁:=BS v.t ts::D) (l₂:=Bl y)));have h2:=h1.en (AP V (G++[y])) (by simpa[Ax.own,AP]using c) b a;have e:(Bf v.r F::A5 F++[Cd v.k cs])++AP V (G++[y])::(AV G++(Bl y++(BS v.t ts::D)))=Ab {v with f:=V} F cs (G++[y]) ts D:=by simp[Ab,Hh,List.append_assoc]
 rwa [e]at h2
theorem Bs.hH(h:Bs w u s p (Ab v F cs G ts D))(x:MT)(V:Value)(c:u'.ownsRow w.heap.size 72 4 V (ts.length+1) (ts.flatMap MT.cells++x.cells))(b:u.grownBy u' v.t.ownBlock)(a:V.ownBlock=v.t.ownBlock\/V.ownBlock=some u.heap.size):Bs w u' s p (Ab {v with t:=V} F cs G (ts++[x]) D):=by
 have h1:Bs w u s p ((Bf v.r F::A5 F++(Cd v.k cs::(AP v.f G::AV G)))++BS v.t ts::D):=by simpa[Ab,List.append_assoc]using h
 have h2:=h1.en (BS V (ts++[x])) (by simpa[Ax.own,BS]using c) b a;have e:(Bf v.r F::A5 F++(Cd v.k cs::(AP v.f G::AV G)))++BS V (ts++[x])::D=Ab {v with t:=V} F cs G (ts++[x]) D:=by simp[Ab,List.append_assoc]
 rwa [e]at h2
theorem Bs.gL{E:List Ax}(h:Bs w u s p (Ab v F cs G ts (D++AH X t q xs::E)))(i:Nat)(a:i<q)(x:Value):Bs w (u.setCell ⟨X,i,none⟩ x) s p (Ab v F cs G ts (D++AH X t q (xs.set i x)::E)):=by rw[Ds]at h⊢;exact h.set i a x
theorem Ap(h:r∈D):r∈Ab v F cs G ts D:=by simp[Ab,h]
theorem Bs.gK(h:Bs w u s p (Ab v F cs G ts D)):(∃b c1 d c2 e c3 g c4,v=⟨.slice b F.length c1,.slice d cs.length c2,.slice e G.length c3,.slice g ts.length c4⟩)/\u.ownsRow w.heap.size 58 1 v.r F.length (F.flatMap Bi)/\u.ownsRow w.heap.size 63 2 v.k cs.length (cs.flatMap MC.cells)/\u.ownsRow w.heap.size 68 4 v.f G.length (G.flatMap AJ)/\u.ownsRow w.heap.size 72 4 v.t ts.length (ts.flatMap MT.cells):=by refine⟨?_,h.sep.own (Bf v.r F) (by simp[Ab]),h.sep.own (Cd v.k cs) (by simp[Ab]),h.sep.own (AP v.f G) (by simp[Ab]),h.sep.own (BS v.t ts) (by simp[Ab])⟩;obtain⟨v1,v2,v3,i⟩:=v;obtain⟨b,c1,j⟩:∃a c,v1=.slice a F.length c:=AO (h.sep.own (Bf v1 F) (by simp[Ab]));obtain⟨d,c2,l⟩:∃a c,v2=.slice a cs.length c:=AO (h.sep.own (Cd v2 cs) (by simp[Ab]));obtain⟨e,c3,m⟩:∃a c,v3=.slice a G.length c:=AO (h.sep.own (AP v3 G) (by simp[Ab]));obtain⟨g,c4,n⟩:∃a c,i=.slice a ts.length c:=AO (h.sep.own (BS i ts) (by simp[Ab]));exact⟨b,c1,d,c2,e,c3,g,c4,by rw[j,l,m,n]⟩
theorem Bs.jD{b:Value}{n cap:Nat}{code a:List MI}(j:b=sG g code.length cap)(d:a.length=code.length)(h:Bs w u s p (Ab v F cs G ts (A3 b code::D)))(i:Nat)(x:Value)(k:(code.flatMap MI.cells).set i x=a.flatMap MI.cells):Bs w (u.setCell ⟨g,i,none⟩ x) s p (Ab v F cs G ts (A3 b a::D)):=by subst j;rw[Dt]at h⊢;have c:u.ownsRow w.heap.size 96 4 (sG g code.length cap) code.length (code.flatMap MI.cells):=h.sep.own (A3 (sG g code.length cap) code) sP;have f:=c.stored i x;have e:=(c.lt g rfl).1;have:=h.sep.put (A:=Ab v F cs G ts []) (r:=A3 (sG g code.length cap) code) (a.flatMap MI.cells) (by rw[<-k];exact f.1) (Ew (⟨rfl,rfl,rfl,Nat.le_refl _,fun _ _ _=>rfl⟩:u.grownBy u (some g)) i x);refine⟨?_,h.aC.setCell e _⟩;simpa[A3,d]using this
theorem Bs.ia{b:Value}(h:Bs w u s p (Ab v F cs G ts (A3 b code::D))):(∃a c,b=.slice a code.length c)/\u.ownsRow w.heap.size 96 4 b code.length (code.flatMap MI.cells):=⟨AO (h.sep.own (A3 b code) (by simp[Ab])),h.sep.own (A3 b code) (by simp[Ab])⟩
end
theorem CJ.gH{R:Nat->Prop}(h:CJ w base L)(e:En R w c)(f:∀j,base<=j->¬R j):CJ c base L:=⟨fun r a=>e.own (h.own r a) (fun b d=>f b ((h.own r a).lt b d).1),h.sep⟩
def BR(x:MI):Bool:=decide (x.op=25)||decide (x.op=26)||decide (x.op=27)
def J4(x:MI):Bool:=decide (¬x.op=25)&&decide (¬x.op=29)
def BH(xs:List MI):Prop:=1<=xs.length/\xs.length<=1024/\∀(i:Nat) (x:MI),xs[i]?=some x->BR x=true->0<=x.c/\x.c<(xs.length:Int)
def Jf(x:MI)(i j:Nat):Bool:=(BR x&&decide (x.c=(j:Int)))||((BR x||decide (x.op=29))&&decide (j=i+1))
def Cq(xs:List MI)(k j:Nat):Bool:=decide (j=0)||(List.range k).any fun i=>match xs[i]? with|some x=>Jf x i j|none=>false
theorem IP(xs:List MI)(k:Nat):Cq xs k 0=true:=by simp[Cq]
theorem Oj(xs:List MI)(j:Nat):Cq xs 0 j=decide (j=0):=by simp[Cq]
theorem IM(xs:List MI)(k j:Nat)(x:MI)(a:xs[k]?=some x):Cq xs (k+1) j=(Cq xs k j||Jf x k j):=by simp[Cq,List.range_succ,a,Bool.or_assoc]
theorem K1(xs:List MI)(k i j:Nat)(x:MI)(a:i<k)(b:xs[i]?=some x)(h:Jf x i j=true):Cq xs k j=true:=by simp only[Cq,Bool.or_eq_true,List.any_eq_true,mD];exact .inr ⟨i,a,by rw[b];exact h⟩
def IW(xs:List MI)(i:Nat):List Nat:=(List.range i).filter (Cq xs xs.length)
theorem KZ(xs:List MI)(i:Nat):IW xs (i+1)=if Cq xs xs.length i=true then IW xs i++[i]else IW xs i:=by
 unfold IW;rw[mF,mB];by_cases h:Cq xs xs.length i=true
 . simp[h]
 simp[h]
theorem Ef(xs:List MI)(i j:Nat):j∈IW xs i↔j<i/\Cq xs xs.length j=true:=by simp[IW]
theorem GJ(xs:List MI)(i:Nat):(IW xs i).Pairwise (· < ·):=List.Pairwise.filter _ List.pairwise_lt_range
theorem KY(xs:List MI)(i:Nat)(h:0<i):IW xs i≠[]:=fun e=>by have:=(Ef xs i 0).2 ⟨h,IP _ _⟩;rw[e]at this;cases this
theorem QW(xs:List MI)(i n:Nat)(h:i<=n):∃r,IW xs n=IW xs i++r:=by
 induction n with
 | zero=>obtain rfl:i=0:=oM;exact⟨[],sP⟩
 | succ n c=>
   by_cases a:i=n+1
   . subst a;exact⟨[],sP⟩
   obtain⟨r,b⟩:=c oM;rw[KZ,b];split
   . exact⟨r++[n],sP⟩
   exact⟨r,rfl⟩
theorem TO(xs:List MI)(p n:Nat)(b:p<n)(a:Cq xs xs.length p=true):(IW xs n).idxOf p=(IW xs p).length/\(IW xs (p+1)).length=(IW xs p).length+1:=by have h1:=KZ xs p;rw[lI a]at h1;obtain⟨r,c⟩:=QW xs (p+1) n b;refine⟨?_,by rw[h1];simp⟩;rw[c,h1,kT,List.idxOf_append,lE (by rw[Ef];omega)];simp
theorem TP(xs:List MI)(p q n:Nat)(e:p<n)(f:q<n)(c:Cq xs xs.length p=true)(d:Cq xs xs.length q=true)(h:(IW xs n).idxOf p=(IW xs n).idxOf q):p=q:=by have h1:p∈IW xs n:=(Ef _ _ _).2 ⟨e,c⟩;have h2:q∈IW xs n:=(Ef _ _ _).2 ⟨f,d⟩;have a:=List.getElem_idxOf (mh.2 h1);have b:=List.getElem_idxOf (mh.2 h2);rw[<-a,<-b];congr 1
def Kr(a:List MB)(i:Int):List MB:=match a.getLast? with|some b=>a.dropLast++[⟨b.cK,i,b.next⟩]|none=>[]
theorem Fh(a:List MB)(b:MB)(i:Int):Kr (a++[b]) i=a++[⟨b.cK,i,b.next⟩]:=by simp[Kr]
def BQ(xs:List MI):Nat->List MB
 |0=>[]
 |i+1=>Kr (if Cq xs xs.length i=true then BQ xs i++[⟨i,0,[]⟩]else BQ xs i) i
def build(L:List Nat)(e:Nat):List MB:=List.zipWith (fun(a b:Nat)=>(⟨(a:Int),(b:Int)-1,[]⟩:MB)) L (L.tail++[e])
theorem IJ(L:List Nat)(i e:Nat)(h:L≠[]):build (L++[i]) e=build L i++[⟨(i:Int),(e:Int)-1,[]⟩]:=by
 unfold build;rw[List.tail_append_of_ne_nil h,kT,show(L.tail++([i]++[e]))=(L.tail++[i])++[e]from sP,List.zipWith_append (by
  cases L with
  |nil=>exact absurd rfl h
  |cons a r=>simp)]
 rfl
theorem DP(xs:List MI)(i:Nat):BQ xs i=build (IW xs i) i:=by
 induction i with
 |zero=>rfl
 | succ i c=>
   simp only[BQ];rw[KZ];by_cases h:Cq xs xs.length i=true
   . rw[lI h,lI h,Fh];by_cases b:i=0
     . subst b;simp[BQ,IW,build]
     rw[IJ _ _ _ (KY xs i oM),c];simp
   rw[lE h,lE h];have b:0<i:=by
    cases i with
    |zero=>exact absurd (IP _ _) h
    |succ i=>omega
   obtain⟨M,a,d⟩:∃M a,IW xs i=M++[a]:=⟨_,_,(List.dropLast_concat_getLast (KY xs i b)).symm⟩;rw[c,d];cases M with
   |nil=>simp[build,Kr]
   | cons m M=>rw[IJ _ _ _ sP,IJ _ _ _ sP,Fh];simp
theorem Mz(L:List Nat)(e:Nat):(build L e).length=L.length:=by
 unfold build;cases L with
 |nil=>rfl
 |cons a r=>simp
theorem CH(xs:List MI)(i:Nat):(BQ xs i).length=(IW xs i).length:=by rw[DP,Mz]
def Ba(xs:List MI)(i:Nat):Int:=((IW xs (i+1)).length:Int)-1
theorem FE(xs:List MI)(p n:Nat)(b:p<n)(a:Cq xs xs.length p=true):Ba xs p=((IW xs n).idxOf p:Int):=by have:=TO xs p n b a;unfold Ba;omega
theorem SR(xs:List MI)(p q n:Nat)(c:p<n)(d:q<n)(a:Cq xs xs.length p=true)(b:Cq xs xs.length q=true):Ba xs p=Ba xs q↔p=q:=by rw[FE xs p n c a,FE xs q n d b];exact⟨fun h=>TP xs p q n c d a b oM,fun h=>by rw[h]⟩
def Kp(xs:List MI)(x:MI)(e:Nat):List Int:=(if J4 x=true/\e+1<xs.length then[((e+1:Nat):Int)]else[])++(if BR x=true/\¬(J4 x=true/\e+1<xs.length/\x.c=((e+1:Nat):Int))then[x.c]else[])
def Et(xs:List MI)(x:MI)(e:Nat):List Int:=
 let a:=if J4 x=true/\e+1<xs.length then[Ba xs (e+1)]else[]
 a++(if BR x=true/\(a=[]\/¬a=[Ba xs x.c.toNat])then[Ba xs x.c.toNat]else[])
theorem NJ(L:List Nat)(n b e:Nat)(m:MB)(h:(build L n)[b]?=some m)(d:m.last=(e:Int))(g:e+1<n):e+1∈L:=by
 unfold build at h;rw[mY]at h;cases h1:L[b]? with
 |none=>rw[h1]at h;simp at h
 | some a=>
   cases h2:(L.tail++[n])[b]? with
   |none=>rw[h1,h2]at h;simp at h
   | some q=>
     rw[h1,h2]at h;simp only[i4]at h;subst h;simp only[]at d;have f:q=e+1:=oM;subst f;have:=d9 h2;rcases kB.1 this with c|c
     . exact mw c
     simp at c;omega
theorem QZ(xs:List MI)(b e:Nat)(x:MI)(m:MB)(t:BH xs)(j:(BQ xs xs.length)[b]?=some m)(r:m.last=(e:Int))(f:xs[e]?=some x):Et xs x e=(Kp xs x e).map fun p=>((IW xs xs.length).idxOf p.toNat:Int):=by
 have s:e<xs.length:=(d7.1 f).1;rw[DP]at j;have k:e+1<xs.length->Cq xs xs.length (e+1)=true:=fun h=>((Ef _ _ _).1 (NJ _ _ _ _ _ j r h)).2
 have l:BR x=true->x.c.toNat<xs.length/\Cq xs xs.length x.c.toNat=true/\(x.c.toNat:Int)=x.c:=fun h=>by obtain⟨h1,h2⟩:=t.2.2 e x f h;have a:(x.c.toNat:Int)=x.c:=mj h1;exact⟨oM,K1 xs _ e _ x s f (by simp[Jf,h,a]),a⟩
 unfold Et Kp;by_cases h1:J4 x=true/\e+1<xs.length
 . have g:=FE xs (e+1) xs.length h1.2 (k h1.2);simp only[lI h1];by_cases h2:BR x=true
   . obtain⟨c1,c2,c3⟩:=l h2;have i:=FE xs x.c.toNat xs.length c1 c2;have n:=SR xs (e+1) x.c.toNat xs.length h1.2 c1 (k h1.2) c2;by_cases a:x.c=((e+1:Nat):Int)
     . have d:¬(BR x=true/\([Ba xs (e+1)]=[]\/¬[Ba xs (e+1)]=[Ba xs x.c.toNat])):=fun h=>h.2.elim (fun q=>by cases q) (fun q=>q (by rw[n.2 oM]))
       simp only[lE d];rw[lE (fun h=>h.2 ⟨h1.1,h1.2,a⟩)];simp[g]
     have d:(BR x=true/\([Ba xs (e+1)]=[]\/¬[Ba xs (e+1)]=[Ba xs x.c.toNat])):=⟨h2,.inr (fun q=>a (by have:=n.1 (by simpa using q);omega))⟩
     simp only[lI d];rw[lI ⟨h2,fun h=>a h.2.2⟩];simp[g,i]
   simp only[h2,false_and,if_false,mU];simp[g]
 simp only[lE h1];by_cases h2:BR x=true
 . obtain⟨c1,c2,c3⟩:=l h2;have i:=FE xs x.c.toNat xs.length c1 c2;have d:(BR x=true/\(True\/¬([]:List Int)=[Ba xs x.c.toNat])):=⟨h2,.inl trivial⟩
   rw[lI d,lI ⟨h2,fun h=>h1 ⟨h.1,h.2.1⟩⟩];simp[i]
 simp only[h2,false_and,if_false,mU];rfl
end Go.Proofs.YthjbicggfnnonaaGreatDoor
