import Derived.Test.YtmalfecapdmdbaaGreatHo1
import Derived.Maps.OwnSet
namespace Go.Proofs.YtmalfecapdmdbaaGreat
open Go.ChangeShapes Go.WideShapes Go.ChangeAt Go.RowKit Go.Proofs.Tryz
set_option linter.unusedVariables false
open Go.Value renaming slice → Z,int → Ag,agg → Am
open Option renaming some → K,none → M
open Go renaming Value → J,World → Y,TypeId → Aj,Calls → Ai
open Go.IntKind renaming i64 → Af
open Go.RowKit renaming Below → Ah,Hid → Ae
open Go.World renaming setCell → Aa,ownsRow → Ab,alloc → Ac
open Go.Obj renaming cells → Ak
open Go.Proofs.Tryz renaming prog → Ap
open List renaming flatMap → Ad
open Go.Ending renaming returned → Al
set_option maxHeartbeats 2000000
set_option maxRecDepth 100000
variable {fr:Nat×Nat}{base B:Nat}{z:Int}{O:List Nat}{D:Nat->Nat->Bool}{q:Prop}
structure MB where
 gH:Int
 last:Int
 next:List Int
def BN(x:MB×J):List J:=[x.1.gH,x.1.last,x.2]
theorem A9(x:MB×J):(BN x).length=3:=rfl
theorem Wz:(Tryz.prog.info? 126).map (λi=>(i.zero,i.size,i.bytes))=K (K (Am #[Ag Af 0,Ag Af 0,Z M 0 0]),3,40):=kR
def Dx(F:List (MB×J)):List (J×List Int):=F.map λx=>(x.2,x.1.next)
def nextB(k:Int)(x:MB×J):Int:=k+1+1+(x.1.next:Int)
theorem BF{w:Y}{base g k n:Nat}{e t:Aj}{s:J}{xs:List J}{c:Array J}(h:Ab w base e k s n xs)(f:w.heap[g]?=K (Obj.cells c t fr))(i:e≠t):∀j,s.ownBlock=K j->j≠g:=by
 intro j b d;subst d;rcases h.2 with⟨rfl,_⟩|⟨p,l,m,rfl,_,a,_⟩
 . cases b
 simp only[Value.ownBlock,kI]at b;subst b;rw[f]at a;simp only[kI,mg]at a;exact i a.2.1.symm
theorem CI.set{w:Y}{g:Nat}{L:List (J×List Int)}(h:CI w base L){c:Array J}{t:Aj}(d:w.heap[g]?=K (Obj.cells c t fr))(f:2≠t)(i:Nat)(x:J):CI (Aa w ⟨g,i,M⟩ x) base L:=⟨λy b=>kN (h.own y b) (a:=⟨g,i,M⟩) (λe=>BF (h.own y b) d f g e rfl) x,h.sep⟩
structure Wb(base:Nat)(w w':Y):Prop where
 e8:Ah base w w'
 gK:∀(k:Nat) (cur:Array J) (t:Aj),w.heap[k]?=K (Obj.cells cur t (0,0))->t≠2->t≠126->w'.heap[k]?=K (Obj.cells cur t (0,0))
theorem Wb.refl(base:Nat)(w:Y):Wb base w w:=⟨kS _ _, λ_ _ _ h _ _=>h⟩
theorem Wb.trans{u v w:Y}(h:Wb base u v)(b:Wb base v w):Wb base u w:=⟨h.e8.trans b.e8, λk a t e c d=>b.gK k a t (h.gK k a t e c d) c d⟩
theorem Wv.wb{w a:Y}(h:Wv base w a):Wb base w a:=⟨h.e8, λk b t d c _=>h.gK k b t d c⟩
theorem AD{w:Y}{base g k n c:Nat}{e:Aj}{xs:List J}(h:Ab w base e k (Z g n c) n xs):base<=g/\∃a,w.heap[g]?=K (Obj.cells a e (0,0)):=by
 rcases h.2 with⟨b,_⟩|⟨j,i,a,b,d,f,_⟩
 . cases b
 cases b
 exact⟨d,a,f⟩
structure CE(f:MF):Prop where
 par:f.gw.length<=8
 loc:f.gw.length+ ↑f.gG<=32
 pt:f.gw.all Ec=true
 lt:f.gG.all Ec=true
 gU:f.gy=0\/Ec f.gy=true
 iU:¬f.eC.length=0
 jc:f.eC.length<=1024
def QS(f:MF):Prop:=f.gw.length=0/\f.gy=0
def Cd(f:MF)(a:Bool):Prop:=CE f/\(a=true->QS f)
theorem Ri(v:VF)(f:MF)(g:Bool)(w:Y)(F:f.small)(h:DE w v f):
 Ai Ap 32 #[Am #[v.p,f.gy,v.l,v.c],g] w λe T=>AJ e (Cd f g)/\Ah w w T:=by
 have n:Ae (DE w v f/\f.small):=⟨h,F⟩
 obtain⟨H,c1,z⟩:=h.1.dk;obtain⟨I,c2,A⟩:=h.2.1.dk;obtain⟨L,c3,B⟩:=h.2.2.dk;obtain⟨vp,vl,vc⟩:=v;obtain⟨s1,s2,s3⟩:=F;simp only[]at z A B;subst z A B;clear h;have d:Ae (Ah w w (Ac w (Ak #[Z H f.gw c1,f.gy,Z I f.gG c2,Z L f.eC c3] 70))):=Aq _ _;by_cases N:8<f.gw.length
 . (have b:Ae (¬(Cd f g)):= λe=>absurd e.1.par oM);clear n;generalize f.gw.length=k at*;go_enter func32,ntmps32;go_wp2;go_ret;exact⟨.no b,d⟩
 by_cases O:32<f.gw.length+ ↑f.gG
 . (have b:Ae (¬(Cd f g)):= λe=>absurd e.1.loc oM);clear n;generalize f.gw.length=k at*;generalize f.gG.length=U at*;go_enter func32,ntmps32;go_wp2;go_ret;exact⟨.no b,d⟩
 have V:¬(8:Int)<(f.gw:Int):=oM;have W:¬(32:Int)<(f.gw:Int)+(f.gG:Int):=oM;have q:Ae (f.gw.length<=8/\f.gw.length+ ↑f.gG<=32):=⟨oM,oM⟩
 go_enter func32,ntmps32;go_wp2_with fail;refine(FF _ f.gw _ n.2.1 (n.1.1.a7 d lR)).mono ?_;rintro e u ⟨rfl,rfl⟩;cases t1:f.gw.all Ec
 . (have b:Ae (¬(Cd f g)):= λe=>by have:=e.1.pt;simp[t1]at this);clear t1;go_wp2;go_ret;exact⟨.no b,d⟩
 have t:=Av t1;clear t1;go_wp2_with fail;refine(FF _ f.gG _ n.2.2.1 (n.1.2.1.a7 d lR)).mono ?_;rintro e u ⟨rfl,rfl⟩;cases t1:f.gG.all Ec
 . (have b:Ae (¬(Cd f g)):= λe=>by have:=e.1.lt;simp[t1]at this);clear t1;go_wp2;go_ret;exact⟨.no b,d⟩
 have x:=Av t1;clear t1;generalize E:f.gy=R at*;generalize C:f.gw.length=k at*;generalize D:f.eC.length=i at*;have a:Ae (f.gy=R/\f.gw.length=k/\f.eC.length=i):=⟨E,C,D⟩
 clear E C D N O;by_cases s:R=0
 . subst s;by_cases j:i=0
   . subst j;(have b:Ae (¬(Cd f g)):= λe=>e.1.iU a.2.2);go_wp2;go_ret;exact⟨.no b,d⟩
   (have P:((i:Int)==0)=false:=by simpa using j);by_cases Q:1024<i
   . have y:(1024:Int)<(i:Int):=oM;(have b:Ae (¬(Cd f g)):= λe=>absurd e.1.jc (by rw[a.2.2];omega));go_wp2;go_ret;exact⟨.no b,d⟩
   have y:¬(1024:Int)<(i:Int):=oM;cases g
   . have r:Ae (Cd f false):=⟨⟨by rw[a.2.1];exact q.1,by rw[a.2.1];exact q.2,t,x,.inl a.1,by rw[a.2.2];exact j,by rw[a.2.2];omega⟩, λh=>by cases h⟩;go_wp2;go_ret;exact⟨.gY r,d⟩
   by_cases m:k=0
   . subst m;have r:Ae (Cd f true):=⟨⟨by rw[a.2.1];exact q.1,by rw[a.2.1];exact q.2,t,x,.inl a.1,by rw[a.2.2];exact j,by rw[a.2.2];omega⟩, λ_=>⟨a.2.1,a.1⟩⟩;go_wp2;go_ret;exact⟨.gY r,d⟩
   (have S:((k:Int)==0)=false:=by simpa using m);(have b:Ae (¬(Cd f true)):= λe=>m (by rw[<-a.2.1];exact(e.2 rfl).1));go_wp2;go_ret;exact⟨.no b,d⟩
 have X:(R==0)=false:=by simpa using s
 go_wp2_with fail;refine(DU R _).mono ?_;rintro e u ⟨rfl,rfl⟩;cases t1:Ec R
 . (have b:Ae (¬(Cd f g)):= λe=>by have:=e.1.gU;rw[a.1]at this;simp[s,t1]at this);go_wp2;go_ret;exact⟨.no b,d⟩
 have G:=Av t1;clear t1;by_cases j:i=0
 . subst j;(have b:Ae (¬(Cd f g)):= λe=>e.1.iU a.2.2);go_wp2;go_ret;exact⟨.no b,d⟩
 have P:((i:Int)==0)=false:=by simpa using j
 by_cases Q:1024<i
 . have y:(1024:Int)<(i:Int):=oM;(have b:Ae (¬(Cd f g)):= λe=>absurd e.1.jc (by rw[a.2.2];omega));go_wp2;go_ret;exact⟨.no b,d⟩
 have y:¬(1024:Int)<(i:Int):=oM;cases g
 . have r:Ae (Cd f false):=⟨⟨by rw[a.2.1];exact q.1,by rw[a.2.1];exact q.2,t,x,.inr (by rw[a.1];exact G),by rw[a.2.2];exact j,by rw[a.2.2];omega⟩, λh=>by cases h⟩;go_wp2;go_ret;exact⟨.gY r,d⟩
 by_cases m:k=0
 . subst m;(have b:Ae (¬(Cd f true)):= λe=>s (by rw[<-a.1];exact(e.2 rfl).2));go_wp2;go_ret;exact⟨.no b,d⟩
 have S:((k:Int)==0)=false:=by simpa using m
 have b:Ae (¬(Cd f true)):= λe=>m (by rw[<-a.2.1];exact(e.2 rfl).1)
 go_wp2;go_ret;exact⟨.no b,d⟩
section
variable {P:Program} {ops:Array Oper} {Q:Exit->Act->Y->Prop} {md:Region.Mode} {S:Y->Prop} {n f:Nat} {d:Array Bool} {a:Act} {w:Y}
def X7(md:Region.Mode)(ops:Array Oper)(d:Array Bool)(i:Nat):Bool:=Region.noSelect ops&&Region.free md ops d i&&(Region.ready md ops d).contains i
theorem UT{i:Nat}(h:X7 md ops d i=true):Region.noSelect ops=true/\Region.free md ops d i=true/\(Region.ready md ops d).contains i=true:=by simp only[X7,mR]at h;exact⟨h.1.1,h.1.2,h.2⟩
theorem AK(i:Nat){b:Oper}{v:J}(h:wpAnyH P md ops Q S f (d.setIfInBounds i true) (a.put b.dst v) w)(l:ops[i]?=K b:=by rfl)(j:X7 md ops d i=true:=by kernel_rfl)(e:∀c a w,Q (.panic c) (a.put b.dst v) w->Q (.panic c) a w:=by exact λ_ _ _ h=>h)(hw:Region.wanted b (yielded ops a.tmps)=true:=by rfl)
 (m:∀w,S w->(execOp a.eval b).run P w=.ok (.value v) w:=by(intro w hSw;(try dsimp only at hSw);(repeat obtain⟨hSa,hSw⟩:=hSw);go_simp;(try with_reducible rfl))) (g:S w:=by assumption):wpAnyH P md ops Q S (f+1) d a w:=
 have k:=UT j
 wpAnyH_take l k.1 k.2.1 k.2.2 e (.inl ⟨hw,m⟩) g h
theorem tkU(i:Nat){b:Oper}(h:wpAnyH P md ops Q S f (d.setIfInBounds i true) (a.put b.dst undef) w)(l:ops[i]?=K b:=by rfl)(j:X7 md ops d i=true:=by kernel_rfl)(e:∀c a w,Q (.panic c) (a.put b.dst undef) w->Q (.panic c) a w:=by exact λ_ _ _ h=>h)(hw:Region.wanted b (yielded ops a.tmps)=false:=by rfl)(g:S w:=by assumption):wpAnyH P md ops Q S (f+1) d a w:=
 have k:=UT j
 wpAnyH_take l k.1 k.2.1 k.2.2 e (.inr ⟨hw,rfl⟩) g h
theorem GP(i:Nat){b:Oper}{v:J}(h:De P md ops Q S n f (d.setIfInBounds i true) (a.put b.dst v) w)(p:ops[i]?=K b:=by rfl)(m:(X7 md ops d i&&Si md ops n d&&decide (i<n))=true:=by kernel_rfl)(j:∀c a w,Q (.panic c) (a.put b.dst v) w->Q (.panic c) a w:=by exact λ_ _ _ h=>h)(hw:Region.wanted b (yielded ops a.tmps)=true:=by rfl)
 (q:∀w,S w->(execOp a.eval b).run P w=.ok (.value v) w:=by(intro w hSw;(try dsimp only at hSw);(repeat obtain⟨hSa,hSw⟩:=hSw);go_simp;(try with_reducible rfl))) (l:S w:=by assumption):De P md ops Q S n (f+1) d a w:=
 have e:=Bool.and_eq_true_iff.1 m
 have g:=Bool.and_eq_true_iff.1 e.1
 have k:=UT g.1
 Qn p k.1 k.2.1 k.2.2 g.2 (nB e.2) j (.inl ⟨hw,q⟩) l h
theorem D3(i:Nat){o:Oper}(h:∀b:Act->Y->Prop,Shut (∀a w,S w->(S w->wpAnyH P md ops Q S f (d.setIfInBounds i true) a w)->b a w)->if Region.wanted o (yielded ops a.tmps)=true then Oper.wp P o a w b Q else b (a.put o.dst undef) w)(e:Region.ready md ops d=[i]:=by kernel_rfl)(c:ops[i]?=K o:=by rfl):wpAnyH P md ops Q S (f+1) d a w:=wpAnyH_ready e sP (AllReadyH.cons c h AllReadyH.nil)
theorem Xp(i:Nat){o:Oper}(h:∀b:Act->Y->Prop,Shut (∀a w,(i<n->S w)->((i<n->S w)->De P md ops Q S n f (d.setIfInBounds i true) a w)->b a w)->if Region.wanted o (yielded ops a.tmps)=true then Oper.wp P o a w b Q else b (a.put o.dst undef) w)(e:Region.ready md ops d=[i]:=by kernel_rfl)(c:ops[i]?=K o:=by rfl):De P md ops Q S n (f+1) d a w:=OC e sP (Dq.cons c h Dq.nil)
end
theorem _root_.Go.Shut.o{p:Prop}(h:Shut p):p:=h
def Vg(w:Y)(v:J)(f:MB):Prop:=Rd w 1 v f.next (Ad As f.next)
def MB.small(f:MB):Prop:=f.next.length<=1048576
theorem Vg.a7{w a:Y}{v:J}{f:MB}(h:Vg w v f)(c:Ah B w a)(b: ↑w<=B):Vg a v f:=Rd.a7 h c b
def Kp(w:Y)(s:J)(fs:List MB):Prop:=∃xs:List (MB×J),xs.map Prod.fst=fs/\Rd w 3 s fs (Ad BN xs)/\∀x∈xs,Vg w x.2 x.1
theorem Kp.a7{w c:Y}{s:J}{fs:List MB}(h:Kp w s fs)(b:Ah B w c)(a: ↑w<=B):Kp c s fs:=by obtain⟨xs,d,e,f⟩:=h;exact⟨xs,d,e.a7 b a, λx g=>(f x g).a7 b a⟩
def A6(x:MI):Bool:=decide (x.op=25)||decide (x.op=26)||decide (x.op=27)
def EO(x:MI):Bool:=decide (¬x.op=25)&&decide (¬x.op=29)
def A3(xs:List MI):Prop:=1<=xs.length/\xs.length<=1024/\∀(i:Nat) (x:MI),xs[i]?=K x->A6 x=true->0<=x.c/\x.c<(xs:Int)
def F7(x:MI)(i j:Nat):Bool:=(A6 x&&decide (x.c=(j:Int)))||((A6 x||decide (x.op=29))&&decide (j=i+1))
def Bv(xs:List MI)(k j:Nat):Bool:=decide (j=0)||(List.range k).any λi=>match xs[i]? with|some x=>F7 x i j|none=>false
theorem II(xs:List MI)(k:Nat):Bv xs k 0=true:=by simp[Bv]
theorem Kc(xs:List MI)(j:Nat):Bv xs 0 j=decide (j=0):=by simp[Bv]
theorem DV(xs:List MI)(k j:Nat)(x:MI)(a:xs[k]?=K x):Bv xs (k+1) j=(Bv xs k j||F7 x k j):=by simp[Bv,List.range_succ,a,Bool.or_assoc]
theorem Ly(xs:List MI)(k i j:Nat)(x:MI)(a:i<k)(b:xs[i]?=K x)(h:F7 x i j=true):Bv xs k j=true:=by simp only[Bv,Bool.or_eq_true,List.any_eq_true,mL];exact .inr ⟨i,a,by rw[b];exact h⟩
def CS(xs:List MI)(i:Nat):List Nat:=(List.range i).filter (Bv xs xs)
theorem Lx(xs:List MI)(i:Nat):CS xs (i+1)=if Bv xs xs i=true then CS xs i++[i]else CS xs i:=by
 unfold CS;rw[mw,mh];by_cases h:Bv xs xs i=true
 . simp[h]
 simp[h]
theorem C6(xs:List MI)(i j:Nat):j∈CS xs i↔j<i/\Bv xs xs j=true:=by simp[CS]
theorem Dm(xs:List MI)(i:Nat):(CS xs i).Pairwise (· < ·):=List.Pairwise.filter _ nT
theorem JH(xs:List MI)(i:Nat)(h:0<i):CS xs i≠[]:= λe=>by have:=(C6 xs i 0).2 ⟨h,II _ _⟩;rw[e]at this;cases this
theorem Tj(xs:List MI)(i n:Nat)(h:i<=n):∃r,CS xs n=CS xs i++r:=by
 induction n with
 | zero=>obtain rfl:i=0:=oM;exact⟨[],sP⟩
 | succ n c=>
   by_cases a:i=n+1
   . subst a;exact⟨[],sP⟩
   obtain⟨r,b⟩:=c oM;rw[Lx,b];split
   . exact⟨r++[n],sP⟩
   exact⟨r,rfl⟩
theorem VN(xs:List MI)(p n:Nat)(c:p<n)(b:Bv xs xs p=true):(CS xs n).idxOf p=(CS xs p).length/\(CS xs (p+1)).length=(CS xs p).length+1:=by have a:=Lx xs p;rw[kZ b]at a;obtain⟨r,d⟩:=Tj xs (p+1) n c;refine⟨?_,by rw[a];simp⟩;rw[d,a,mm,List.idxOf_append,kP (by rw[C6];omega)];simp
theorem VO(xs:List MI)(p q n:Nat)(g:p<n)(i:q<n)(e:Bv xs xs p=true)(f:Bv xs xs q=true)(h:(CS xs n).idxOf p=(CS xs n).idxOf q):p=q:=by have c:p∈CS xs n:=(C6 _ _ _).2 ⟨g,e⟩;have d:q∈CS xs n:=(C6 _ _ _).2 ⟨i,f⟩;have a:=List.getElem_idxOf (nQ.2 c);have b:=List.getElem_idxOf (nQ.2 d);rw[<-a,<-b];congr 1
def KJ(a:List MB)(i:Int):List MB:=match a.getLast? with|some b=>a.dropLast++[⟨b.gH,i,b.next⟩]|none=>[]
theorem Fa(a:List MB)(b:MB)(i:Int):KJ (a++[b]) i=a++[⟨b.gH,i,b.next⟩]:=by simp[KJ]
def Bq(xs:List MI):Nat->List MB
 |0=>[]
 |i+1=>KJ (if Bv xs xs i=true then Bq xs i++[⟨i,0,[]⟩]else Bq xs i) i
def build(L:List Nat)(e:Nat):List MB:=List.zipWith (λ(a b:Nat)=>(⟨(a:Int),(b:Int)-1,[]⟩:MB)) L (L.tail++[e])
theorem IE(L:List Nat)(i e:Nat)(h:L≠[]):build (L++[i]) e=build L i++[⟨(i:Int),(e:Int)-1,[]⟩]:=by
 unfold build;rw[List.tail_append_of_ne_nil h,mm,show(L.tail++([i]++[e]))=(L.tail++[i])++[e]from sP,List.zipWith_append (by
  cases L with
  |nil=>exact absurd rfl h
  |cons a r=>simp)]
 rfl
theorem Cp(xs:List MI)(i:Nat):Bq xs i=build (CS xs i) i:=by
 induction i with
 |zero=>rfl
 | succ i d=>
   simp only[Bq];rw[Lx];by_cases h:Bv xs xs i=true
   . rw[kZ h,kZ h,Fa];by_cases c:i=0
     . subst c;simp[Bq,CS,build]
     rw[IE _ _ _ (JH xs i oM),d];simp
   rw[kP h,kP h];have c:0<i:=by
    cases i with
    |zero=>exact absurd (II _ _) h
    |succ i=>omega
   obtain⟨b,a,e⟩:∃b a,CS xs i=b++[a]:=⟨_,_,(List.dropLast_concat_getLast (JH xs i c)).symm⟩;rw[d,e];cases b with
   |nil=>simp[build,KJ]
   | cons m b=>rw[IE _ _ _ sP,IE _ _ _ sP,Fa];simp
theorem NY(L:List Nat)(e:Nat):(build L e).length=L.length:=by
 unfold build;cases L with
 |nil=>rfl
 |cons a r=>simp
theorem BG(xs:List MI)(i:Nat):(Bq xs i).length=(CS xs i).length:=by rw[Cp,NY]
def Bb(xs:List MI)(i:Nat):Int:=((CS xs (i+1)).length:Int)-1
theorem Fw(xs:List MI)(p n:Nat)(b:p<n)(a:Bv xs xs p=true):Bb xs p=((CS xs n).idxOf p:Int):=by have:=VN xs p n b a;unfold Bb;omega
theorem Uw(xs:List MI)(p q n:Nat)(c:p<n)(d:q<n)(a:Bv xs xs p=true)(b:Bv xs xs q=true):Bb xs p=Bb xs q↔p=q:=by rw[Fw xs p n c a,Fw xs q n d b];exact⟨λh=>VO xs p q n c d a b oM, λh=>by rw[h]⟩
def AY(xs:List MI)(x:MI)(e:Nat):List Int:=(if EO x=true/\e+1< ↑xs then[((e+1:Nat):Int)]else[])++(if A6 x=true/\¬(EO x=true/\e+1< ↑xs/\x.c=((e+1:Nat):Int))then[x.c]else[])
def Er(xs:List MI)(x:MI)(e:Nat):List Int:=
 let a:=if EO x=true/\e+1< ↑xs then[Bb xs (e+1)]else[]
 a++(if A6 x=true/\(a=[]\/¬a=[Bb xs x.c.toNat])then[Bb xs x.c.toNat]else[])
theorem K4(L:List Nat)(n b e:Nat)(m:MB)(h:(build L n)[b]?=K m)(d:m.last=(e:Int))(g:e+1<n):e+1∈L:=by
 unfold build at h;rw[nH]at h;cases h1:L[b]? with
 |none=>rw[h1]at h;simp at h
 | some a=>
   cases h2:(L.tail++[n])[b]? with
   |none=>rw[h1,h2]at h;simp at h
   | some q=>
     rw[h1,h2]at h;simp only[kI]at h;subst h;simp only[]at d;have f:q=e+1:=oM;subst f;have:=i7 h2;rcases kO.1 this with c|c
     . exact nm c
     simp at c;omega
theorem Nd(xs:List MI)(b e:Nat)(x:MI)(m:MB)(v:A3 xs)(l:(Bq xs xs)[b]?=K m)(t:m.last=(e:Int))(i:xs[e]?=K x):Er xs x e=(AY xs x e).map λp=>((CS xs xs).idxOf p.toNat:Int):=by
 have u:e<xs.length:=(i6.1 i).1;rw[Cp]at l;have n:e+1< ↑xs->Bv xs xs (e+1)=true:= λh=>((C6 _ _ _).1 (K4 _ _ _ _ _ l t h)).2
 have r:A6 x=true->x.c.toNat< ↑xs/\Bv xs xs x.c.toNat=true/\(x.c.toNat:Int)=x.c:= λh=>by obtain⟨a,d⟩:=v.2.2 e x i h;have f:(x.c.toNat:Int)=x.c:=n9 a;exact⟨oM,Ly xs _ e _ x u i (by simp[F7,h,f]),f⟩
 unfold Er AY;by_cases a:EO x=true/\e+1< ↑xs
 . have j:=Fw xs (e+1) xs a.2 (n a.2);simp only[kZ a];by_cases d:A6 x=true
   . obtain⟨c1,c2,c3⟩:=r d;have k:=Fw xs x.c.toNat xs c1 c2;have s:=Uw xs (e+1) x.c.toNat xs a.2 c1 (n a.2) c2;by_cases f:x.c=((e+1:Nat):Int)
     . have g:¬(A6 x=true/\([Bb xs (e+1)]=[]\/¬[Bb xs (e+1)]=[Bb xs x.c.toNat])):= λh=>h.2.elim (λq=>by cases q) (λq=>q (by rw[s.2 oM]))
       simp only[kP g];rw[kP (λh=>h.2 ⟨a.1,a.2,f⟩)];simp[j]
     have g:(A6 x=true/\([Bb xs (e+1)]=[]\/¬[Bb xs (e+1)]=[Bb xs x.c.toNat])):=⟨d,.inr (λq=>f (by have:=s.1 (by simpa using q);omega))⟩
     simp only[kZ g];rw[kZ ⟨d, λh=>f h.2.2⟩];simp[j,k]
   simp only[d,false_and,if_false,nW];simp[j]
 simp only[kP a];by_cases d:A6 x=true
 . obtain⟨c1,c2,c3⟩:=r d;have k:=Fw xs x.c.toNat xs c1 c2;have g:(A6 x=true/\(True\/¬([]:List Int)=[Bb xs x.c.toNat])):=⟨d,.inl trivial⟩
   rw[kZ g,kZ ⟨d, λh=>a ⟨h.1,h.2.1⟩⟩];simp[k]
 simp only[d,false_and,if_false,nW];rfl
inductive DR (E:Nat->List Nat) (ok:Nat->Prop) (a:Nat):Nat->Prop
 |here:ok a->DR E ok a a
 |step {b c:Nat}:DR E ok a b->c∈E b->ok c->DR E ok a c
inductive FM (E:Nat->List Nat) (ok:Nat->Prop) (a:Nat):Nat->Nat->Prop
 |here (k:Nat):ok a->FM E ok a k a
 |step {k b c:Nat}:FM E ok a k b->c∈E b->ok c->FM E ok a (k+1) c
section
variable {E:Nat->List Nat} {ok ok':Nat->Prop} {a b c:Nat}
theorem DR.trans(h:DR E ok a b)(d:DR E ok b c):DR E ok a c:=by
 induction d with
 |here _=>exact h
 |step _ e f g=>exact .step g e f
theorem DR.mono(h:DR E ok a b)(hw:∀x,ok x->ok' x):DR E ok' a b:=by
 induction h with
 |here h=>exact .here (hw _ h)
 |step _ c d e=>exact .step e c (hw _ d)
theorem DR.jM(h:DR E ok a b):ok b:=by
 cases h with
 |here h=>exact h
 |step _ _ h=>exact h
theorem DR.jx(h:DR E ok a b):ok a:=by
 induction h with
 |here h=>exact h
 |step _ _ _ c=>exact c
theorem DR.lt{n:Nat}(d:∀b,b<n->∀x∈E b,x<n)(e:a<n)(h:DR E ok a b):b<n:=by
 induction h with
 |here _=>exact e
 |step _ c _ f=>exact d _ f _ c
theorem FM.mono{k c:Nat}(h:FM E ok a k b)(g:k<=c):FM E ok a c b:=by
 induction h generalizing c with
 |here k h=>exact .here _ h
 | step _ d e f=>
   cases c with
   |zero=>omega
   |succ c=>exact .step (f oM) d e
theorem FM.jC{k:Nat}(h:FM E ok a k b):DR E ok a b:=by
 induction h with
 |here k h=>exact .here h
 |step _ c d e=>exact .step e c d
theorem DR.some(h:DR E ok a b):∃k,FM E ok a k b:=by
 induction h with
 |here h=>exact⟨0,.here _ h⟩
 | step _ c d f=>obtain⟨k,e⟩:=f;exact⟨k+1,.step e c d⟩
end
theorem Nj(m:Nat)(Q:Nat->Nat->Prop)(f:∀i k j,Q i k->k<=j->Q i j)(P:Nat->Prop)(h:∀i,P i->∃k,Q i k):∃a,∀i,i<m->P i->Q i a:=by
 induction m with
 |zero=>exact⟨0, λi c=>absurd c (Nat.not_lt_zero _)⟩
 | succ m n=>
   obtain⟨a,d⟩:=n;by_cases g:P m
   . obtain⟨k,l⟩:=h m g;refine⟨max a k, λi c b=> ?_⟩;by_cases e:i=m
     . subst e;exact f _ _ _ l (Nat.le_max_right _ _)
     exact f _ _ _ (d i oM b) (Nat.le_max_left _ _)
   refine⟨a, λi c b=> ?_⟩;by_cases e:i=m
   . subst e;exact absurd b g
   exact d i oM b
theorem Tz(E:Nat->List Nat)(n:Nat):∃a,∀e,e<n->∀x,x<n->DR E (· ≠e) 0 x->FM E (· ≠e) 0 a x:=by
 have f:∀e,∃k,∀x,x<n->DR E (· ≠e) 0 x->FM E (· ≠e) 0 k x:= λe=>
  Nj n (λx k=>FM E (· ≠e) 0 k x) (λi k l h b=>h.mono b) (λx=>DR E (· ≠e) 0 x) (λi h=>h.some)
 obtain⟨a,g⟩:=Nj n (λe k=>∀x,x<n->DR E (· ≠e) 0 x->FM E (· ≠e) 0 k x) (λi k l h b x d c=>(h x d c).mono b) (λ_=>True) (λi _=>f i);exact⟨a, λe j x d c=>g e j trivial x d c⟩
def CZ(E:Nat->List Nat)(d b:Nat):Prop:=¬DR E (· ≠d) 0 b
inductive Ef (I:Nat->Int) (d:Nat):Nat->Prop
 |here:Ef I d d
 |up {b c:Nat}:b≠0->I b=(c:Int)->Ef I d c->Ef I d b
def Kn(I:Nat->Int)(b:Nat):Prop:=b=0\/I b≠ -1
structure OT(n:Nat)(pl:Nat->Nat)(I:Nat->Int):Prop where
 up:∀b,b<n->b≠0->I b≠ -1->∃c:Nat,I b=(c:Int)/\c<n/\pl c<pl b/\Kn I c
section
variable {n:Nat} {pl:Nat->Nat} {I J:Nat->Int} {d e b c x:Nat}
theorem Ef.trans(h:Ef I d c)(a:Ef I c b):Ef I d b:=by
 induction a with
 |here=>exact h
 |up h1 h2 _ ih=>exact .up h1 h2 ih
theorem Ef.iO(g:OT n pl I)(a:b<n)(h:Ef I d b):pl d<=pl b/\(d≠b->pl d<pl b)/\d<n:=by
 induction h with
 |here=>exact⟨Nat.le_refl _, λh=>absurd rfl h,a⟩
 | @up b c h1 h2 _ ih=>obtain⟨c',e,f,j,_⟩:=g.up b a h1 (by rw[h2];omega);obtain rfl:c'=c:=oM;obtain⟨k,l,i⟩:=ih f;exact⟨oM, λ_=>oM,i⟩
theorem Ef.kn(j:OT n pl I)(g:b<n)(i:Kn I b)(h:Ef I d b):Kn I d:=by
 induction h with
 |here=>exact i
 | @up b c h1 h2 _ ih=>obtain⟨c',e,a,k,f⟩:=j.up b g h1 (by rw[h2];omega);obtain rfl:c'=c:=oM;exact ih a f
theorem Ef.zero(h:Ef I d 0):d=0:=by
 cases h with
 |here=>rfl
 |up h1=>exact absurd rfl h1
theorem Ef.iJ(h:Ef I d b)(a:d≠b):b≠0/\∃c:Nat,I b=(c:Int)/\Ef I d c:=by
 cases h with
 |here=>exact absurd rfl a
 |up h1 h2 h3=>exact⟨h1,_,h2,h3⟩
theorem Ef.iS(c:OT n pl I)(g:b<n)(h:Ef I d b)(f:Ef I b d):d=b:=by
 have a:=h.iO c g;have i:=f.iO c a.2.2;by_cases e:d=b
 . exact e
 have:=a.2.1 e;omega
theorem Ef.turn(f:∀y,y≠b->I y=J y)(h:Ef I d x):Ef J d x\/(Ef J b x/\Ef I b x/\Ef I d b):=by
 induction h with
 |here=>exact .inl .here
 | @up x c h1 h2 h3 a=>
   by_cases e:x=b
   . subst e;exact .inr ⟨.here,.here,.up h1 h2 h3⟩
   rcases a with a|⟨g,i,j⟩
   . exact .inl (.up h1 (by rw[<-f x e];exact h2) a)
   exact .inr ⟨.up h1 (by rw[<-f x e];exact h2) g,.up h1 h2 i,j⟩
end
def Cm(I:Nat->Int)(a b m:Nat):Prop:=∀d,Ef I d m↔Ef I d a/\Ef I d b
theorem Cm.same(I:Nat->Int)(a:Nat):Cm I a a a:= λd=>⟨λh=>⟨h,h⟩, λh=>h.1⟩
theorem Cm.symm{I:Nat->Int}{a b m:Nat}(h:Cm I a b m):Cm I b a m:= λd=>(h d).trans And.comm
theorem Cm.left{n:Nat}{pl:Nat->Nat}{I:Nat->Int}{a b m c:Nat}(k:OT n pl I)(i:b<n)(p:pl b<pl a)(g:a≠0)(j:I a=(c:Int))(h:Cm I c b m):Cm I a b m:= λd=>by
 rw[h d];refine⟨λq=>⟨.up g j q.1,q.2⟩, λq=>⟨?_,q.2⟩⟩;by_cases e:d=a
 . subst e;have:=(q.2.iO k i).1;omega
 obtain⟨_,c',l,f⟩:=q.1.iJ e;obtain rfl:c'=c:=oM;exact f
def Bf(n:Nat)(I:Nat->Int)(ps:List Nat)(z:Int):Prop:=(z=-1/\∀p∈ps,¬Kn I p)\/∃m:Nat,z=(m:Int)/\m<n/\Kn I m/\(∃p∈ps,Kn I p)/\∀d,Ef I d m↔∀p∈ps,Kn I p->Ef I d p
structure IZ(E:Nat->List Nat)(n:Nat)(pl:Nat->Nat)(I:Nat->Int):Prop where
 tree:OT n pl I
 iV:∀x,x<n->Kn I x->∀d,CZ E d x->Ef I d x
 iR:∀b c:Nat,b<n->b≠0->I b=(c:Int)->DR E (λx=>pl c<=pl x) c b
def Ml(E:Nat->List Nat)(n:Nat)(pl:Nat->Nat)(I:Nat->Int)(k j:Nat):Prop:=∀x,x<n->Kn I x->∀e,Ef I e x->¬FM E (· ≠e) 0 k x/\(pl x<j->¬FM E (· ≠e) 0 (k+1) x)
theorem IZ.down{E:Nat->List Nat}{n:Nat}{pl:Nat->Nat}{I:Nat->Int}(h:IZ E n pl I){b x:Nat}(d:x<n)(f:Ef I b x):DR E (λy=>pl b<=pl y) b x:=by
 induction f with
 |here=>exact .here lR
 | @up x c h1 h2 h3 ih=>obtain⟨c',e,a,g,_⟩:=h.tree.up x d h1 (by rw[h2];omega);obtain rfl:c'=c:=oM;have i:=(h3.iO h.tree a).1;exact(ih a).trans ((h.iR x c' d h1 h2).mono λy j=>oM)
theorem FM.split{E:Nat->List Nat}{e b k x:Nat}(h:FM E (· ≠e) 0 k x):FM E (· ≠b) 0 k x\/FM E (· ≠e) 0 k b:=by
 induction h with
 | here k h=>
   by_cases q:(0:Nat)=b
   . subst q;exact .inr (.here _ h)
   exact .inl (.here _ q)
 | @step k p c h1 h2 h3 a=>
   rcases a with a|a
   . by_cases q:c=b
     . subst q;exact .inr (.step h1 h2 h3)
     exact .inl (.step a h2 q)
   exact .inr (a.mono oM)
def J5(E:Nat->List Nat)(n b:Nat)(ps:List Nat):Prop:=∀p,p∈ps↔p<n/\b∈E p
theorem Pi{E:Nat->List Nat}{n b d:Nat}{ps:List Nat}(e:J5 E n b ps)(h:CZ E d b)(a:d≠b):∀p∈ps,CZ E d p:= λp c f=>h (.step f ((e p).1 c).2 a.symm)
theorem N5{E:Nat->List Nat}{n b d:Nat}{ps:List Nat}(e:∀b,b<n->∀x∈E b,x<n)(g:0<n)(i:J5 E n b ps)(f:b≠0)(h:∀p∈ps,CZ E d p):CZ E d b:= λj=>by
 cases j with
 |here _=>exact f rfl
 |step a c _=>exact h _ ((i _).2 ⟨a.lt e g,c⟩) a
structure DJ(E:Nat->List Nat)(n:Nat)(pl:Nat->Nat):Prop where
 pos:0<n
 iN:∀b,b<n->∀x∈E b,x<n
 zero:pl 0=0
 gH:∀b,b<n->b≠0->0<pl b
 inj:∀a b,a<n->b<n->pl a=pl b->a=b
 par:∀b,b<n->b≠0->∃q,q<n/\b∈E q/\pl q<pl b
section
variable {E:Nat->List Nat} {n:Nat} {pl:Nat->Nat} {I J:Nat->Int} {b m k:Nat} {ps:List Nat}
theorem JD(l:DJ E n pl)(k:IZ E n pl I)(r:b<n)(s:b≠0)(v:J5 E n b ps)(u:∀x,x<n->pl x<pl b->Kn I x)(t:Bf n I ps z):∃m:Nat,z=(m:Int)/\m<n/\Kn I m/\pl m<pl b/\∀d,Ef I d m↔∀p∈ps,Kn I p->Ef I d p:=by
 obtain⟨q,a,w,y⟩:=l.par b r s;have e:=u q a y;have f:=(v q).2 ⟨a,w⟩;rcases t with⟨_,h⟩|⟨m,g,i,j,_,c⟩
 . exact absurd e (h q f)
 have:=((c m).1 .here q f e).iO k.tree a;exact⟨m,g,i,j,oM,c⟩
theorem IZ.set(P:DJ E n pl)(a:IZ E n pl I)(Q:b<n)(R:b≠0)(v:J5 E n b ps)(U:∀x,x<n->pl x<pl b->Kn I x)(u:m<n)(V:Kn I m)(F:pl m<pl b)(D:∀d,Ef I d m↔∀p∈ps,Kn I p->Ef I d p)(f:∀y,y≠b->I y=J y)(r:J b=(m:Int)):IZ E n pl J/\(∀x,Kn I x->Kn J x)/\(∀x,Kn J x->x=b\/Kn I x)/\(∀d,Ef I d m↔Ef J d m):=by
 have t:∀x,Kn I x->Kn J x:= λx h=>by
  by_cases e:x=b
  . subst e;exact .inr (by rw[r];omega)
  rcases h with h|h
  . exact .inl h
  exact .inr (by rw[<-f x e];exact h)
 have C:∀x,Kn J x->x=b\/Kn I x:= λx h=>by
  by_cases e:x=b
  . exact .inl e
  rcases h with h|h
  . exact .inr (.inl h)
  exact .inr (.inr (by rw[f x e];exact h))
 have A:OT n pl J:=⟨λx g k l=>by
  by_cases e:x=b
  . subst e;exact⟨m,r,u,F,t m V⟩
  obtain⟨c,c1,c2,c3,c4⟩:=a.tree.up x g k (by rw[f x e];exact l);exact⟨c,by rw[<-f x e];exact c1,c2,c3,t c c4⟩⟩
 have G:∀d,Ef I d m↔Ef J d m:= λd=>by
  constructor
  . intro h;rcases h.turn f with h|⟨_,i,_⟩
    . exact h
    have:=(i.iO a.tree u).1;omega
  intro h;rcases h.turn (λy L=>(f y L).symm)with h|⟨_,i,_⟩
  . exact h
  have:=(i.iO A u).1;omega
 have B:∀d,CZ E d b->Ef J d b:= λd j=>by
  by_cases e:d=b
  . subst e;exact .here
  refine .up R r ((G d).1 ((D d).2 λp H s=>a.iV p ((v p).1 H).1 s d (Pi v j e p H)))
 refine⟨⟨A, λx g s d j=> ?_, λx c g k S=> ?_⟩,t,C,G⟩
 . by_cases e:x=b
   . subst e;exact B d j
   have T:=(C x s).resolve_left e;rcases(a.iV x g T d j).turn f with h|⟨l,i,O⟩
   . exact h
   by_cases z:d=b
   . subst z;exact l
   refine(B d λW=>j (W.trans ((a.down g i).mono λy L q=> ?_))).trans l;subst q;have:=(O.iO a.tree Q).2.1 z;omega
 by_cases e:x=b
 . subst e;obtain rfl:c=m:=oM;obtain⟨q,w,N,X⟩:=P.par x g k;have qa:=(D c).1 .here q ((v q).2 ⟨w,N⟩) (U q w X);exact .step (a.down w qa) N (nw F)
 exact a.iR x c g k (by rw[f x e];exact S)
theorem Ml.set(j:DJ E n pl)(w:IZ E n pl I)(l:Ml E n pl I k (pl b))(A:b<n)(B:b≠0)(F:J5 E n b ps)(Q:∀x,x<n->pl x<pl b->Kn I x)(L:k=0\/∀x,x<n->Kn I x)(S:m<n)(T:Kn I m)(U:pl m<pl b)(C:∀d,Ef I d m↔∀p∈ps,Kn I p->Ef I d p)(z:∀y,y≠b->I y=J y)(H:J b=(m:Int)):Ml E n pl J k (pl b+1):=by
 obtain⟨X,ae,P,V⟩:=w.set j A B F Q S T U C z H;have t:∀e,Ef J e b->¬FM E (· ≠e) 0 (k+1) b:= λe g a=>by
  by_cases q:e=b
  . subst q;exact a.jC.jM rfl
  obtain⟨_,c,c1,c2⟩:=g.iJ q;obtain rfl:c=m:=oM;have N:=(C e).1 ((V e).2 c2);cases a with
  |here _ h=>exact B rfl
  | @step _ p _ f u v=>
    have s:p<n:=f.jC.lt j.iN j.pos;have D:Kn I p:=by
     rcases L with rfl|h
     . (cases f);exact .inl rfl
     exact h p s
    exact(l p s D e (N p ((F p).2 ⟨s,u⟩) D)).1 f
 intro x i O e g;by_cases q:x=b
 . subst q;exact⟨λh=>t e g (h.mono oM), λ_=>t e g⟩
 have r:=(P x O).resolve_left q;rcases g.turn (λy W=>(z y W).symm)with h|⟨f,u,v⟩
 . refine⟨(l x i r e h).1, λR=>(l x i r e h).2 ?_⟩;by_cases G:pl x=pl b
   . exact absurd (j.inj x b i A G) q
   omega
 refine⟨λa=> ?_, λR=> ?_⟩
 . rcases a.split (b:=b)with a|a
   . exact(l x i r b f).1 a
   exact t e v (a.mono oM)
 have:=(f.iO w.tree i).2.1 (Ne.symm q);omega
theorem Vx(e:DJ E n pl)(j:IZ E n pl I)(f:∀x,x<n->Kn I x)(q:Nat->List Nat)(t:∀b,b<n->J5 E n b (q b))(s:∀b,b<n->b≠0->Bf n I (q b) (I b)){d x:Nat}(a:x<n):Ef I d x↔CZ E d x:=by
 refine⟨λk u=> ?_,j.iV x a (f x a) d⟩;induction u with
 |here h=>exact h (Ef.zero k).symm
 | @step p c h1 h2 h3 ih=>have g:p<n:=h1.lt e.iN e.pos;obtain⟨i,m,z,r⟩:=k.iJ (Ne.symm h3);have l:=t c a;obtain⟨w,f1,_,_,_,f2⟩:=JD e j a i l (λy v _=>f y v) (s c a i);obtain rfl:w=m:=oM;exact ih g ((f2 d).1 r p ((l p).2 ⟨g,h2⟩) (f p g))
theorem Vw(q:DJ E n pl)(a:IZ E n pl I)(k:∀x,x<n->Kn I x)(t:∀x,x<n->∀d,Ef I d x->CZ E d x)(f:b<n)(j:b≠0)(i:J5 E n b ps)(B:Bf n I ps z):z=I b:=by
 obtain⟨m,w,A,G,H,s⟩:=JD q a f j i (λy D _=>k y D) B;obtain⟨c,c1,c2,c3,c4⟩:=a.tree.up b f j ((k b f).resolve_left j);have u:∀d,Ef I d m↔Ef I d c:= λd=>by
  constructor
  . intro h;(have r:d≠b:= λe=>by have:=(h.iO a.tree A).1;rw[e]at this;omega);(have l:CZ E d b:=N5 q.iN q.pos i j λp g=>t p ((i p).1 g).1 d ((s d).1 h p g (k p ((i p).1 g).1)));obtain⟨_,c',F,v⟩:=(a.iV b f (k b f) d l).iJ r;obtain rfl:c'=c:=oM;exact v
  intro h;have r:d≠b:= λe=>by have:=(h.iO a.tree c2).1;rw[e]at this;omega
  have l:=t b f d (.up j c1 h);exact(s d).2 λp g C=>a.iV p ((i p).1 g).1 C d (Pi i l r p g)
 have:=Ef.iS a.tree c2 ((u m).1 .here) ((u c).2 .here);rw[w,c1,this]
theorem IZ.start(a:∀y,I y=-1):IZ E n pl I:=⟨⟨λb _ _ h=>absurd (a b) h⟩, λx i g d f=>by
 obtain rfl:x=0:=g.resolve_right λh=>h (a x)
 by_cases e:d=0
 . subst e;exact .here
 exact absurd (.here (Ne.symm e)) f, λb c _ _ h=>by rw[a b]at h;omega⟩
theorem Ml.start(d:DJ E n pl)(a:∀y,I y=-1):Ml E n pl I 0 1:= λx f c e b=>by
 obtain rfl:x=0:=c.resolve_right λh=>h (a x)
 obtain rfl:=b.zero;exact⟨λh=>h.jC.jx rfl, λ_ h=>h.jC.jx rfl⟩
theorem Ml.pass(c:DJ E n pl)(d:Ml E n pl I k n)(g:∀x,x<n->pl x<n):Ml E n pl I (k+1) 1:= λx a f e b=>by
 refine⟨(d x a f e b).2 (g x a), λi=> ?_⟩;by_cases q:x=0
 . subst q;obtain rfl:=b.zero;exact λh=>h.jC.jx rfl
 have:=c.gH x a q;omega
end
inductive Vs (E:Nat->List Nat):List Nat->List Nat->List Nat->List Nat->List Nat->Prop
 |nil (S O:List Nat):Vs E S O [] S O
 |old {S O r S' O':List Nat} {b:Nat}:b∈S->Vs E S O r S' O'->Vs E S O (b::r) S' O'
 |new {S O r S1 O1 S2 O2:List Nat} {b:Nat}:b∉S->Vs E (b::S) O (E b) S1 O1->Vs E S1 (O1++[b]) r S2 O2->Vs E S O (b::r) S2 O2
theorem Vs.one{E:Nat->List Nat}{S O r e d b a:List Nat}(h:Vs E S O r e d)(c:Vs E S O r b a):e=b/\d=a:=by
 induction h generalizing b a with
 |nil S O=>cases c with|nil=>exact⟨rfl,rfl⟩
 | old h1 _ ih=>
   cases c with
   |old _ h3=>exact ih h3
   |new h3=>exact absurd h1 h3
 | new h1 _ _ ih1 ih2=>
   cases c with
   |old h3=>exact absurd h3 h1
   | new _ h3 h4=>obtain⟨rfl,rfl⟩:=ih1 h3;exact ih2 h4
theorem Vs.gX{E:Nat->List Nat}{S O r f d b e c:List Nat}(h:Vs E S O r d b)(a:Vs E d b f e c):Vs E S O (r++f) e c:=by
 induction h with
 |nil S O=>exact a
 |old h1 _ ih=>exact .old h1 (ih a)
 |new h1 h2 _ _ ih=>exact .new h1 h2 (ih a)
structure WM(E:Nat->List Nat)(S O r S' O' N:List Nat):Prop where
 o:O'=O++N
 seen:∀x,x∈S'↔x∈S\/x∈N
 nodup:N.Nodup
 fresh:∀x∈N,x∉S
 todo:∀x∈r,x∈S'
 closed:∀x∈N,∀y∈E x,y∈S'
 par:∀x∈N,x∈r\/∃p A B C,N=A++x::B++p::C/\x∈E p
 from_:∀x∈N,∃t∈r,DR E (· ∉S) t x
theorem Vs.told{E:Nat->List Nat}{S O r S' n:List Nat}(h:Vs E S O r S' n):∃N,WM E S O r S' n N:=by
 induction h with
 |nil S O=>exact⟨[],sP,sP,List.nodup_nil,sP,sP,sP,sP,sP⟩
 | @old S O r S' n b h1 _ ih=>
   obtain⟨N,t⟩:=ih;refine⟨N,t.o,t.seen,t.nodup,t.fresh, λx a=> ?_,t.closed, λx a=> ?_, λx a=> ?_⟩
   . rcases kY.1 a with rfl|a
     . exact(t.seen x).2 (.inl h1)
     exact t.todo x a
   . rcases t.par x a with h|h
     . exact .inl (lU _ h)
     exact .inr h
   obtain⟨y,v,w⟩:=t.from_ x a;exact⟨y,lU _ v,w⟩
 | @new S O r S1 O1 S2 O2 b h1 _ _ ih1 ih2=>
   obtain⟨j,f⟩:=ih1;obtain⟨k,c⟩:=ih2;have m:∀x,x∈S1↔x=b\/x∈S\/x∈j:= λx=>by rw[f.seen,kY,or_assoc]
   have s:∀x,x∈S2↔x=b\/x∈S\/x∈j\/x∈k:= λx=>by
    rw[c.seen,m];constructor
    . rintro((h|h|h)|h)
      . exact .inl h
      . exact .inr (.inl h)
      . exact .inr (.inr (.inl h))
      exact .inr (.inr (.inr h))
    rintro(h|h|h|h)
    . exact .inl (.inl h)
    . exact .inl (.inr (.inl h))
    . exact .inl (.inr (.inr h))
    exact .inr h
   have l:∀x,x∈j++b::k↔x=b\/x∈j\/x∈k:= λx=>by
    rw[kO,kY];constructor
    . rintro(h|h|h)
      . exact .inr (.inl h)
      . exact .inl h
      exact .inr (.inr h)
    rintro(h|h|h)
    . exact .inr (.inl h)
    . exact .inl h
    exact .inr (.inr h)
   refine⟨j++b::k,?_, λx=> ?_,?_, λx a=> ?_, λx a=> ?_, λx a y d=> ?_, λx a=> ?_, λx a=> ?_⟩
   . rw[c.o,f.o];simp
   . rw[s,l];constructor
     . rintro(h|h|h)
       . exact .inr (.inl h)
       . exact .inl h
       exact .inr (.inr h)
     rintro(h|h|h)
     . exact .inr (.inl h)
     . exact .inl h
     exact .inr (.inr h)
   . rw[nG];refine⟨f.nodup,List.nodup_cons.2 ⟨λh=>c.fresh b h ((m b).2 (.inl rfl)),c.nodup⟩, λx a y d e=> ?_⟩;subst e;rcases kY.1 d with rfl|d
     . exact f.fresh x a (lV ..)
     exact c.fresh x d ((m x).2 (.inr (.inr a)))
   . rcases(l x).1 a with rfl|h|h
     . exact h1
     . exact λq=>f.fresh x h (lU _ q)
     exact λq=>c.fresh x h ((m x).2 (.inr (.inl q)))
   . rcases kY.1 a with rfl|a
     . exact(s x).2 (.inl rfl)
     exact c.todo x a
   . rcases(l x).1 a with rfl|h|h
     . exact(c.seen y).2 (.inl (f.todo y d))
     . exact(c.seen y).2 (.inl (f.closed x h y d))
     exact c.closed x h y d
   . rcases(l x).1 a with rfl|h|h
     . exact .inl (lV ..)
     . rcases f.par x h with q|⟨p,A,B,C,g,i⟩
       . obtain⟨A,B,rfl⟩:=List.append_of_mem h;exact .inr ⟨b,A,B,k,sP,q⟩
       exact .inr ⟨p,A,B,C++b::k,by rw[g];simp,i⟩
     rcases c.par x h with q|⟨p,A,B,C,g,i⟩
     . exact .inl (lU _ q)
     exact .inr ⟨p,j++b::A,B,C,by rw[g];simp,i⟩
   rcases(l x).1 a with rfl|h|h
   . exact⟨x,lV ..,.here h1⟩
   . obtain⟨t,g,i⟩:=f.from_ x h;(have u:DR E (· ∉S) t x:=i.mono λy d q=>d (lU _ q));exact⟨b,lV ..,(DR.step (.here h1) g u.jx).trans u⟩
   obtain⟨t,g,i⟩:=c.from_ x h;exact⟨t,lU _ g,i.mono λy d q=>d ((m y).2 (.inr (.inl q)))⟩
theorem WM.iff{E:Nat->List Nat}{S O r S' a N:List Nat}(t:WM E S O r S' a N)(x:Nat):x∈N↔∃q∈r,DR E (· ∉S) q x:=by
 refine⟨t.from_ x,?_⟩;rintro⟨q,b,c⟩;induction c with
 |here h=>exact((t.seen _).1 (t.todo _ b)).resolve_left h
 |step _ d e f=>exact((t.seen _).1 (t.closed _ f _ d)).resolve_left e
def A8(S:List Nat)(n:Nat):Nat:=((List.range n).filter λi=> !S.contains i).length
theorem Ev(S:List Nat)(n x:Nat)(g:x<n)(d:x∉S):A8 (x::S) n+1=A8 S n:=by
 unfold A8;induction n with
 |zero=>omega
 | succ n f=>
   rw[mw,mh,mh,kE,kE];by_cases e:x=n
   . subst e;(have b:(List.range x).filter (λi=> !(x::S).contains i)=(List.range x).filter (λi=> !S.contains i):=by apply List.filter_congr;intro i c;(have:i≠x:=by have:=mL.1 c;omega);simp[this]);rw[b];simp[d]
   have:=f oM;(have a:((x::S).contains n)=S.contains n:=by (have:¬n=x:= λq=>e q.symm);simp[this]);rw[nU,nU,a];simp only[ni];omega
theorem Fz(n:Nat):A8 [] n=n:=by unfold A8;simp only[List.contains_nil,Bool.not_false];rw[List.filter_eq_self.2 (λa _=>rfl),mM]
theorem Fv(L:List Nat)(n:Nat)(a:∀x∈L,x<n)(d:L.Nodup): ↑L+A8 L n=n:=by
 induction L with
 |nil=>simp[Fz]
 | cons x L f=>obtain⟨b,c⟩:=List.nodup_cons.1 d;have:=f (λy e=>a y (lU _ e)) c;have:=Ev L n x (a x (lV ..)) b;rw[lX];omega
def Dp(O:List Nat)(b:Nat):Nat:=O.reverse.idxOf b
theorem Xn{b:Nat}(h:b∈O):Dp O b<O.length:=by have:b∈O.reverse:=mc.2 h;have:=nQ.2 this;unfold Dp;simpa using this
theorem IP{b:Nat}(h:b∈O):O.reverse[Dp O b]?=K b:=by have a:b∈O.reverse:=mc.2 h;have c:=nQ.2 a;unfold Dp;rw[an c,List.getElem_idxOf]
theorem Sr{a b:Nat}(e:a∈O)(f:b∈O)(h:Dp O a=Dp O b):a=b:=by have c:=IP e;have d:=IP f;rw[h,d]at c;exact(kH c).symm
theorem Ty{A B C:List Nat}{x p:Nat}(e:O.Nodup)(h:O=A++x::B++p::C):Dp O p<Dp O x:=by
 unfold Dp;subst h;have b:(A++x::B++p::C).reverse=C.reverse++p::(B.reverse++x::A.reverse):=sP;have f:(C.reverse++p::(B.reverse++x::A.reverse)).Nodup:=by rw[<-b];exact List.pairwise_reverse.2 (e.imp Ne.symm)
 rw[b];obtain⟨k,c,a⟩:=nG.1 f;obtain⟨d,l⟩:=List.nodup_cons.1 c;have g:p∉C.reverse:= λq=>a p q p (lV ..) rfl
 have j:x∉C.reverse:= λq=>a x q x sP rfl
 have i:p≠x:= λq=>d (by rw[q];simp)
 rw[List.idxOf_append,List.idxOf_append,kP g,kP j,oF,oF];have:(p==x)=false:=by simpa using i
 simp[this]
theorem Es{E:Nat->List Nat}{n:Nat}(k:0<n)(r:∀b,b<n->∀x∈E b,x<n){S O:List Nat}(h:Vs E [] [] [0] S O)(w:∀b,b<n->b∈S):DJ E n (Dp O)/\O.Nodup/\ ↑O=n/\(∀x,x∈O↔x<n)/\O.reverse[0]?=K 0:=by
 obtain⟨N,t⟩:=h.told;obtain rfl:O=N:=by simpa using t.o
 have c:∀x,x∈O↔x<n:= λx=>by
  constructor
  . intro f;obtain⟨q,g,m⟩:=t.from_ x f;(have:q=0:=by simpa using g);subst this;exact m.lt r k
  intro f;have:=(t.seen x).1 (w x f);simpa using this
 have D: ↑O=n:=by
  have g:=Fv O n (λx f=>(c x).1 f) t.nodup;have:A8 O n=0:=by unfold A8;rw[List.length_eq_zero_iff,List.filter_eq_nil_iff];intro a j;simp[(c a).2 (List.mem_range.1 j)]
  omega
 have z:∃l,O=l++[0]:=by
  cases h with
  |old g=>cases g
  | new _ m h3=>
    cases h3 with
    |nil=>exact⟨_,rfl⟩
 obtain⟨l,s⟩:=z;have i:O.reverse[0]?=K 0:=by rw[s];simp
 have u:Dp O 0=0:=by unfold Dp;rw[s];simp
 refine⟨⟨k,r,u, λb d i=> ?_, λa b j d=>Sr ((c a).2 j) ((c b).2 d), λb d y=> ?_⟩,t.nodup,D,c,i⟩
 . rcases Nat.eq_zero_or_pos (Dp O b)with e|e
   . exact absurd (Sr ((c b).2 d) ((c 0).2 k) (by rw[e,u])) i
   exact e
 rcases t.par b ((c b).2 d)with q|⟨p,A,B,C,v,F⟩
 . exact absurd (by simpa using q) y
 exact⟨p,(c p).1 (by rw[v];simp),F,Ty t.nodup v⟩
section
variable {E:Nat->List Nat} {n:Nat} {pl:Nat->Nat} {b c d k:Nat}
theorem CZ.jp(E:Nat->List Nat)(d:Nat):CZ E d d:= λh=>h.jM rfl
theorem CZ.ix(h:CZ E d 0):d=0:=by
 by_cases e:d=0
 . exact e
 exact absurd (.here (Ne.symm e)) h
theorem CZ.zero(E:Nat->List Nat)(b:Nat):CZ E 0 b:= λh=>h.jx rfl
theorem DR.split{e x:Nat}(h:DR E (· ≠e) 0 x):DR E (· ≠b) 0 x\/DR E (· ≠e) 0 b:=by
 induction h with
 | here h=>
   by_cases q:(0:Nat)=b
   . subst q;exact .inr (.here h)
   exact .inl (.here q)
 | @step p c h1 h2 h3 a=>
   rcases a with a|a
   . by_cases q:c=b
     . subst q;exact .inr (.step h1 h2 h3)
     exact .inl (.step a h2 q)
   exact .inr a
theorem CZ.trans(h:CZ E k d)(e:CZ E d c):CZ E k c:= λa=>by
 rcases a.split (b:=d)with a|a
 . exact e a
 exact h a
theorem CZ.iR(g:DJ E n pl)(k:b<n)(h:CZ E d b):DR E (λx=>pl d<=pl x) d b/\pl d<=pl b/\(d≠b->pl d<pl b):=by
 suffices ∀m b,pl b<=m->b<n->CZ E d b->DR E (λx=>pl d<=pl x) d b/\pl d<=pl b/\(d≠b->pl d<pl b)from this _ b lR k h
 intro m;induction m with
 | zero=>
   intro b j f c;by_cases e:d=b
   . subst e;exact⟨.here lR,Nat.le_refl _, λq=>absurd rfl q⟩
   by_cases a:b=0
   . subst a;exact absurd c.ix e
   have:=g.gH b f a;omega
 | succ m r=>
   intro b j f c;by_cases e:d=b
   . subst e;exact⟨.here lR,Nat.le_refl _, λq=>absurd rfl q⟩
   by_cases a:b=0
   . subst a;exact absurd c.ix e
   obtain⟨q,s,i,u⟩:=g.par b f a;(obtain⟨p,t,_⟩:=r q oM s λl=>c (.step l i (Ne.symm e)));exact⟨.step p i oM,oM, λ_=>oM⟩
theorem CZ.iS(a:DJ E n pl)(f:b<n)(g:d<n)(h:CZ E d b)(c:CZ E b d):d=b:=by
 by_cases e:d=b
 . exact e
 have:=(h.iR a f).2.2 e;have:=(c.iR a g).2.1;omega
def Gk(E:Nat->List Nat)(b c:Nat):Prop:=c≠b/\CZ E c b/\∀d,d≠b->CZ E d b->CZ E d c
theorem Gk.one(d:DJ E n pl){c':Nat}(e:c<n)(f:c'<n)(h:Gk E b c)(a:Gk E b c'):c=c':=CZ.iS d f e (a.2.2 c h.1 h.2.1) (h.2.2 c' a.1 a.2.1)
theorem Xk(P:Nat->Prop)(pl:Nat->Nat)(B:Nat)(g:∀d,P d->pl d<=B)(h:∃d,P d):∃c,P c/\∀d,P d->pl d<=pl c:=by
 obtain⟨d,a⟩:=h;suffices ∀m d,P d->B<=pl d+m->∃c,P c/\∀d,P d->pl d<=pl c from this B d a oM
 intro m;induction m with
 | zero=>intro d a h;exact⟨d,a, λe b=>by have:=g e b;omega⟩
 | succ m i=>
   intro d a h;by_cases q:∃e,P e/\pl d<pl e
   . obtain⟨e,f,j⟩:=q;exact i e f oM
   exact⟨d,a, λe b=>by
    by_cases r:pl e<=pl d
    . exact r
    exact absurd ⟨e,b,oM⟩ q⟩
theorem IF(a:DJ E n pl)(i:∀x,x<n->DR E (λ_=>True) 0 x)(g:b<n)(h:CZ E d b):d<n:=by
 by_cases e:d<n
 . exact e
 refine absurd ?_ h;have c:=i b g;clear h;induction c with
 |here _=>exact .here oM
 | step k l m j=>have f:=k.lt a.iN a.pos;exact .step (j f) l oM
theorem Sj(a:DJ E n pl)(i:∀x,x<n->DR E (λ_=>True) 0 x)(f:b<n)(l:b≠0):∃c,c<n/\Gk E b c:=by
 obtain⟨c,⟨c1,c2⟩,c3⟩:=Xk (λd=>d≠b/\CZ E d b) pl (pl b) (λd h=>(h.2.iR a f).2.1) ⟨0,Ne.symm l,CZ.zero E b⟩
 refine⟨c,IF a i f c2,c1,c2, λd k g j=> ?_⟩;by_cases e:d=c
 . subst e;exact j.jM rfl
 have r:pl d<pl c:=by
  have p:=c3 d ⟨k,g⟩;have m:=a.inj d c (IF a i f g) (IF a i f c2);by_cases q:pl d=pl c
  . exact absurd (m q) e
  omega
 exact g (j.trans (((c2.iR a f).1).mono λx s q=>by subst q;omega))
end
def N0(D:Nat->Nat->Bool)(n d:Nat):Nat:=((List.range n).filter λk=>D k d).length
theorem J9(P Q:Nat->Bool)(n c:Nat)(h:∀k,k<n->P k=true->Q k=true)(d:c<n)(a:P c=false)(b:Q c=true):((List.range n).filter P).length<((List.range n).filter Q).length:=by
 have j:∀m,m<=n->((List.range m).filter P).length+(if c<m then 1 else 0)<=((List.range m).filter Q).length:=by
  intro m;induction m with
  |zero=>simp
  | succ m i=>
    intro l;have:=i oM;rw[mw,mh,mh,kE,kE];by_cases e:m=c
    . subst e;simp only[nU,a,b,ni];simp at this⊢;omega
    have f:(c<m+1)=(c<m):=oT;simp only[f];cases hp:P m with
    | false=>simp only[nU,hp,ni];simp only[nW,if_false,lw];omega
    | true=>have g:=h m oM hp;simp only[nU,hp,g,ni];simp only[if_true,lX,lw];omega
 have:=j n lR;rw[kZ d]at this;omega
theorem T1{E:Nat->List Nat}{n:Nat}{pl:Nat->Nat}(f:DJ E n pl)(a:∀d b,D d b=true↔CZ E d b){c d:Nat}(e:c<n)(g:d<n)(h:CZ E d c)(j:d≠c):N0 D n d<N0 D n c:=by
 refine J9 _ _ n c (λk _ i=>(a k c).2 (((a k d).1 i).trans h)) e ?_ ((a c c).2 (CZ.jp E c));cases q:D c d with
 |false=>rfl
 |true=>exact absurd (CZ.iS f e g h ((a c d).1 q)) j
def Cr(D:Nat->Nat->Bool)(n b j:Nat)(a e:Int):Prop:=(a=-1/\e=-1/\∀d,d<j->¬(d≠b/\D d b=true))\/∃c:Nat,c<j/\a=(c:Int)/\e=(N0 D n c:Int)/\c≠b/\D c b=true/\∀d,d<j->d≠b->D d b=true->N0 D n d<=N0 D n c
theorem Cr.end_{E:Nat->List Nat}{n:Nat}{pl:Nat->Nat}(p:DJ E n pl)(u:∀x,x<n->DR E (λ_=>True) 0 x)(g:∀d b,D d b=true↔CZ E d b){b:Nat}{j v:Int}(t:b<n)(h:Cr D n b n j v):(b=0/\j=-1)\/b≠0/\∃c:Nat,c<n/\j=(c:Int)/\Gk E b c:=by
 by_cases k:b=0
 . subst k;rcases h with⟨f,_⟩|⟨c,_,_,_,l,m,_⟩
   . exact .inl ⟨rfl,f⟩
   exact absurd ((g c 0).1 m).ix l
 obtain⟨c,i,a⟩:=Sj p u t k;refine .inr ⟨k,c,i,?_,a⟩;rcases h with⟨_,_,f⟩|⟨d,f,l,_,m,q,r⟩
 . exact absurd ⟨a.1,(g c b).2 a.2.1⟩ (f c i)
 by_cases e:d=c
 . rw[l,e]
 have s:=a.2.2 d m ((g d b).1 q);have w:=T1 p g i f s e;have y:=r c i a.1 ((g c b).2 a.2.1);omega
theorem Cr.start(D:Nat->Nat->Bool)(n b:Nat):Cr D n b 0 (-1) (-1):=.inl ⟨rfl,rfl, λd a=>oM⟩
theorem Cr.skip{n b j:Nat}{g p:Int}(h:Cr D n b j g p)(m:¬(j≠b/\D j b=true)):Cr D n b (j+1) g p:=by
 rcases h with⟨l,a,f⟩|⟨c,l,a,f,q,r,s⟩
 . exact .inl ⟨l,a, λd t=>by
    by_cases e:d=j
    . subst e;exact m
    exact f d oM⟩
 . exact .inr ⟨c,oM,a,f,q,r, λd t i k=>by
    by_cases e:d=j
    . subst e;exact absurd ⟨i,k⟩ m
    exact s d oM i k⟩
theorem Cr.less{n b j:Nat}{f a:Int}(h:Cr D n b j f a)(t:(N0 D n j:Int)<=a):Cr D n b (j+1) f a:=by
 rcases h with⟨m,g,i⟩|⟨c,m,g,i,p,q,r⟩
 . omega
 exact .inr ⟨c,oM,g,i,p,q, λd s k l=>by
  by_cases e:d=j
  . subst e;omega
  exact r d oM k l⟩
theorem Cr.more{n b j:Nat}{k i:Int}(h:Cr D n b j k i)(l:j≠b)(m:D j b=true)(r:i<(N0 D n j:Int)):Cr D n b (j+1) (j:Int) (N0 D n j:Int):=by
 refine .inr ⟨j,oM,rfl,rfl,l,m, λd q a f=> ?_⟩;by_cases e:d=j
 . subst e;omega
 rcases h with⟨_,_,g⟩|⟨c,_,_,g,_,_,p⟩
 . exact absurd ⟨a,f⟩ (g d oM)
 have:=p d oM a f;omega
def Bs(E:Nat->List Nat)(n b:Nat):List Nat:=(List.range n).flatMap λp=>((E p).filter λx=>decide (x=b)).map λ_=>p
def AH(E:Nat->List Nat)(D:Nat->Nat->Bool)(n h:Nat):List Nat:=(List.range n).flatMap λp=>((E p).filter λx=>decide (x=h)&&D h p).map λ_=>p
theorem CK(E:Nat->List Nat)(n b p:Nat):p∈Bs E n b↔p<n/\b∈E p:=by
 simp only[Bs,my,mL,lA,mO,mB];constructor
 . rintro⟨q,a,x,⟨c,rfl⟩,rfl⟩;exact⟨a,c⟩
 rintro⟨a,c⟩;exact⟨p,a,b,⟨c,rfl⟩,rfl⟩
theorem Hb(E:Nat->List Nat)(n b:Nat):J5 E n b (Bs E n b):=CK E n b
theorem Dt(E:Nat->List Nat)(D:Nat->Nat->Bool)(n h p:Nat):p∈AH E D n h↔p<n/\h∈E p/\D h p=true:=by
 simp only[AH,my,mL,lA,mO,mR,mB];constructor
 . rintro⟨q,a,x,⟨b,rfl,c⟩,rfl⟩;exact⟨a,b,c⟩
 rintro⟨a,b,c⟩;exact⟨p,a,h,⟨b,rfl,c⟩,rfl⟩
def AR(E:Nat->List Nat)(D:Nat->Nat->Bool)(n h x:Nat):Prop:=x=h\/∃t∈AH E D n h,DR (Bs E n) (· ≠h) t x
structure FX(E:Nat->List Nat)(n:Nat)(bad:Nat->Nat->Prop)(b k x:Nat):Prop where
 lt:b<n
 at_:(E b)[k]?=K x
 is:bad b x
 less:∀b' k' x',b'<n->(E b')[k']?=K x'->b'<b\/(b'=b/\k'<k)->¬bad b' x'
theorem FX.one{E:Nat->List Nat}{n:Nat}{bad:Nat->Nat->Prop}{b k x f c d:Nat}(h:FX E n bad b k x)(a:FX E n bad f c d):x=d:=by
 by_cases e:b=f
 . subst e;by_cases g:k=c
   . subst g;have i:=h.at_;rw[a.at_]at i;exact(kH i).symm
   rcases Nat.lt_or_gt_of_ne g with q|q
   . exact absurd h.is (a.less b k x h.lt h.at_ (.inr ⟨rfl,q⟩))
   exact absurd a.is (h.less b c d a.lt a.at_ (.inr ⟨rfl,q⟩))
 rcases Nat.lt_or_gt_of_ne e with q|q
 . exact absurd h.is (a.less b k x h.lt h.at_ (.inl q))
 exact absurd a.is (h.less f c d a.lt a.at_ (.inl q))
def Mb(O:List Nat)(D:Nat->Nat->Bool)(b x:Nat):Prop:=Dp O x<=Dp O b/\¬D x b=true
theorem Jt(h:q:=by go_enter func65,ntmps65;go_wp2;go_ret;exact⟨rfl,rfl⟩):q:=h
theorem Ci(x:MI)(w:Y):Ai Ap 65 #[x.op] w λe h=>e=Al (A6 x)/\h=w:=by
 by_cases a:x.op=25
 . (have e:A6 x=true:=by simp[A6,a]);rw[e,a];exact Jt
 by_cases b:x.op=26
 . (have e:A6 x=true:=by simp[A6,b]);rw[e,b];exact Jt
 by_cases c:x.op=27
 . (have e:A6 x=true:=by simp[A6,c]);rw[e,c];exact Jt
 have e:A6 x=false:=by simp[A6,a,b,c]
 have d:(x.op==25)=false:=by simpa using a
 have f:(x.op==26)=false:=by simpa using b
 have g:(x.op==27)=false:=by simpa using c
 rw[e];generalize x.op=op at a b c d f g;exact Jt
theorem Qq{q:Prop}(h:q:=by
 go_wp2;go_roundw;case rel=>exact⟨k+1,by omega,by go_num,HN,by trivial⟩
 simp[intOf];omega):q:=h
theorem Rl(s:J)(xs:List MI)(w:Y)(B:xs.length<=1048576)(h:Rd w 4 s xs (Ad MI.cells xs)):
 Ai Ap 92 #[s] w λe F=>AJ e (A3 xs)/\F=w:=by
 have H:Ae (Rd w 4 s xs (Ad MI.cells xs)):=h;obtain⟨G,c1,rfl⟩:=h.dk;clear h;generalize t:xs.length=n at B H;have a:Ae (xs.length=n):=t;clear t;by_cases P:n<1
 . (have HN:Ae (¬A3 xs):= λe=>by have:=e.1;rw[a]at this;omega);have D:(n:Int)<1:=oM;go_enter func92,ntmps92;go_wp2;go_ret;exact⟨.no HN,rfl⟩
 have D:¬(n:Int)<1:=oM;by_cases Q:1024<n
 . (have HN:Ae (¬A3 xs):= λe=>by have:=e.2.1;rw[a]at this;omega);have E:(1024:Int)<(n:Int):=oM;go_enter func92,ntmps92;go_wp2;go_ret;exact⟨.no HN,rfl⟩
 have E:¬(1024:Int)<(n:Int):=oM;go_enter func92,ntmps92;go_wp2;go_loopw [4] (λi wr=>∃k:Nat,k<=n/\i=Ag Af k/\Ae (∀j,j<k->∀x,xs[j]?=K x->A6 x=true->0<=x.c/\x.c<(n:Int))/\wr=w) (λi _=>n-(intOf i).toNat)
 case atStart=>exact⟨0,oM,rfl, λj z=>oM,rfl⟩
 obtain⟨k,L,rfl,m,rfl⟩:=hrel;by_cases q:k<n
 . obtain⟨x,l⟩:∃x,xs[k]?=K x:=⟨_,an (by rw[a];exact q)⟩;have f:Ae (xs[k]?=K x):=l;rcases H.2 with⟨I,_⟩|⟨g,o,c,r,p⟩
   . omega
   simp only[i8,lB]at r;obtain⟨rfl,rfl⟩:=r;have C:=Rd.elem MI.dr p k _ l 0 _ rfl;have O:=Rd.elem MI.dr p k _ l 3 _ rfl;rw[kJ]at C;clear p l;have N:(k:Int)<(n:Int):=oM;go_wp2_with fail;refine(Ci x _).mono ?_;rintro e u ⟨rfl,rfl⟩;cases hgo:A6 x
   . have HN:Ae (∀j,j<k+1->∀x,xs[j]?=K x->A6 x=true->0<=x.c/\x.c<(n:Int)):= λj z y d b=>by
      by_cases e:j=k
      . subst e;rw[f]at d;(cases d);rw[hgo]at b;cases b
      exact m.o j oM y d b
     exact Qq
   . by_cases R:x.c<0
     . (have HN:Ae (¬A3 xs):= λe=>by have:=e.2.2 k x f hgo;omega);go_wp2;go_ret;exact⟨.no HN,rfl⟩
     by_cases S:(n:Int)<=x.c
     . (have HN:Ae (¬A3 xs):= λe=>by have:=e.2.2 k x f hgo;rw[a]at this;omega);go_wp2;go_ret;exact⟨.no HN,rfl⟩
     have HN:Ae (∀j,j<k+1->∀x,xs[j]?=K x->A6 x=true->0<=x.c/\x.c<(n:Int)):= λj z y d b=>by
      by_cases e:j=k
      . subst e;rw[f]at d;(cases d);omega
      exact m.o j oM y d b
     exact Qq
 have A:Ae (A3 xs):=⟨by rw[a];omega,by rw[a];omega, λi x v b=>by have q:=(i6.1 v).1;rw[a]at q⊢;exact m.o i oM x v b⟩;go_wp2;go_ret;exact⟨.gY A,rfl⟩
theorem Js(h:q:=by go_enter func154,ntmps154;go_wp2;go_ret;exact⟨rfl,(kS _ _).alloc lR _⟩):q:=h
theorem Cw(x:MI)(w:Y):Ai Ap 154 #[.agg #[x.op,x.a,x.b,x.c]] w λe k=>e=Al (A6 x)/\Ah w w k:=by
 by_cases d:x.op=25
 . (have e:A6 x=true:=by simp[A6,d]);rw[e,d];exact Js
 by_cases f:x.op=26
 . (have e:A6 x=true:=by simp[A6,f]);rw[e,f];exact Js
 by_cases g:x.op=27
 . (have e:A6 x=true:=by simp[A6,g]);rw[e,g];exact Js
 have e:A6 x=false:=by simp[A6,d,f,g]
 have h:(x.op==25)=false:=by simpa using d
 have i:(x.op==26)=false:=by simpa using f
 have j:(x.op==27)=false:=by simpa using g
 rw[e];generalize x.op=op at d f g h i j;exact Js
theorem LW(h:q:=by go_enter func104,ntmps104;go_wp2;go_ret;exact⟨rfl,(kS _ _).alloc lR _⟩):q:=h
theorem Lj(x:MI)(w:Y):Ai Ap 104 #[.agg #[x.op,x.a,x.b,x.c]] w λe i=>e=Al (EO x)/\Ah w w i:=by
 by_cases d:x.op=25
 . (have e:EO x=false:=by simp[EO,d]);rw[e,d];exact LW
 by_cases f:x.op=29
 . (have e:EO x=false:=by simp[EO,f]);rw[e,f];exact LW
 have e:EO x=true:=by simp[EO,d,f]
 have g:(x.op != 25)=true:=by simpa using d
 have h:(x.op != 29)=true:=by simpa using f
 rw[e];generalize x.op=op at d f g h;exact LW
theorem LY(h:q:=by rw[e];go_enter func120,ntmps120;go_wp2;go_ret;exact⟨rfl,rfl⟩):q:=h
theorem M8(z:Int)(c:Nat)(w:Y)(f:(c:Int)<=1048576):Ai Ap 120 #[z,c] w λe d=>e=Al (.bool (decide (0<=z/\z<(c:Int))))/\d=w:=by
 by_cases a:0<=z
 . by_cases b:z<(c:Int)
   . have e:decide (0<=z/\z<(c:Int))=true:=by simp[a,b]
     exact LY
   have e:decide (0<=z/\z<(c:Int))=false:=by simp[a,b]
   exact LY
 have e:decide (0<=z/\z<(c:Int))=false:=by simp[a]
 exact LY
theorem EL:Go.Maps.Keyed Ap 2:=Go.Maps.int_keyed underlying2
def AW(w:Y)(b a:Nat)(D:DataW Unit):Prop:=w.ownsMap Ap 2 (unitElem (H:=Unit)) b a D
theorem D9(b a g c:Nat)(D:DataW Unit)(z:Int)(w:Y)(p:Dg z)(s:a<=1048576)(r:w g=K ↑z)(t:¬g=b)(h:AW w b a D):
 Ai Ap 101 #[.map (K b),Z g 1 c] w λe l=>e=Al (.tuple #[])/\AW l b (a+1) (D.put (.int Af z) (.agg []))/\w.grownBy l (K b):=by
 have H:Ae (AW w b a D):=h;clear h;go_enter func101,ntmps101;go_wp2;go_loopw [8] (λi wr=>∃k:Nat,k<=1/\i=.int Af k/\((k=0/\wr=w)\/(k=1/\Ae (AW wr b (a+1) (D.put (.int Af z) (.agg []))/\w.grownBy wr (K b))))) (λi _=>1-(intOf i).toNat)
 case atStart=>exact⟨0,oM,rfl,.inl ⟨rfl,rfl⟩⟩
 obtain⟨k,u,rfl,n⟩:=hrel;rcases n with⟨rfl,rfl⟩|⟨rfl,d⟩
 . rw[show((0:Nat):Int)=0 from rfl];go_wp2_with (at_mapUpdate;refine wpList_mapUpdate_own _ rfl _ _ _ 154 rfl 2 207 EL underlying154 (unitElem (H:=Unit)) b a D rfl H oX _ _ _ rfl rfl (nC underlying2 p) _ [] unitElem_mk ?_;intro q j f);have m:Ae (AW q b (a+1) (D.put (.int Af z) (.agg []))/\_):=⟨j,f⟩
   clear j f;go_wp2;go_roundw;(case rel=>exact⟨1,oM,by go_num,.inr ⟨rfl,m⟩⟩);simp[intOf]
 rw[show((1:Nat):Int)=1 from rfl];go_wp2;go_end0;exact⟨rfl,d.1,d.2⟩
end Go.Proofs.YtmalfecapdmdbaaGreat
