import Derived.Test.YtadcneiiokbofaaGreatBo1
import Derived.Maps.OwnSet
import Derived.Shelf.SlGeneric
import Derived.Shelf.SortG.Plain
import Derived.Shelf.SortG.SortNone
import Derived.Shelf.SlicesG.SearchI
import Derived.Shelf.SlicesG.Turned
import Derived.Ground.SlgnProg
import Derived.Sort.OwnSortedInts
import Derived.Deep.AppendLies
import Derived.Deep.RegionLaw
import Derived.Maps.RangeWalk
import Derived.Sort.KeysCollected
import Derived.Maps.AppendAt
import Derived.Laws.StructEq
namespace Go.Proofs
open Go.Shelf
def Tryz.lSort_ren:Go.Shelf.Ren:=⟨λ |53=>136|64=>162|63=>161|78=>186|79=>187|70=>178|71=>179|72=>180|73=>181|74=>182|75=>183|59=>164|76=>184|77=>185|88=>207|89=>208|90=>209|91=>210|92=>211|68=>171|96=>225|n=>n, λ |22=>29|23=>2|3=>3|51=>238|0=>0|67=>94|69=>231|4=>4|61=>252|60=>251|44=>215|5=>5|9=>9|75=>266|79=>270|83=>280|84=>281|n=>n, λ |n=>n⟩
theorem Tryz.lSort:Go.Proofs.SlLaysN.n53 Tryz.prog Tryz.lSort_ren:={
 mixed:=by kernel_rfl
 f53:=⟨Tryz.f136.name,by decide,Tryz.func136.trans (congrArg some (by kernel_rfl))⟩
 f59:=⟨Tryz.f164.name,by decide,Tryz.func164.trans (congrArg some (by kernel_rfl))⟩
 f63:=⟨Tryz.f161.name,by decide,Tryz.func161.trans (congrArg some (by kernel_rfl))⟩
 f64:=Tryz.func162.trans (congrArg some (by kernel_rfl))
 f68:=⟨Tryz.f171.name,by decide,Tryz.func171.trans (congrArg some (by kernel_rfl))⟩
 f70:=⟨Tryz.f178.name,by decide,Tryz.func178.trans (congrArg some (by kernel_rfl))⟩
 f71:=⟨Tryz.f179.name,by decide,Tryz.func179.trans (congrArg some (by kernel_rfl))⟩
 f72:=⟨Tryz.f180.name,by decide,Tryz.func180.trans (congrArg some (by kernel_rfl))⟩
 f73:=⟨Tryz.f181.name,by decide,Tryz.func181.trans (congrArg some (by kernel_rfl))⟩
 f74:=⟨Tryz.f182.name,by decide,Tryz.func182.trans (congrArg some (by kernel_rfl))⟩
 f75:=⟨Tryz.f183.name,by decide,Tryz.func183.trans (congrArg some (by kernel_rfl))⟩
 f76:=⟨Tryz.f184.name,by decide,Tryz.func184.trans (congrArg some (by kernel_rfl))⟩
 f77:=⟨Tryz.f185.name,by decide,Tryz.func185.trans (congrArg some (by kernel_rfl))⟩
 f78:=Tryz.func186.trans (congrArg some (by kernel_rfl))
 f79:=Tryz.func187.trans (congrArg some (by kernel_rfl))
 f88:=⟨Tryz.f207.name,by decide,Tryz.func207.trans (congrArg some (by kernel_rfl))⟩
 f89:=Tryz.func208.trans (congrArg some (by kernel_rfl))
 f90:=Tryz.func209.trans (congrArg some (by kernel_rfl))
 f91:=⟨Tryz.f210.name,by decide,Tryz.func210.trans (congrArg some (by kernel_rfl))⟩
 f92:=⟨Tryz.f211.name,by decide,Tryz.func211.trans (congrArg some (by kernel_rfl))⟩
 f96:=⟨Tryz.f225.name,by decide,Tryz.func225.trans (congrArg some (by kernel_rfl))⟩
 t0:=Tryz.underlying0
 a0:=Tryz.isAgg0
 z0:=Tryz.sizeOf0
 v0:=Tryz.zeroValue0
 t3:=Tryz.underlying3
 a3:=Tryz.isAgg3
 z3:=Tryz.sizeOf3
 v3:=Tryz.zeroValue3
 t4:=Tryz.underlying4
 a4:=Tryz.isAgg4
 z4:=Tryz.sizeOf4
 v4:=Tryz.zeroValue4
 t5:=Tryz.underlying5
 a5:=Tryz.isAgg5
 z5:=Tryz.sizeOf5
 v5:=Tryz.zeroValue5
 t9:=Tryz.underlying9
 a9:=Tryz.isAgg9
 z9:=Tryz.sizeOf9
 v9:=Tryz.zeroValue9
 t22:=Tryz.underlying29
 a22:=Tryz.isAgg29
 z22:=Tryz.sizeOf29
 v22:=Tryz.zeroValue29
 t23:=Tryz.underlying2
 a23:=Tryz.isAgg2
 z23:=Tryz.sizeOf2
 v23:=Tryz.zeroValue2
 t44:=Tryz.underlying215
 a44:=Tryz.isAgg215
 z44:=Tryz.sizeOf215
 v44:=Tryz.zeroValue215
 t51:=Tryz.underlying238
 a51:=Tryz.isAgg238
 z51:=Tryz.sizeOf238
 v51:=Tryz.zeroValue238
 t60:=Tryz.underlying251
 a60:=Tryz.isAgg251
 z60:=Tryz.sizeOf251
 v60:=Tryz.zeroValue251
 t61:=Tryz.underlying252
 a61:=Tryz.isAgg252
 z61:=Tryz.sizeOf252
 v61:=Tryz.zeroValue252
 t67:=Tryz.underlying94
 a67:=Tryz.isAgg94
 z67:=Tryz.sizeOf94
 v67:=Tryz.zeroValue94
 t69:=Tryz.underlying231
 a69:=Tryz.isAgg231
 z69:=Tryz.sizeOf231
 v69:=Tryz.zeroValue231
 t75:=Tryz.underlying266
 a75:=Tryz.isAgg266
 z75:=Tryz.sizeOf266
 v75:=Tryz.zeroValue266
 t79:=Tryz.underlying270
 a79:=Tryz.isAgg270
 z79:=Tryz.sizeOf270
 v79:=Tryz.zeroValue270
 t83:=Tryz.underlying280
 a83:=Tryz.isAgg280
 z83:=Tryz.sizeOf280
 v83:=Tryz.zeroValue280
 t84:=Tryz.underlying281
 a84:=Tryz.isAgg281
 z84:=Tryz.sizeOf281
 v84:=Tryz.zeroValue281}
def Tryz.lSearch_ren:Go.Shelf.Ren:=⟨λ |49=>140|59=>164|60=>165|68=>171|n=>n, λ |22=>29|23=>2|3=>3|4=>4|51=>238|0=>0|n=>n, λ |n=>n⟩
theorem Tryz.lSearch:Go.Proofs.SlLaysN.n49 Tryz.prog Tryz.lSearch_ren:={
 mixed:=by kernel_rfl
 f49:=⟨Tryz.f140.name,by decide,Tryz.func140.trans (congrArg some (by kernel_rfl))⟩
 f59:=⟨Tryz.f164.name,by decide,Tryz.func164.trans (congrArg some (by kernel_rfl))⟩
 f60:=⟨Tryz.f165.name,by decide,Tryz.func165.trans (congrArg some (by kernel_rfl))⟩
 f68:=⟨Tryz.f171.name,by decide,Tryz.func171.trans (congrArg some (by kernel_rfl))⟩
 t0:=Tryz.underlying0
 a0:=Tryz.isAgg0
 z0:=Tryz.sizeOf0
 v0:=Tryz.zeroValue0
 t3:=Tryz.underlying3
 a3:=Tryz.isAgg3
 z3:=Tryz.sizeOf3
 v3:=Tryz.zeroValue3
 t4:=Tryz.underlying4
 a4:=Tryz.isAgg4
 z4:=Tryz.sizeOf4
 v4:=Tryz.zeroValue4
 t22:=Tryz.underlying29
 a22:=Tryz.isAgg29
 z22:=Tryz.sizeOf29
 v22:=Tryz.zeroValue29
 t23:=Tryz.underlying2
 a23:=Tryz.isAgg2
 z23:=Tryz.sizeOf2
 v23:=Tryz.zeroValue2
 t51:=Tryz.underlying238
 a51:=Tryz.isAgg238
 z51:=Tryz.sizeOf238
 v51:=Tryz.zeroValue238}
def Tryz.lContains_ren:Go.Shelf.Ren:=⟨λ |31=>147|29=>168|n=>n, λ |22=>29|23=>2|4=>4|3=>3|0=>0|n=>n, λ |n=>n⟩
theorem Tryz.lContains:Go.Proofs.SlLaysN.n31 Tryz.prog Tryz.lContains_ren:={
 mixed:=by kernel_rfl
 f29:=⟨Tryz.f168.name,by decide,Tryz.func168.trans (congrArg some (by kernel_rfl))⟩
 f31:=⟨Tryz.f147.name,by decide,Tryz.func147.trans (congrArg some (by kernel_rfl))⟩
 t0:=Tryz.underlying0
 a0:=Tryz.isAgg0
 z0:=Tryz.sizeOf0
 v0:=Tryz.zeroValue0
 t3:=Tryz.underlying3
 a3:=Tryz.isAgg3
 z3:=Tryz.sizeOf3
 v3:=Tryz.zeroValue3
 t4:=Tryz.underlying4
 a4:=Tryz.isAgg4
 z4:=Tryz.sizeOf4
 v4:=Tryz.zeroValue4
 t22:=Tryz.underlying29
 a22:=Tryz.isAgg29
 z22:=Tryz.sizeOf29
 v22:=Tryz.zeroValue29
 t23:=Tryz.underlying2
 a23:=Tryz.isAgg2
 z23:=Tryz.sizeOf2
 v23:=Tryz.zeroValue2}
end Go.Proofs
namespace Go.Proofs.YtadcneiiokbofaaGreat
open Go.ChangeShapes Go.WideShapes Go.ChangeAt Go.RowKit Go.Proofs.Tryz
set_option linter.unusedVariables false
open Option renaming some → K,none → M
open Go renaming Value → J,World → Y,Calls → Ai,TypeId → Aj
open Go.RowKit renaming Below → Ah,Hid → Ae
open List renaming flatMap → Ad
open Go.IntKind renaming i64 → Af
open Go.Value renaming int → Ag,slice → Z,bool → An,agg → Am
open Go.Ending renaming returned → Al
open Go.Proofs.Tryz renaming prog → Ap
open Go.World renaming ownsRow → Ab,setCell → Aa,alloc → Ac
open Go.Obj renaming cells → Ak
set_option maxHeartbeats 4000000
set_option maxRecDepth 100000
variable {p z:Int}{B:Nat}{O:List Nat}{D:Nat->Nat->Bool}{q:Prop}{u U wr:Y}{xs:List MI}
section
variable {P:Program} {ops:Array Oper} {Q:Exit->Act->Y->Prop} {md:Region.Mode} {S:Y->Prop} {n f:Nat} {d:Array Bool} {a:Act} {w:Y}
def Zf(md:Region.Mode)(ops:Array Oper)(d:Array Bool)(i:Nat):Bool:=Region.noSelect ops&&Region.free md ops d i&&(Region.ready md ops d).contains i
theorem Wi{i:Nat}(h:Zf md ops d i=true):Region.noSelect ops=true/\Region.free md ops d i=true/\(Region.ready md ops d).contains i=true:=by simp only[Zf,nO]at h;exact⟨h.1.1,h.1.2,h.2⟩
theorem AH(i:Nat){b:Oper}{v:J}(h:wpAnyH P md ops Q S f (d.setIfInBounds i true) (a.put b.dst v) w)(l:ops[i]?=K b:=by rfl)(j:Zf md ops d i=true:=by kernel_rfl)(e:∀c a w,Q (.panic c) (a.put b.dst v) w->Q (.panic c) a w:=by exact λ_ _ _ h=>h)(hw:Region.wanted b (yielded ops a.tmps)=true:=by rfl)
 (m:∀w,S w->(execOp a.eval b).run P w=.ok (.value v) w:=by(intro w hSw;(try dsimp only at hSw);(repeat obtain⟨hSa,hSw⟩:=hSw);go_simp;(try with_reducible rfl))) (g:S w:=by assumption):wpAnyH P md ops Q S (f+1) d a w:=
 have k:=Wi j
 wpAnyH_take l k.1 k.2.1 k.2.2 e (.inl ⟨hw,m⟩) g h
theorem tkU(i:Nat){b:Oper}(h:wpAnyH P md ops Q S f (d.setIfInBounds i true) (a.put b.dst undef) w)(l:ops[i]?=K b:=by rfl)(j:Zf md ops d i=true:=by kernel_rfl)(e:∀c a w,Q (.panic c) (a.put b.dst undef) w->Q (.panic c) a w:=by exact λ_ _ _ h=>h)(hw:Region.wanted b (yielded ops a.tmps)=false:=by rfl)(g:S w:=by assumption):wpAnyH P md ops Q S (f+1) d a w:=
 have k:=Wi j
 wpAnyH_take l k.1 k.2.1 k.2.2 e (.inr ⟨hw,rfl⟩) g h
theorem Hc(i:Nat){b:Oper}{v:J}(h:Dk P md ops Q S n f (d.setIfInBounds i true) (a.put b.dst v) w)(p:ops[i]?=K b:=by rfl)(m:(Zf md ops d i&&S9 md ops n d&&decide (i<n))=true:=by kernel_rfl)(j:∀c a w,Q (.panic c) (a.put b.dst v) w->Q (.panic c) a w:=by exact λ_ _ _ h=>h)(hw:Region.wanted b (yielded ops a.tmps)=true:=by rfl)
 (q:∀w,S w->(execOp a.eval b).run P w=.ok (.value v) w:=by(intro w hSw;(try dsimp only at hSw);(repeat obtain⟨hSa,hSw⟩:=hSw);go_simp;(try with_reducible rfl))) (l:S w:=by assumption):Dk P md ops Q S n (f+1) d a w:=
 have e:=Bool.and_eq_true_iff.1 m
 have g:=Bool.and_eq_true_iff.1 e.1
 have k:=Wi g.1
 Q6 p k.1 k.2.1 k.2.2 g.2 (o8 e.2) j (.inl ⟨hw,q⟩) l h
theorem CX(i:Nat){o:Oper}(h:∀b:Act->Y->Prop,Shut (∀a w,S w->(S w->wpAnyH P md ops Q S f (d.setIfInBounds i true) a w)->b a w)->if Region.wanted o (yielded ops a.tmps)=true then Oper.wp P o a w b Q else b (a.put o.dst undef) w)(e:Region.ready md ops d=[i]:=by kernel_rfl)(c:ops[i]?=K o:=by rfl):wpAnyH P md ops Q S (f+1) d a w:=wpAnyH_ready e sP (AllReadyH.cons c h AllReadyH.nil)
theorem Ys(i:Nat){o:Oper}(h:∀b:Act->Y->Prop,Shut (∀a w,(i<n->S w)->((i<n->S w)->Dk P md ops Q S n f (d.setIfInBounds i true) a w)->b a w)->if Region.wanted o (yielded ops a.tmps)=true then Oper.wp P o a w b Q else b (a.put o.dst undef) w)(e:Region.ready md ops d=[i]:=by kernel_rfl)(c:ops[i]?=K o:=by rfl):Dk P md ops Q S n (f+1) d a w:=Pn e sP (DA.cons c h DA.nil)
end
theorem _root_.Go.Shut.o{p:Prop}(h:Shut p):p:=h
def Ux(w:Y)(v:J)(f:MB):Prop:=Rd w 1 v f.next (Ad As f.next)
def MB.small(f:MB):Prop:=f.next.length<=1048576
theorem Ux.a7{w a:Y}{v:J}{f:MB}(h:Ux w v f)(c:Ah B w a)(b: ↑w<=B):Ux a v f:=Rd.a7 h c b
def I4(w:Y)(s:J)(fs:List MB):Prop:=∃xs:List (MB×J),xs.map Prod.fst=fs/\Rd w 3 s fs (Ad B4 xs)/\∀x∈xs,Ux w x.2 x.1
theorem I4.a7{w c:Y}{s:J}{fs:List MB}(h:I4 w s fs)(b:Ah B w c)(a: ↑w<=B):I4 c s fs:=by obtain⟨xs,d,e,f⟩:=h;exact⟨xs,d,e.a7 b a, λx g=>(f x g).a7 b a⟩
def A3(x:MI):Bool:=decide (x.op=25)||decide (x.op=26)||decide (x.op=27)
def FW(x:MI):Bool:=decide (¬x.op=25)&&decide (¬x.op=29)
def AZ(xs:List MI):Prop:=1<=xs.length/\xs.length<=1024/\∀(i:Nat) (x:MI),xs[i]?=K x->A3 x=true->0<=x.c/\x.c<(xs:Int)
def F7(x:MI)(i j:Nat):Bool:=(A3 x&&decide (x.c=(j:Int)))||((A3 x||decide (x.op=29))&&decide (j=i+1))
def BL(xs:List MI)(k j:Nat):Bool:=decide (j=0)||(List.range k).any λi=>match xs[i]? with|some x=>F7 x i j|none=>false
theorem Jc(xs:List MI)(k:Nat):BL xs k 0=true:=by simp[BL]
theorem KF(xs:List MI)(j:Nat):BL xs 0 j=decide (j=0):=by simp[BL]
theorem Ej(xs:List MI)(k j:Nat)(x:MI)(a:xs[k]?=K x):BL xs (k+1) j=(BL xs k j||F7 x k j):=by simp[BL,List.range_succ,a,Bool.or_assoc]
theorem JC(xs:List MI)(k i j:Nat)(x:MI)(a:i<k)(b:xs[i]?=K x)(h:F7 x i j=true):BL xs k j=true:=by simp only[BL,Bool.or_eq_true,List.any_eq_true,nE];exact .inr ⟨i,a,by rw[b];exact h⟩
def CV(xs:List MI)(i:Nat):List Nat:=(List.range i).filter (BL xs xs)
theorem L3(xs:List MI)(i:Nat):CV xs (i+1)=if BL xs xs i=true then CV xs i++[i]else CV xs i:=by
 unfold CV;rw[nW,nY];by_cases h:BL xs xs i=true
 . simp[h]
 simp[h]
theorem CH(xs:List MI)(i j:Nat):j∈CV xs i↔j<i/\BL xs xs j=true:=by simp[CV]
theorem C4(xs:List MI)(i:Nat):(CV xs i).Pairwise (· < ·):=List.Pairwise.filter _ oh
theorem J8(xs:List MI)(i:Nat)(h:0<i):CV xs i≠[]:= λe=>by have:=(CH xs i 0).2 ⟨h,Jc _ _⟩;rw[e]at this;cases this
theorem T3(xs:List MI)(i n:Nat)(h:i<=n):∃r,CV xs n=CV xs i++r:=by
 induction n with
 | zero=>obtain rfl:i=0:=oM;exact⟨[],sP⟩
 | succ n c=>
   by_cases a:i=n+1
   . subst a;exact⟨[],sP⟩
   obtain⟨r,b⟩:=c oM;rw[L3,b];split
   . exact⟨r++[n],sP⟩
   exact⟨r,rfl⟩
theorem WX(xs:List MI)(p n:Nat)(c:p<n)(b:BL xs xs p=true):(CV xs n).idxOf p=(CV xs p).length/\(CV xs (p+1)).length=(CV xs p).length+1:=by have a:=L3 xs p;rw[lZ b]at a;obtain⟨r,d⟩:=T3 xs (p+1) n c;refine⟨?_,by rw[a];simp⟩;rw[d,a,nN,List.idxOf_append,lS (by rw[CH];omega)];simp
theorem WY(xs:List MI)(p q n:Nat)(g:p<n)(i:q<n)(e:BL xs xs p=true)(f:BL xs xs q=true)(h:(CV xs n).idxOf p=(CV xs n).idxOf q):p=q:=by have c:p∈CV xs n:=(CH _ _ _).2 ⟨g,e⟩;have d:q∈CV xs n:=(CH _ _ _).2 ⟨i,f⟩;have a:=List.getElem_idxOf (oV.2 c);have b:=List.getElem_idxOf (oV.2 d);rw[<-a,<-b];congr 1
def Ld(a:List MB)(i:Int):List MB:=match a.getLast? with|some b=>a.dropLast++[⟨b.gZ,i,b.next⟩]|none=>[]
theorem Fi(a:List MB)(b:MB)(i:Int):Ld (a++[b]) i=a++[⟨b.gZ,i,b.next⟩]:=by simp[Ld]
def BA(xs:List MI):Nat->List MB
 |0=>[]
 |i+1=>Ld (if BL xs xs i=true then BA xs i++[⟨i,0,[]⟩]else BA xs i) i
def build(L:List Nat)(e:Nat):List MB:=List.zipWith (λ(a b:Nat)=>(⟨(a:Int),(b:Int)-1,[]⟩:MB)) L (L.tail++[e])
theorem I9(L:List Nat)(i e:Nat)(h:L≠[]):build (L++[i]) e=build L i++[⟨(i:Int),(e:Int)-1,[]⟩]:=by
 unfold build;rw[List.tail_append_of_ne_nil h,nN,show(L.tail++([i]++[e]))=(L.tail++[i])++[e]from sP,List.zipWith_append (by
  cases L with
  |nil=>exact absurd rfl h
  |cons a r=>simp)]
 rfl
theorem Cr(xs:List MI)(i:Nat):BA xs i=build (CV xs i) i:=by
 induction i with
 |zero=>rfl
 | succ i d=>
   simp only[BA];rw[L3];by_cases h:BL xs xs i=true
   . rw[lZ h,lZ h,Fi];by_cases c:i=0
     . subst c;simp[BA,CV,build]
     rw[I9 _ _ _ (J8 xs i oM),d];simp
   rw[lS h,lS h];have c:0<i:=by
    cases i with
    |zero=>exact absurd (Jc _ _) h
    |succ i=>omega
   obtain⟨b,a,e⟩:∃b a,CV xs i=b++[a]:=⟨_,_,(List.dropLast_concat_getLast (J8 xs i c)).symm⟩;rw[d,e];cases b with
   |nil=>simp[build,Ld]
   | cons m b=>rw[I9 _ _ _ sP,I9 _ _ _ sP,Fi];simp
theorem Oz(L:List Nat)(e:Nat):(build L e).length=L.length:=by
 unfold build;cases L with
 |nil=>rfl
 |cons a r=>simp
theorem BW(xs:List MI)(i:Nat):(BA xs i).length=(CV xs i).length:=by rw[Cr,Oz]
def Bc(xs:List MI)(i:Nat):Int:=((CV xs (i+1)).length:Int)-1
theorem FP(xs:List MI)(p n:Nat)(b:p<n)(a:BL xs xs p=true):Bc xs p=((CV xs n).idxOf p:Int):=by have:=WX xs p n b a;unfold Bc;omega
theorem VH(xs:List MI)(p q n:Nat)(c:p<n)(d:q<n)(a:BL xs xs p=true)(b:BL xs xs q=true):Bc xs p=Bc xs q↔p=q:=by rw[FP xs p n c a,FP xs q n d b];exact⟨λh=>WY xs p q n c d a b oM, λh=>by rw[h]⟩
def Bg(xs:List MI)(x:MI)(e:Nat):List Int:=(if FW x=true/\e+1< ↑xs then[((e+1:Nat):Int)]else[])++(if A3 x=true/\¬(FW x=true/\e+1< ↑xs/\x.c=((e+1:Nat):Int))then[x.c]else[])
def Ea(xs:List MI)(x:MI)(e:Nat):List Int:=
 let a:=if FW x=true/\e+1< ↑xs then[Bc xs (e+1)]else[]
 a++(if A3 x=true/\(a=[]\/¬a=[Bc xs x.c.toNat])then[Bc xs x.c.toNat]else[])
theorem Lx(L:List Nat)(n b e:Nat)(m:MB)(h:(build L n)[b]?=K m)(d:m.last=(e:Int))(g:e+1<n):e+1∈L:=by
 unfold build at h;rw[oJ]at h;cases h1:L[b]? with
 |none=>rw[h1]at h;simp at h
 | some a=>
   cases h2:(L.tail++[n])[b]? with
   |none=>rw[h1,h2]at h;simp at h
   | some q=>
     rw[h1,h2]at h;simp only[lH]at h;subst h;simp only[]at d;have f:q=e+1:=oM;subst f;have:=lA h2;rcases lT.1 this with c|c
     . exact pD c
     simp at c;omega
theorem NM(xs:List MI)(b e:Nat)(x:MI)(m:MB)(v:AZ xs)(l:(BA xs xs)[b]?=K m)(t:m.last=(e:Int))(i:xs[e]?=K x):Ea xs x e=(Bg xs x e).map λp=>((CV xs xs).idxOf p.toNat:Int):=by
 have u:e<xs.length:=(i8.1 i).1;rw[Cr]at l;have n:e+1< ↑xs->BL xs xs (e+1)=true:= λh=>((CH _ _ _).1 (Lx _ _ _ _ _ l t h)).2
 have r:A3 x=true->x.c.toNat< ↑xs/\BL xs xs x.c.toNat=true/\(x.c.toNat:Int)=x.c:= λh=>by obtain⟨a,d⟩:=v.2.2 e x i h;have f:(x.c.toNat:Int)=x.c:=oZ a;exact⟨oM,JC xs _ e _ x u i (by simp[F7,h,f]),f⟩
 unfold Ea Bg;by_cases a:FW x=true/\e+1< ↑xs
 . have j:=FP xs (e+1) xs a.2 (n a.2);simp only[lZ a];by_cases d:A3 x=true
   . obtain⟨c1,c2,c3⟩:=r d;have k:=FP xs x.c.toNat xs c1 c2;have s:=VH xs (e+1) x.c.toNat xs a.2 c1 (n a.2) c2;by_cases f:x.c=((e+1:Nat):Int)
     . have g:¬(A3 x=true/\([Bc xs (e+1)]=[]\/¬[Bc xs (e+1)]=[Bc xs x.c.toNat])):= λh=>h.2.elim (λq=>by cases q) (λq=>q (by rw[s.2 oM]))
       simp only[lS g];rw[lS (λh=>h.2 ⟨a.1,a.2,f⟩)];simp[j]
     have g:(A3 x=true/\([Bc xs (e+1)]=[]\/¬[Bc xs (e+1)]=[Bc xs x.c.toNat])):=⟨d,.inr (λq=>f (by have:=s.1 (by simpa using q);omega))⟩
     simp only[lZ g];rw[lZ ⟨d, λh=>f h.2.2⟩];simp[j,k]
   simp only[d,false_and,if_false,o5];simp[j]
 simp only[lS a];by_cases d:A3 x=true
 . obtain⟨c1,c2,c3⟩:=r d;have k:=FP xs x.c.toNat xs c1 c2;have g:(A3 x=true/\(True\/¬([]:List Int)=[Bc xs x.c.toNat])):=⟨d,.inl trivial⟩
   rw[lZ g,lZ ⟨d, λh=>a ⟨h.1,h.2.1⟩⟩];simp[k]
 simp only[d,false_and,if_false,o5];rfl
inductive Ef (E:Nat->List Nat) (ok:Nat->Prop) (a:Nat):Nat->Prop
 |here:ok a->Ef E ok a a
 |step {b c:Nat}:Ef E ok a b->c∈E b->ok c->Ef E ok a c
inductive Gf (E:Nat->List Nat) (ok:Nat->Prop) (a:Nat):Nat->Nat->Prop
 |here (k:Nat):ok a->Gf E ok a k a
 |step {k b c:Nat}:Gf E ok a k b->c∈E b->ok c->Gf E ok a (k+1) c
section
variable {E:Nat->List Nat} {ok ok':Nat->Prop} {a b c:Nat}
theorem Ef.trans(h:Ef E ok a b)(d:Ef E ok b c):Ef E ok a c:=by
 induction d with
 |here _=>exact h
 |step _ e f g=>exact .step g e f
theorem Ef.mono(h:Ef E ok a b)(hw:∀x,ok x->ok' x):Ef E ok' a b:=by
 induction h with
 |here h=>exact .here (hw _ h)
 |step _ c d e=>exact .step e c (hw _ d)
theorem Ef.kB(h:Ef E ok a b):ok b:=by
 cases h with
 |here h=>exact h
 |step _ _ h=>exact h
theorem Ef.jR(h:Ef E ok a b):ok a:=by
 induction h with
 |here h=>exact h
 |step _ _ _ c=>exact c
theorem Ef.lt{n:Nat}(d:∀b,b<n->∀x∈E b,x<n)(e:a<n)(h:Ef E ok a b):b<n:=by
 induction h with
 |here _=>exact e
 |step _ c _ f=>exact d _ f _ c
theorem Gf.mono{k c:Nat}(h:Gf E ok a k b)(g:k<=c):Gf E ok a c b:=by
 induction h generalizing c with
 |here k h=>exact .here _ h
 | step _ d e f=>
   cases c with
   |zero=>omega
   |succ c=>exact .step (f oM) d e
theorem Gf.kh{k:Nat}(h:Gf E ok a k b):Ef E ok a b:=by
 induction h with
 |here k h=>exact .here h
 |step _ c d e=>exact .step e c d
theorem Ef.some(h:Ef E ok a b):∃k,Gf E ok a k b:=by
 induction h with
 |here h=>exact⟨0,.here _ h⟩
 | step _ c d f=>obtain⟨k,e⟩:=f;exact⟨k+1,.step e c d⟩
end
theorem NX(m:Nat)(Q:Nat->Nat->Prop)(f:∀i k j,Q i k->k<=j->Q i j)(P:Nat->Prop)(h:∀i,P i->∃k,Q i k):∃a,∀i,i<m->P i->Q i a:=by
 induction m with
 |zero=>exact⟨0, λi c=>absurd c (Nat.not_lt_zero _)⟩
 | succ m n=>
   obtain⟨a,d⟩:=n;by_cases g:P m
   . obtain⟨k,l⟩:=h m g;refine⟨max a k, λi c b=> ?_⟩;by_cases e:i=m
     . subst e;exact f _ _ _ l (Nat.le_max_right _ _)
     exact f _ _ _ (d i oM b) (Nat.le_max_left _ _)
   refine⟨a, λi c b=> ?_⟩;by_cases e:i=m
   . subst e;exact absurd b g
   exact d i oM b
theorem Ui(E:Nat->List Nat)(n:Nat):∃a,∀e,e<n->∀x,x<n->Ef E (· ≠e) 0 x->Gf E (· ≠e) 0 a x:=by
 have f:∀e,∃k,∀x,x<n->Ef E (· ≠e) 0 x->Gf E (· ≠e) 0 k x:= λe=>
  NX n (λx k=>Gf E (· ≠e) 0 k x) (λi k l h b=>h.mono b) (λx=>Ef E (· ≠e) 0 x) (λi h=>h.some)
 obtain⟨a,g⟩:=NX n (λe k=>∀x,x<n->Ef E (· ≠e) 0 x->Gf E (· ≠e) 0 k x) (λi k l h b x d c=>(h x d c).mono b) (λ_=>True) (λi _=>f i);exact⟨a, λe j x d c=>g e j trivial x d c⟩
def C9(E:Nat->List Nat)(d b:Nat):Prop:=¬Ef E (· ≠d) 0 b
inductive Ev (I:Nat->Int) (d:Nat):Nat->Prop
 |here:Ev I d d
 |up {b c:Nat}:b≠0->I b=(c:Int)->Ev I d c->Ev I d b
def Kn(I:Nat->Int)(b:Nat):Prop:=b=0\/I b≠ -1
structure PH(n:Nat)(pl:Nat->Nat)(I:Nat->Int):Prop where
 up:∀b,b<n->b≠0->I b≠ -1->∃c:Nat,I b=(c:Int)/\c<n/\pl c<pl b/\Kn I c
section
variable {n:Nat} {pl:Nat->Nat} {I J:Nat->Int} {d e b c x:Nat}
theorem Ev.trans(h:Ev I d c)(a:Ev I c b):Ev I d b:=by
 induction a with
 |here=>exact h
 |up h1 h2 _ ih=>exact .up h1 h2 ih
theorem Ev.jd(g:PH n pl I)(a:b<n)(h:Ev I d b):pl d<=pl b/\(d≠b->pl d<pl b)/\d<n:=by
 induction h with
 |here=>exact⟨Nat.le_refl _, λh=>absurd rfl h,a⟩
 | @up b c h1 h2 _ ih=>obtain⟨c',e,f,j,_⟩:=g.up b a h1 (by rw[h2];omega);obtain rfl:c'=c:=oM;obtain⟨k,l,i⟩:=ih f;exact⟨oM, λ_=>oM,i⟩
theorem Ev.kn(j:PH n pl I)(g:b<n)(i:Kn I b)(h:Ev I d b):Kn I d:=by
 induction h with
 |here=>exact i
 | @up b c h1 h2 _ ih=>obtain⟨c',e,a,k,f⟩:=j.up b g h1 (by rw[h2];omega);obtain rfl:c'=c:=oM;exact ih a f
theorem Ev.zero(h:Ev I d 0):d=0:=by
 cases h with
 |here=>rfl
 |up h1=>exact absurd rfl h1
theorem Ev.iV(h:Ev I d b)(a:d≠b):b≠0/\∃c:Nat,I b=(c:Int)/\Ev I d c:=by
 cases h with
 |here=>exact absurd rfl a
 |up h1 h2 h3=>exact⟨h1,_,h2,h3⟩
theorem Ev.jk(c:PH n pl I)(g:b<n)(h:Ev I d b)(f:Ev I b d):d=b:=by
 have a:=h.jd c g;have i:=f.jd c a.2.2;by_cases e:d=b
 . exact e
 have:=a.2.1 e;omega
theorem Ev.turn(f:∀y,y≠b->I y=J y)(h:Ev I d x):Ev J d x\/(Ev J b x/\Ev I b x/\Ev I d b):=by
 induction h with
 |here=>exact .inl .here
 | @up x c h1 h2 h3 a=>
   by_cases e:x=b
   . subst e;exact .inr ⟨.here,.here,.up h1 h2 h3⟩
   rcases a with a|⟨g,i,j⟩
   . exact .inl (.up h1 (by rw[<-f x e];exact h2) a)
   exact .inr ⟨.up h1 (by rw[<-f x e];exact h2) g,.up h1 h2 i,j⟩
end
def Cn(I:Nat->Int)(a b m:Nat):Prop:=∀d,Ev I d m↔Ev I d a/\Ev I d b
theorem Cn.same(I:Nat->Int)(a:Nat):Cn I a a a:= λd=>⟨λh=>⟨h,h⟩, λh=>h.1⟩
theorem Cn.symm{I:Nat->Int}{a b m:Nat}(h:Cn I a b m):Cn I b a m:= λd=>(h d).trans And.comm
theorem Cn.left{n:Nat}{pl:Nat->Nat}{I:Nat->Int}{a b m c:Nat}(k:PH n pl I)(i:b<n)(p:pl b<pl a)(g:a≠0)(j:I a=(c:Int))(h:Cn I c b m):Cn I a b m:= λd=>by
 rw[h d];refine⟨λq=>⟨.up g j q.1,q.2⟩, λq=>⟨?_,q.2⟩⟩;by_cases e:d=a
 . subst e;have:=(q.2.jd k i).1;omega
 obtain⟨_,c',l,f⟩:=q.1.iV e;obtain rfl:c'=c:=oM;exact f
def Bj(n:Nat)(I:Nat->Int)(ps:List Nat)(z:Int):Prop:=(z=-1/\∀p∈ps,¬Kn I p)\/∃m:Nat,z=(m:Int)/\m<n/\Kn I m/\(∃p∈ps,Kn I p)/\∀d,Ev I d m↔∀p∈ps,Kn I p->Ev I d p
structure Jl(E:Nat->List Nat)(n:Nat)(pl:Nat->Nat)(I:Nat->Int):Prop where
 tree:PH n pl I
 jt:∀x,x<n->Kn I x->∀d,C9 E d x->Ev I d x
 jp:∀b c:Nat,b<n->b≠0->I b=(c:Int)->Ef E (λx=>pl c<=pl x) c b
def MO(E:Nat->List Nat)(n:Nat)(pl:Nat->Nat)(I:Nat->Int)(k j:Nat):Prop:=∀x,x<n->Kn I x->∀e,Ev I e x->¬Gf E (· ≠e) 0 k x/\(pl x<j->¬Gf E (· ≠e) 0 (k+1) x)
theorem Jl.down{E:Nat->List Nat}{n:Nat}{pl:Nat->Nat}{I:Nat->Int}(h:Jl E n pl I){b x:Nat}(d:x<n)(f:Ev I b x):Ef E (λy=>pl b<=pl y) b x:=by
 induction f with
 |here=>exact .here lR
 | @up x c h1 h2 h3 ih=>obtain⟨c',e,a,g,_⟩:=h.tree.up x d h1 (by rw[h2];omega);obtain rfl:c'=c:=oM;have i:=(h3.jd h.tree a).1;exact(ih a).trans ((h.jp x c' d h1 h2).mono λy j=>oM)
theorem Gf.split{E:Nat->List Nat}{e b k x:Nat}(h:Gf E (· ≠e) 0 k x):Gf E (· ≠b) 0 k x\/Gf E (· ≠e) 0 k b:=by
 induction h with
 | here k h=>
   by_cases q:(0:Nat)=b
   . subst q;exact .inr (.here _ h)
   exact .inl (.here _ q)
 | @step k p c h1 h2 h3 a=>
   rcases a with a|a
   . by_cases q:c=b
     . subst q;exact .inr (.step h1 h2 h3)
     exact .inl (.step a h2 q)
   exact .inr (a.mono oM)
def Kt(E:Nat->List Nat)(n b:Nat)(ps:List Nat):Prop:=∀p,p∈ps↔p<n/\b∈E p
theorem P7{E:Nat->List Nat}{n b d:Nat}{ps:List Nat}(e:Kt E n b ps)(h:C9 E d b)(a:d≠b):∀p∈ps,C9 E d p:= λp c f=>h (.step f ((e p).1 c).2 a.symm)
theorem OI{E:Nat->List Nat}{n b d:Nat}{ps:List Nat}(e:∀b,b<n->∀x∈E b,x<n)(g:0<n)(i:Kt E n b ps)(f:b≠0)(h:∀p∈ps,C9 E d p):C9 E d b:= λj=>by
 cases j with
 |here _=>exact f rfl
 |step a c _=>exact h _ ((i _).2 ⟨a.lt e g,c⟩) a
structure DZ(E:Nat->List Nat)(n:Nat)(pl:Nat->Nat):Prop where
 pos:0<n
 jb:∀b,b<n->∀x∈E b,x<n
 zero:pl 0=0
 gZ:∀b,b<n->b≠0->0<pl b
 inj:∀a b,a<n->b<n->pl a=pl b->a=b
 par:∀b,b<n->b≠0->∃q,q<n/\b∈E q/\pl q<pl b
section
variable {E:Nat->List Nat} {n:Nat} {pl:Nat->Nat} {I J:Nat->Int} {b m k:Nat} {ps:List Nat}
theorem J5(l:DZ E n pl)(k:Jl E n pl I)(r:b<n)(s:b≠0)(v:Kt E n b ps)(u:∀x,x<n->pl x<pl b->Kn I x)(t:Bj n I ps z):∃m:Nat,z=(m:Int)/\m<n/\Kn I m/\pl m<pl b/\∀d,Ev I d m↔∀p∈ps,Kn I p->Ev I d p:=by
 obtain⟨q,a,w,y⟩:=l.par b r s;have e:=u q a y;have f:=(v q).2 ⟨a,w⟩;rcases t with⟨_,h⟩|⟨m,g,i,j,_,c⟩
 . exact absurd e (h q f)
 have:=((c m).1 .here q f e).jd k.tree a;exact⟨m,g,i,j,oM,c⟩
theorem Jl.set(P:DZ E n pl)(a:Jl E n pl I)(Q:b<n)(R:b≠0)(v:Kt E n b ps)(U:∀x,x<n->pl x<pl b->Kn I x)(u:m<n)(V:Kn I m)(F:pl m<pl b)(D:∀d,Ev I d m↔∀p∈ps,Kn I p->Ev I d p)(f:∀y,y≠b->I y=J y)(r:J b=(m:Int)):Jl E n pl J/\(∀x,Kn I x->Kn J x)/\(∀x,Kn J x->x=b\/Kn I x)/\(∀d,Ev I d m↔Ev J d m):=by
 have t:∀x,Kn I x->Kn J x:= λx h=>by
  by_cases e:x=b
  . subst e;exact .inr (by rw[r];omega)
  rcases h with h|h
  . exact .inl h
  exact .inr (by rw[<-f x e];exact h)
 have C:∀x,Kn J x->x=b\/Kn I x:= λx h=>by
  by_cases e:x=b
  . exact .inl e
  rcases h with h|h
  . exact .inr (.inl h)
  exact .inr (.inr (by rw[f x e];exact h))
 have A:PH n pl J:=⟨λx g k l=>by
  by_cases e:x=b
  . subst e;exact⟨m,r,u,F,t m V⟩
  obtain⟨c,c1,c2,c3,c4⟩:=a.tree.up x g k (by rw[f x e];exact l);exact⟨c,by rw[<-f x e];exact c1,c2,c3,t c c4⟩⟩
 have G:∀d,Ev I d m↔Ev J d m:= λd=>by
  constructor
  . intro h;rcases h.turn f with h|⟨_,i,_⟩
    . exact h
    have:=(i.jd a.tree u).1;omega
  intro h;rcases h.turn (λy L=>(f y L).symm)with h|⟨_,i,_⟩
  . exact h
  have:=(i.jd A u).1;omega
 have B:∀d,C9 E d b->Ev J d b:= λd j=>by
  by_cases e:d=b
  . subst e;exact .here
  refine .up R r ((G d).1 ((D d).2 λp H s=>a.jt p ((v p).1 H).1 s d (P7 v j e p H)))
 refine⟨⟨A, λx g s d j=> ?_, λx c g k S=> ?_⟩,t,C,G⟩
 . by_cases e:x=b
   . subst e;exact B d j
   have T:=(C x s).resolve_left e;rcases(a.jt x g T d j).turn f with h|⟨l,i,O⟩
   . exact h
   by_cases z:d=b
   . subst z;exact l
   refine(B d λW=>j (W.trans ((a.down g i).mono λy L q=> ?_))).trans l;subst q;have:=(O.jd a.tree Q).2.1 z;omega
 by_cases e:x=b
 . subst e;obtain rfl:c=m:=oM;obtain⟨q,w,N,X⟩:=P.par x g k;have qa:=(D c).1 .here q ((v q).2 ⟨w,N⟩) (U q w X);exact .step (a.down w qa) N (o7 F)
 exact a.jp x c g k (by rw[f x e];exact S)
theorem MO.set(j:DZ E n pl)(w:Jl E n pl I)(l:MO E n pl I k (pl b))(A:b<n)(B:b≠0)(F:Kt E n b ps)(Q:∀x,x<n->pl x<pl b->Kn I x)(L:k=0\/∀x,x<n->Kn I x)(S:m<n)(T:Kn I m)(U:pl m<pl b)(C:∀d,Ev I d m↔∀p∈ps,Kn I p->Ev I d p)(z:∀y,y≠b->I y=J y)(H:J b=(m:Int)):MO E n pl J k (pl b+1):=by
 obtain⟨X,ae,P,V⟩:=w.set j A B F Q S T U C z H;have t:∀e,Ev J e b->¬Gf E (· ≠e) 0 (k+1) b:= λe g a=>by
  by_cases q:e=b
  . subst q;exact a.kh.kB rfl
  obtain⟨_,c,c1,c2⟩:=g.iV q;obtain rfl:c=m:=oM;have N:=(C e).1 ((V e).2 c2);cases a with
  |here _ h=>exact B rfl
  | @step _ p _ f u v=>
    have s:p<n:=f.kh.lt j.jb j.pos;have D:Kn I p:=by
     rcases L with rfl|h
     . (cases f);exact .inl rfl
     exact h p s
    exact(l p s D e (N p ((F p).2 ⟨s,u⟩) D)).1 f
 intro x i O e g;by_cases q:x=b
 . subst q;exact⟨λh=>t e g (h.mono oM), λ_=>t e g⟩
 have r:=(P x O).resolve_left q;rcases g.turn (λy W=>(z y W).symm)with h|⟨f,u,v⟩
 . refine⟨(l x i r e h).1, λR=>(l x i r e h).2 ?_⟩;by_cases G:pl x=pl b
   . exact absurd (j.inj x b i A G) q
   omega
 refine⟨λa=> ?_, λR=> ?_⟩
 . rcases a.split (b:=b)with a|a
   . exact(l x i r b f).1 a
   exact t e v (a.mono oM)
 have:=(f.jd w.tree i).2.1 (Ne.symm q);omega
theorem WH(e:DZ E n pl)(j:Jl E n pl I)(f:∀x,x<n->Kn I x)(q:Nat->List Nat)(t:∀b,b<n->Kt E n b (q b))(s:∀b,b<n->b≠0->Bj n I (q b) (I b)){d x:Nat}(a:x<n):Ev I d x↔C9 E d x:=by
 refine⟨λk u=> ?_,j.jt x a (f x a) d⟩;induction u with
 |here h=>exact h (Ev.zero k).symm
 | @step p c h1 h2 h3 ih=>have g:p<n:=h1.lt e.jb e.pos;obtain⟨i,m,z,r⟩:=k.iV (Ne.symm h3);have l:=t c a;obtain⟨w,f1,_,_,_,f2⟩:=J5 e j a i l (λy v _=>f y v) (s c a i);obtain rfl:w=m:=oM;exact ih g ((f2 d).1 r p ((l p).2 ⟨g,h2⟩) (f p g))
theorem WG(q:DZ E n pl)(a:Jl E n pl I)(k:∀x,x<n->Kn I x)(t:∀x,x<n->∀d,Ev I d x->C9 E d x)(f:b<n)(j:b≠0)(i:Kt E n b ps)(B:Bj n I ps z):z=I b:=by
 obtain⟨m,w,A,G,H,s⟩:=J5 q a f j i (λy D _=>k y D) B;obtain⟨c,c1,c2,c3,c4⟩:=a.tree.up b f j ((k b f).resolve_left j);have u:∀d,Ev I d m↔Ev I d c:= λd=>by
  constructor
  . intro h;(have r:d≠b:= λe=>by have:=(h.jd a.tree A).1;rw[e]at this;omega);(have l:C9 E d b:=OI q.jb q.pos i j λp g=>t p ((i p).1 g).1 d ((s d).1 h p g (k p ((i p).1 g).1)));obtain⟨_,c',F,v⟩:=(a.jt b f (k b f) d l).iV r;obtain rfl:c'=c:=oM;exact v
  intro h;have r:d≠b:= λe=>by have:=(h.jd a.tree c2).1;rw[e]at this;omega
  have l:=t b f d (.up j c1 h);exact(s d).2 λp g C=>a.jt p ((i p).1 g).1 C d (P7 i l r p g)
 have:=Ev.jk a.tree c2 ((u m).1 .here) ((u c).2 .here);rw[w,c1,this]
theorem Jl.start(a:∀y,I y=-1):Jl E n pl I:=⟨⟨λb _ _ h=>absurd (a b) h⟩, λx i g d f=>by
 obtain rfl:x=0:=g.resolve_right λh=>h (a x)
 by_cases e:d=0
 . subst e;exact .here
 exact absurd (.here (Ne.symm e)) f, λb c _ _ h=>by rw[a b]at h;omega⟩
theorem MO.start(d:DZ E n pl)(a:∀y,I y=-1):MO E n pl I 0 1:= λx f c e b=>by
 obtain rfl:x=0:=c.resolve_right λh=>h (a x)
 obtain rfl:=b.zero;exact⟨λh=>h.kh.jR rfl, λ_ h=>h.kh.jR rfl⟩
theorem MO.pass(c:DZ E n pl)(d:MO E n pl I k n)(g:∀x,x<n->pl x<n):MO E n pl I (k+1) 1:= λx a f e b=>by
 refine⟨(d x a f e b).2 (g x a), λi=> ?_⟩;by_cases q:x=0
 . subst q;obtain rfl:=b.zero;exact λh=>h.kh.jR rfl
 have:=c.gZ x a q;omega
end
inductive Vs (E:Nat->List Nat):List Nat->List Nat->List Nat->List Nat->List Nat->Prop
 |nil (S O:List Nat):Vs E S O [] S O
 |old {S O r S' O':List Nat} {b:Nat}:b∈S->Vs E S O r S' O'->Vs E S O (b::r) S' O'
 |new {S O r S1 O1 S2 O2:List Nat} {b:Nat}:b∉S->Vs E (b::S) O (E b) S1 O1->Vs E S1 (O1++[b]) r S2 O2->Vs E S O (b::r) S2 O2
theorem Vs.one{E:Nat->List Nat}{S O r e d b a:List Nat}(h:Vs E S O r e d)(c:Vs E S O r b a):e=b/\d=a:=by
 induction h generalizing b a with
 |nil S O=>cases c with|nil=>exact⟨rfl,rfl⟩
 | old h1 _ ih=>
   cases c with
   |old _ h3=>exact ih h3
   |new h3=>exact absurd h1 h3
 | new h1 _ _ ih1 ih2=>
   cases c with
   |old h3=>exact absurd h3 h1
   | new _ h3 h4=>obtain⟨rfl,rfl⟩:=ih1 h3;exact ih2 h4
theorem Vs.ir{E:Nat->List Nat}{S O r f d b e c:List Nat}(h:Vs E S O r d b)(a:Vs E d b f e c):Vs E S O (r++f) e c:=by
 induction h with
 |nil S O=>exact a
 |old h1 _ ih=>exact .old h1 (ih a)
 |new h1 h2 _ _ ih=>exact .new h1 h2 (ih a)
structure XZ(E:Nat->List Nat)(S O r S' O' N:List Nat):Prop where
 o:O'=O++N
 seen:∀x,x∈S'↔x∈S\/x∈N
 nodup:N.Nodup
 fresh:∀x∈N,x∉S
 todo:∀x∈r,x∈S'
 closed:∀x∈N,∀y∈E x,y∈S'
 par:∀x∈N,x∈r\/∃p A B C,N=A++x::B++p::C/\x∈E p
 from_:∀x∈N,∃t∈r,Ef E (· ∉S) t x
theorem Vs.told{E:Nat->List Nat}{S O r S' n:List Nat}(h:Vs E S O r S' n):∃N,XZ E S O r S' n N:=by
 induction h with
 |nil S O=>exact⟨[],sP,sP,List.nodup_nil,sP,sP,sP,sP,sP⟩
 | @old S O r S' n b h1 _ ih=>
   obtain⟨N,t⟩:=ih;refine⟨N,t.o,t.seen,t.nodup,t.fresh, λx a=> ?_,t.closed, λx a=> ?_, λx a=> ?_⟩
   . rcases lw.1 a with rfl|a
     . exact(t.seen x).2 (.inl h1)
     exact t.todo x a
   . rcases t.par x a with h|h
     . exact .inl (mX _ h)
     exact .inr h
   obtain⟨y,v,w⟩:=t.from_ x a;exact⟨y,mX _ v,w⟩
 | @new S O r S1 O1 S2 O2 b h1 _ _ ih1 ih2=>
   obtain⟨j,f⟩:=ih1;obtain⟨k,c⟩:=ih2;have m:∀x,x∈S1↔x=b\/x∈S\/x∈j:= λx=>by rw[f.seen,lw,or_assoc]
   have s:∀x,x∈S2↔x=b\/x∈S\/x∈j\/x∈k:= λx=>by
    rw[c.seen,m];constructor
    . rintro((h|h|h)|h)
      . exact .inl h
      . exact .inr (.inl h)
      . exact .inr (.inr (.inl h))
      exact .inr (.inr (.inr h))
    rintro(h|h|h|h)
    . exact .inl (.inl h)
    . exact .inl (.inr (.inl h))
    . exact .inl (.inr (.inr h))
    exact .inr h
   have l:∀x,x∈j++b::k↔x=b\/x∈j\/x∈k:= λx=>by
    rw[lT,lw];constructor
    . rintro(h|h|h)
      . exact .inr (.inl h)
      . exact .inl h
      exact .inr (.inr h)
    rintro(h|h|h)
    . exact .inr (.inl h)
    . exact .inl h
    exact .inr (.inr h)
   refine⟨j++b::k,?_, λx=> ?_,?_, λx a=> ?_, λx a=> ?_, λx a y d=> ?_, λx a=> ?_, λx a=> ?_⟩
   . rw[c.o,f.o];simp
   . rw[s,l];constructor
     . rintro(h|h|h)
       . exact .inr (.inl h)
       . exact .inl h
       exact .inr (.inr h)
     rintro(h|h|h)
     . exact .inr (.inl h)
     . exact .inl h
     exact .inr (.inr h)
   . rw[oH];refine⟨f.nodup,List.nodup_cons.2 ⟨λh=>c.fresh b h ((m b).2 (.inl rfl)),c.nodup⟩, λx a y d e=> ?_⟩;subst e;rcases lw.1 d with rfl|d
     . exact f.fresh x a (mV ..)
     exact c.fresh x d ((m x).2 (.inr (.inr a)))
   . rcases(l x).1 a with rfl|h|h
     . exact h1
     . exact λq=>f.fresh x h (mX _ q)
     exact λq=>c.fresh x h ((m x).2 (.inr (.inl q)))
   . rcases lw.1 a with rfl|a
     . exact(s x).2 (.inl rfl)
     exact c.todo x a
   . rcases(l x).1 a with rfl|h|h
     . exact(c.seen y).2 (.inl (f.todo y d))
     . exact(c.seen y).2 (.inl (f.closed x h y d))
     exact c.closed x h y d
   . rcases(l x).1 a with rfl|h|h
     . exact .inl (mV ..)
     . rcases f.par x h with q|⟨p,A,B,C,g,i⟩
       . obtain⟨A,B,rfl⟩:=List.append_of_mem h;exact .inr ⟨b,A,B,k,sP,q⟩
       exact .inr ⟨p,A,B,C++b::k,by rw[g];simp,i⟩
     rcases c.par x h with q|⟨p,A,B,C,g,i⟩
     . exact .inl (mX _ q)
     exact .inr ⟨p,j++b::A,B,C,by rw[g];simp,i⟩
   rcases(l x).1 a with rfl|h|h
   . exact⟨x,mV ..,.here h1⟩
   . obtain⟨t,g,i⟩:=f.from_ x h;(have u:Ef E (· ∉S) t x:=i.mono λy d q=>d (mX _ q));exact⟨b,mV ..,(Ef.step (.here h1) g u.jR).trans u⟩
   obtain⟨t,g,i⟩:=c.from_ x h;exact⟨t,mX _ g,i.mono λy d q=>d ((m y).2 (.inr (.inl q)))⟩
theorem XZ.iff{E:Nat->List Nat}{S O r S' a N:List Nat}(t:XZ E S O r S' a N)(x:Nat):x∈N↔∃q∈r,Ef E (· ∉S) q x:=by
 refine⟨t.from_ x,?_⟩;rintro⟨q,b,c⟩;induction c with
 |here h=>exact((t.seen _).1 (t.todo _ b)).resolve_left h
 |step _ d e f=>exact((t.seen _).1 (t.closed _ f _ d)).resolve_left e
def A8(S:List Nat)(n:Nat):Nat:=((List.range n).filter λi=> !S.contains i).length
theorem EO(S:List Nat)(n x:Nat)(g:x<n)(d:x∉S):A8 (x::S) n+1=A8 S n:=by
 unfold A8;induction n with
 |zero=>omega
 | succ n f=>
   rw[nW,nY,nY,lG,lG];by_cases e:x=n
   . subst e;(have b:(List.range x).filter (λi=> !(x::S).contains i)=(List.range x).filter (λi=> !S.contains i):=by apply List.filter_congr;intro i c;(have:i≠x:=by have:=nE.1 c;omega);simp[this]);rw[b];simp[d]
   have:=f oM;(have a:((x::S).contains n)=S.contains n:=by (have:¬n=x:= λq=>e q.symm);simp[this]);rw[oq,oq,a];simp only[pC];omega
theorem FV(n:Nat):A8 [] n=n:=by unfold A8;simp only[List.contains_nil,Bool.not_false];rw[List.filter_eq_self.2 (λa _=>rfl),m8]
theorem FO(L:List Nat)(n:Nat)(a:∀x∈L,x<n)(d:L.Nodup): ↑L+A8 L n=n:=by
 induction L with
 |nil=>simp[FV]
 | cons x L f=>obtain⟨b,c⟩:=List.nodup_cons.1 d;have:=f (λy e=>a y (mX _ e)) c;have:=EO L n x (a x (mV ..)) b;rw[mW];omega
def Dl(O:List Nat)(b:Nat):Nat:=O.reverse.idxOf b
theorem Yq{b:Nat}(h:b∈O):Dl O b<O.length:=by have:b∈O.reverse:=m7.2 h;have:=oV.2 this;unfold Dl;simpa using this
theorem Ic{b:Nat}(h:b∈O):O.reverse[Dl O b]?=K b:=by have a:b∈O.reverse:=m7.2 h;have c:=oV.2 a;unfold Dl;rw[an c,List.getElem_idxOf]
theorem Ti{a b:Nat}(e:a∈O)(f:b∈O)(h:Dl O a=Dl O b):a=b:=by have c:=Ic e;have d:=Ic f;rw[h,d]at c;exact(lP c).symm
theorem Uh{A B C:List Nat}{x p:Nat}(e:O.Nodup)(h:O=A++x::B++p::C):Dl O p<Dl O x:=by
 unfold Dl;subst h;have b:(A++x::B++p::C).reverse=C.reverse++p::(B.reverse++x::A.reverse):=sP;have f:(C.reverse++p::(B.reverse++x::A.reverse)).Nodup:=by rw[<-b];exact List.pairwise_reverse.2 (e.imp Ne.symm)
 rw[b];obtain⟨k,c,a⟩:=oH.1 f;obtain⟨d,l⟩:=List.nodup_cons.1 c;have g:p∉C.reverse:= λq=>a p q p (mV ..) rfl
 have j:x∉C.reverse:= λq=>a x q x sP rfl
 have i:p≠x:= λq=>d (by rw[q];simp)
 rw[List.idxOf_append,List.idxOf_append,lS g,lS j,pI,pI];have:(p==x)=false:=by simpa using i
 simp[this]
theorem CA{E:Nat->List Nat}{n:Nat}(k:0<n)(r:∀b,b<n->∀x∈E b,x<n){S O:List Nat}(h:Vs E [] [] [0] S O)(w:∀b,b<n->b∈S):DZ E n (Dl O)/\O.Nodup/\ ↑O=n/\(∀x,x∈O↔x<n)/\O.reverse[0]?=K 0:=by
 obtain⟨N,t⟩:=h.told;obtain rfl:O=N:=by simpa using t.o
 have c:∀x,x∈O↔x<n:= λx=>by
  constructor
  . intro f;obtain⟨q,g,m⟩:=t.from_ x f;(have:q=0:=by simpa using g);subst this;exact m.lt r k
  intro f;have:=(t.seen x).1 (w x f);simpa using this
 have D: ↑O=n:=by
  have g:=FO O n (λx f=>(c x).1 f) t.nodup;have:A8 O n=0:=by unfold A8;rw[List.length_eq_zero_iff,List.filter_eq_nil_iff];intro a j;simp[(c a).2 (List.mem_range.1 j)]
  omega
 have z:∃l,O=l++[0]:=by
  cases h with
  |old g=>cases g
  | new _ m h3=>
    cases h3 with
    |nil=>exact⟨_,rfl⟩
 obtain⟨l,s⟩:=z;have i:O.reverse[0]?=K 0:=by rw[s];simp
 have u:Dl O 0=0:=by unfold Dl;rw[s];simp
 refine⟨⟨k,r,u, λb d i=> ?_, λa b j d=>Ti ((c a).2 j) ((c b).2 d), λb d y=> ?_⟩,t.nodup,D,c,i⟩
 . rcases Nat.eq_zero_or_pos (Dl O b)with e|e
   . exact absurd (Ti ((c b).2 d) ((c 0).2 k) (by rw[e,u])) i
   exact e
 rcases t.par b ((c b).2 d)with q|⟨p,A,B,C,v,F⟩
 . exact absurd (by simpa using q) y
 exact⟨p,(c p).1 (by rw[v];simp),F,Uh t.nodup v⟩
section
variable {E:Nat->List Nat} {n:Nat} {pl:Nat->Nat} {b c d k:Nat}
theorem C9.jF(E:Nat->List Nat)(d:Nat):C9 E d d:= λh=>h.kB rfl
theorem C9.iJ(h:C9 E d 0):d=0:=by
 by_cases e:d=0
 . exact e
 exact absurd (.here (Ne.symm e)) h
theorem C9.zero(E:Nat->List Nat)(b:Nat):C9 E 0 b:= λh=>h.jR rfl
theorem Ef.split{e x:Nat}(h:Ef E (· ≠e) 0 x):Ef E (· ≠b) 0 x\/Ef E (· ≠e) 0 b:=by
 induction h with
 | here h=>
   by_cases q:(0:Nat)=b
   . subst q;exact .inr (.here h)
   exact .inl (.here q)
 | @step p c h1 h2 h3 a=>
   rcases a with a|a
   . by_cases q:c=b
     . subst q;exact .inr (.step h1 h2 h3)
     exact .inl (.step a h2 q)
   exact .inr a
theorem C9.trans(h:C9 E k d)(e:C9 E d c):C9 E k c:= λa=>by
 rcases a.split (b:=d)with a|a
 . exact e a
 exact h a
theorem C9.jp(g:DZ E n pl)(k:b<n)(h:C9 E d b):Ef E (λx=>pl d<=pl x) d b/\pl d<=pl b/\(d≠b->pl d<pl b):=by
 suffices ∀m b,pl b<=m->b<n->C9 E d b->Ef E (λx=>pl d<=pl x) d b/\pl d<=pl b/\(d≠b->pl d<pl b)from this _ b lR k h
 intro m;induction m with
 | zero=>
   intro b j f c;by_cases e:d=b
   . subst e;exact⟨.here lR,Nat.le_refl _, λq=>absurd rfl q⟩
   by_cases a:b=0
   . subst a;exact absurd c.iJ e
   have:=g.gZ b f a;omega
 | succ m r=>
   intro b j f c;by_cases e:d=b
   . subst e;exact⟨.here lR,Nat.le_refl _, λq=>absurd rfl q⟩
   by_cases a:b=0
   . subst a;exact absurd c.iJ e
   obtain⟨q,s,i,u⟩:=g.par b f a;(obtain⟨p,t,_⟩:=r q oM s λl=>c (.step l i (Ne.symm e)));exact⟨.step p i oM,oM, λ_=>oM⟩
theorem C9.jk(a:DZ E n pl)(f:b<n)(g:d<n)(h:C9 E d b)(c:C9 E b d):d=b:=by
 by_cases e:d=b
 . exact e
 have:=(h.jp a f).2.2 e;have:=(c.jp a g).2.1;omega
def GH(E:Nat->List Nat)(b c:Nat):Prop:=c≠b/\C9 E c b/\∀d,d≠b->C9 E d b->C9 E d c
theorem GH.one(d:DZ E n pl){c':Nat}(e:c<n)(f:c'<n)(h:GH E b c)(a:GH E b c'):c=c':=C9.jk d f e (a.2.2 c h.1 h.2.1) (h.2.2 c' a.1 a.2.1)
theorem Yn(P:Nat->Prop)(pl:Nat->Nat)(B:Nat)(g:∀d,P d->pl d<=B)(h:∃d,P d):∃c,P c/\∀d,P d->pl d<=pl c:=by
 obtain⟨d,a⟩:=h;suffices ∀m d,P d->B<=pl d+m->∃c,P c/\∀d,P d->pl d<=pl c from this B d a oM
 intro m;induction m with
 | zero=>intro d a h;exact⟨d,a, λe b=>by have:=g e b;omega⟩
 | succ m i=>
   intro d a h;by_cases q:∃e,P e/\pl d<pl e
   . obtain⟨e,f,j⟩:=q;exact i e f oM
   exact⟨d,a, λe b=>by
    by_cases r:pl e<=pl d
    . exact r
    exact absurd ⟨e,b,oM⟩ q⟩
theorem Ja(a:DZ E n pl)(i:∀x,x<n->Ef E (λ_=>True) 0 x)(g:b<n)(h:C9 E d b):d<n:=by
 by_cases e:d<n
 . exact e
 refine absurd ?_ h;have c:=i b g;clear h;induction c with
 |here _=>exact .here oM
 | step k l m j=>have f:=k.lt a.jb a.pos;exact .step (j f) l oM
theorem Ta(a:DZ E n pl)(i:∀x,x<n->Ef E (λ_=>True) 0 x)(f:b<n)(l:b≠0):∃c,c<n/\GH E b c:=by
 obtain⟨c,⟨c1,c2⟩,c3⟩:=Yn (λd=>d≠b/\C9 E d b) pl (pl b) (λd h=>(h.2.jp a f).2.1) ⟨0,Ne.symm l,C9.zero E b⟩
 refine⟨c,Ja a i f c2,c1,c2, λd k g j=> ?_⟩;by_cases e:d=c
 . subst e;exact j.kB rfl
 have r:pl d<pl c:=by
  have p:=c3 d ⟨k,g⟩;have m:=a.inj d c (Ja a i f g) (Ja a i f c2);by_cases q:pl d=pl c
  . exact absurd (m q) e
  omega
 exact g (j.trans (((c2.jp a f).1).mono λx s q=>by subst q;omega))
end
def OD(D:Nat->Nat->Bool)(n d:Nat):Nat:=((List.range n).filter λk=>D k d).length
theorem KA(P Q:Nat->Bool)(n c:Nat)(h:∀k,k<n->P k=true->Q k=true)(d:c<n)(a:P c=false)(b:Q c=true):((List.range n).filter P).length<((List.range n).filter Q).length:=by
 have j:∀m,m<=n->((List.range m).filter P).length+(if c<m then 1 else 0)<=((List.range m).filter Q).length:=by
  intro m;induction m with
  |zero=>simp
  | succ m i=>
    intro l;have:=i oM;rw[nW,nY,nY,lG,lG];by_cases e:m=c
    . subst e;simp only[oq,a,b,pC];simp at this⊢;omega
    have f:(c<m+1)=(c<m):=oT;simp only[f];cases hp:P m with
    | false=>simp only[oq,hp,pC];simp only[o5,if_false,mh];omega
    | true=>have g:=h m oM hp;simp only[oq,hp,g,pC];simp only[if_true,mW,mh];omega
 have:=j n lR;rw[lZ d]at this;omega
theorem UR{E:Nat->List Nat}{n:Nat}{pl:Nat->Nat}(f:DZ E n pl)(a:∀d b,D d b=true↔C9 E d b){c d:Nat}(e:c<n)(g:d<n)(h:C9 E d c)(j:d≠c):OD D n d<OD D n c:=by
 refine KA _ _ n c (λk _ i=>(a k c).2 (((a k d).1 i).trans h)) e ?_ ((a c c).2 (C9.jF E c));cases q:D c d with
 |false=>rfl
 |true=>exact absurd (C9.jk f e g h ((a c d).1 q)) j
def Ct(D:Nat->Nat->Bool)(n b j:Nat)(a e:Int):Prop:=(a=-1/\e=-1/\∀d,d<j->¬(d≠b/\D d b=true))\/∃c:Nat,c<j/\a=(c:Int)/\e=(OD D n c:Int)/\c≠b/\D c b=true/\∀d,d<j->d≠b->D d b=true->OD D n d<=OD D n c
theorem Ct.end_{E:Nat->List Nat}{n:Nat}{pl:Nat->Nat}(p:DZ E n pl)(u:∀x,x<n->Ef E (λ_=>True) 0 x)(g:∀d b,D d b=true↔C9 E d b){b:Nat}{j v:Int}(t:b<n)(h:Ct D n b n j v):(b=0/\j=-1)\/b≠0/\∃c:Nat,c<n/\j=(c:Int)/\GH E b c:=by
 by_cases k:b=0
 . subst k;rcases h with⟨f,_⟩|⟨c,_,_,_,l,m,_⟩
   . exact .inl ⟨rfl,f⟩
   exact absurd ((g c 0).1 m).iJ l
 obtain⟨c,i,a⟩:=Ta p u t k;refine .inr ⟨k,c,i,?_,a⟩;rcases h with⟨_,_,f⟩|⟨d,f,l,_,m,q,r⟩
 . exact absurd ⟨a.1,(g c b).2 a.2.1⟩ (f c i)
 by_cases e:d=c
 . rw[l,e]
 have s:=a.2.2 d m ((g d b).1 q);have w:=UR p g i f s e;have y:=r c i a.1 ((g c b).2 a.2.1);omega
theorem Ct.start(D:Nat->Nat->Bool)(n b:Nat):Ct D n b 0 (-1) (-1):=.inl ⟨rfl,rfl, λd a=>oM⟩
theorem Ct.skip{n b j:Nat}{g:Int}(h:Ct D n b j g p)(m:¬(j≠b/\D j b=true)):Ct D n b (j+1) g p:=by
 rcases h with⟨l,a,f⟩|⟨c,l,a,f,q,r,s⟩
 . exact .inl ⟨l,a, λd t=>by
    by_cases e:d=j
    . subst e;exact m
    exact f d oM⟩
 . exact .inr ⟨c,oM,a,f,q,r, λd t i k=>by
    by_cases e:d=j
    . subst e;exact absurd ⟨i,k⟩ m
    exact s d oM i k⟩
theorem Ct.less{n b j:Nat}{f a:Int}(h:Ct D n b j f a)(t:(OD D n j:Int)<=a):Ct D n b (j+1) f a:=by
 rcases h with⟨m,g,i⟩|⟨c,m,g,i,p,q,r⟩
 . omega
 exact .inr ⟨c,oM,g,i,p,q, λd s k l=>by
  by_cases e:d=j
  . subst e;omega
  exact r d oM k l⟩
theorem Ct.more{n b j:Nat}{k i:Int}(h:Ct D n b j k i)(l:j≠b)(m:D j b=true)(r:i<(OD D n j:Int)):Ct D n b (j+1) (j:Int) (OD D n j:Int):=by
 refine .inr ⟨j,oM,rfl,rfl,l,m, λd q a f=> ?_⟩;by_cases e:d=j
 . subst e;omega
 rcases h with⟨_,_,g⟩|⟨c,_,_,g,_,_,p⟩
 . exact absurd ⟨a,f⟩ (g d oM)
 have:=p d oM a f;omega
def BC(E:Nat->List Nat)(n b:Nat):List Nat:=(List.range n).flatMap λp=>((E p).filter λx=>decide (x=b)).map λ_=>p
def AK(E:Nat->List Nat)(D:Nat->Nat->Bool)(n h:Nat):List Nat:=(List.range n).flatMap λp=>((E p).filter λx=>decide (x=h)&&D h p).map λ_=>p
theorem CK(E:Nat->List Nat)(n b p:Nat):p∈BC E n b↔p<n/\b∈E p:=by
 simp only[BC,ni,nE,mG,nh,my];constructor
 . rintro⟨q,a,x,⟨c,rfl⟩,rfl⟩;exact⟨a,c⟩
 rintro⟨a,c⟩;exact⟨p,a,b,⟨c,rfl⟩,rfl⟩
theorem Hs(E:Nat->List Nat)(n b:Nat):Kt E n b (BC E n b):=CK E n b
theorem DG(E:Nat->List Nat)(D:Nat->Nat->Bool)(n h p:Nat):p∈AK E D n h↔p<n/\h∈E p/\D h p=true:=by
 simp only[AK,ni,nE,mG,nh,nO,my];constructor
 . rintro⟨q,a,x,⟨b,rfl,c⟩,rfl⟩;exact⟨a,b,c⟩
 rintro⟨a,b,c⟩;exact⟨p,a,h,⟨b,rfl,c⟩,rfl⟩
def AR(E:Nat->List Nat)(D:Nat->Nat->Bool)(n h x:Nat):Prop:=x=h\/∃t∈AK E D n h,Ef (BC E n) (· ≠h) t x
structure Gk(E:Nat->List Nat)(n:Nat)(bad:Nat->Nat->Prop)(b k x:Nat):Prop where
 lt:b<n
 at_:(E b)[k]?=K x
 is:bad b x
 less:∀b' k' x',b'<n->(E b')[k']?=K x'->b'<b\/(b'=b/\k'<k)->¬bad b' x'
theorem Gk.one{E:Nat->List Nat}{n:Nat}{bad:Nat->Nat->Prop}{b k x f c d:Nat}(h:Gk E n bad b k x)(a:Gk E n bad f c d):x=d:=by
 by_cases e:b=f
 . subst e;by_cases g:k=c
   . subst g;have i:=h.at_;rw[a.at_]at i;exact(lP i).symm
   rcases Nat.lt_or_gt_of_ne g with q|q
   . exact absurd h.is (a.less b k x h.lt h.at_ (.inr ⟨rfl,q⟩))
   exact absurd a.is (h.less b c d a.lt a.at_ (.inr ⟨rfl,q⟩))
 rcases Nat.lt_or_gt_of_ne e with q|q
 . exact absurd h.is (a.less b k x h.lt h.at_ (.inl q))
 exact absurd a.is (h.less f c d a.lt a.at_ (.inl q))
def My(O:List Nat)(D:Nat->Nat->Bool)(b x:Nat):Prop:=Dl O x<=Dl O b/\¬D x b=true
theorem JP(h:q:=by go_enter func100,ntmps100;go_wp2;go_ret;exact⟨rfl,rfl⟩):q:=h
theorem Co(x:MI)(w:Y):Ai Ap 100 #[x.op] w λe h=>e=Al (A3 x)/\h=w:=by
 by_cases a:x.op=25
 . (have e:A3 x=true:=by simp[A3,a]);rw[e,a];exact JP
 by_cases b:x.op=26
 . (have e:A3 x=true:=by simp[A3,b]);rw[e,b];exact JP
 by_cases c:x.op=27
 . (have e:A3 x=true:=by simp[A3,c]);rw[e,c];exact JP
 have e:A3 x=false:=by simp[A3,a,b,c]
 have d:(x.op==25)=false:=by simpa using a
 have f:(x.op==26)=false:=by simpa using b
 have g:(x.op==27)=false:=by simpa using c
 rw[e];generalize x.op=op at a b c d f g;exact JP
theorem Ra{q:Prop}(h:q:=by
 go_wp2;go_roundw;case rel=>exact⟨k+1,by omega,by go_num,HN,by trivial⟩
 simp[intOf];omega):q:=h
theorem R8(s:J)(xs:List MI)(w:Y)(B:xs.length<=1048576)(h:Rd w 4 s xs (Ad MI.cells xs)):
 Ai Ap 99 #[s] w λe F=>AM e (AZ xs)/\F=w:=by
 have H:Ae (Rd w 4 s xs (Ad MI.cells xs)):=h;obtain⟨G,c1,rfl⟩:=h.bW;clear h;generalize t:xs.length=n at B H;have a:Ae (xs.length=n):=t;clear t;by_cases P:n<1
 . (have HN:Ae (¬AZ xs):= λe=>by have:=e.1;rw[a]at this;omega);have D:(n:Int)<1:=oM;go_enter func99,ntmps99;go_wp2;go_ret;exact⟨.no HN,rfl⟩
 have D:¬(n:Int)<1:=oM;by_cases Q:1024<n
 . (have HN:Ae (¬AZ xs):= λe=>by have:=e.2.1;rw[a]at this;omega);have E:(1024:Int)<(n:Int):=oM;go_enter func99,ntmps99;go_wp2;go_ret;exact⟨.no HN,rfl⟩
 have E:¬(1024:Int)<(n:Int):=oM;go_enter func99,ntmps99;go_wp2;go_loopw [4] (λi wr=>∃k:Nat,k<=n/\i=Ag Af k/\Ae (∀j,j<k->∀x,xs[j]?=K x->A3 x=true->0<=x.c/\x.c<(n:Int))/\wr=w) (λi _=>n-(intOf i).toNat)
 case atStart=>exact⟨0,oM,rfl, λj z=>oM,rfl⟩
 obtain⟨k,L,rfl,m,rfl⟩:=hrel;by_cases q:k<n
 . obtain⟨x,l⟩:∃x,xs[k]?=K x:=⟨_,an (by rw[a];exact q)⟩;have f:Ae (xs[k]?=K x):=l;rcases H.2 with⟨I,_⟩|⟨g,o,c,r,p⟩
   . omega
   simp only[lB,mB]at r;obtain⟨rfl,rfl⟩:=r;have C:=Rd.elem MI.dr p k _ l 0 _ rfl;have O:=Rd.elem MI.dr p k _ l 3 _ rfl;rw[lJ]at C;clear p l;have N:(k:Int)<(n:Int):=oM;go_wp2_with fail;refine(Co x _).mono ?_;rintro e u ⟨rfl,rfl⟩;cases hgo:A3 x
   . have HN:Ae (∀j,j<k+1->∀x,xs[j]?=K x->A3 x=true->0<=x.c/\x.c<(n:Int)):= λj z y d b=>by
      by_cases e:j=k
      . subst e;rw[f]at d;(cases d);rw[hgo]at b;cases b
      exact m.o j oM y d b
     exact Ra
   . by_cases R:x.c<0
     . (have HN:Ae (¬AZ xs):= λe=>by have:=e.2.2 k x f hgo;omega);go_wp2;go_ret;exact⟨.no HN,rfl⟩
     by_cases S:(n:Int)<=x.c
     . (have HN:Ae (¬AZ xs):= λe=>by have:=e.2.2 k x f hgo;rw[a]at this;omega);go_wp2;go_ret;exact⟨.no HN,rfl⟩
     have HN:Ae (∀j,j<k+1->∀x,xs[j]?=K x->A3 x=true->0<=x.c/\x.c<(n:Int)):= λj z y d b=>by
      by_cases e:j=k
      . subst e;rw[f]at d;(cases d);omega
      exact m.o j oM y d b
     exact Ra
 have A:Ae (AZ xs):=⟨by rw[a];omega,by rw[a];omega, λi x v b=>by have q:=(i8.1 v).1;rw[a]at q⊢;exact m.o i oM x v b⟩;go_wp2;go_ret;exact⟨.iu A,rfl⟩
theorem JO(h:q:=by go_enter func163,ntmps163;go_wp2;go_ret;exact⟨rfl,(lu _ _).alloc lR _⟩):q:=h
theorem Cy(x:MI)(w:Y):Ai Ap 163 #[.agg #[x.op,x.a,x.b,x.c]] w λe k=>e=Al (A3 x)/\Ah w w k:=by
 by_cases d:x.op=25
 . (have e:A3 x=true:=by simp[A3,d]);rw[e,d];exact JO
 by_cases f:x.op=26
 . (have e:A3 x=true:=by simp[A3,f]);rw[e,f];exact JO
 by_cases g:x.op=27
 . (have e:A3 x=true:=by simp[A3,g]);rw[e,g];exact JO
 have e:A3 x=false:=by simp[A3,d,f,g]
 have h:(x.op==25)=false:=by simpa using d
 have i:(x.op==26)=false:=by simpa using f
 have j:(x.op==27)=false:=by simpa using g
 rw[e];generalize x.op=op at d f g h i j;exact JO
theorem Mr(h:q:=by go_enter func113,ntmps113;go_wp2;go_ret;exact⟨rfl,(lu _ _).alloc lR _⟩):q:=h
theorem LJ(x:MI)(w:Y):Ai Ap 113 #[.agg #[x.op,x.a,x.b,x.c]] w λe i=>e=Al (FW x)/\Ah w w i:=by
 by_cases d:x.op=25
 . (have e:FW x=false:=by simp[FW,d]);rw[e,d];exact Mr
 by_cases f:x.op=29
 . (have e:FW x=false:=by simp[FW,f]);rw[e,f];exact Mr
 have e:FW x=true:=by simp[FW,d,f]
 have g:(x.op != 25)=true:=by simpa using d
 have h:(x.op != 29)=true:=by simpa using f
 rw[e];generalize x.op=op at d f g h;exact Mr
theorem Ms(h:q:=by rw[e];go_enter func129,ntmps129;go_wp2;go_ret;exact⟨rfl,rfl⟩):q:=h
theorem NE(z:Int)(c:Nat)(w:Y)(f:(c:Int)<=1048576):Ai Ap 129 #[z,c] w λe d=>e=Al (.bool (decide (0<=z/\z<(c:Int))))/\d=w:=by
 by_cases a:0<=z
 . by_cases b:z<(c:Int)
   . have e:decide (0<=z/\z<(c:Int))=true:=by simp[a,b]
     exact Ms
   have e:decide (0<=z/\z<(c:Int))=false:=by simp[a,b]
   exact Ms
 have e:decide (0<=z/\z<(c:Int))=false:=by simp[a]
 exact Ms
theorem EY:Go.Maps.Keyed Ap 2:=Go.Maps.int_keyed underlying2
def AP(w:Y)(b a:Nat)(D:DataW Unit):Prop:=w.ownsMap Ap 2 (unitElem (H:=Unit)) b a D
theorem Db(b a g c:Nat)(D:DataW Unit)(z:Int)(w:Y)(p:Dv z)(s:a<=1048576)(r:w g=K ↑z)(t:¬g=b)(h:AP w b a D):
 Ai Ap 110 #[.map (K b),Z g 1 c] w λe l=>e=Al (.tuple #[])/\AP l b (a+1) (D.put (.int Af z) (.agg []))/\w.grownBy l (K b):=by
 have H:Ae (AP w b a D):=h;clear h;go_enter func110,ntmps110;go_wp2;go_loopw [8] (λi wr=>∃k:Nat,k<=1/\i=.int Af k/\((k=0/\wr=w)\/(k=1/\Ae (AP wr b (a+1) (D.put (.int Af z) (.agg []))/\w.grownBy wr (K b))))) (λi _=>1-(intOf i).toNat)
 case atStart=>exact⟨0,oM,rfl,.inl ⟨rfl,rfl⟩⟩
 obtain⟨k,u,rfl,n⟩:=hrel;rcases n with⟨rfl,rfl⟩|⟨rfl,d⟩
 . rw[show((0:Nat):Int)=0 from rfl];go_wp2_with (at_mapUpdate;refine wpList_mapUpdate_own _ rfl _ _ _ 158 rfl 2 56 EY underlying158 (unitElem (H:=Unit)) b a D rfl H oX _ _ _ rfl rfl (oD underlying2 p) _ [] unitElem_mk ?_;intro q j f);have m:Ae (AP q b (a+1) (D.put (.int Af z) (.agg []))/\_):=⟨j,f⟩
   clear j f;go_wp2;go_roundw;(case rel=>exact⟨1,oM,by go_num,.inr ⟨rfl,m⟩⟩);simp[intOf]
 rw[show((1:Nat):Int)=1 from rfl];go_wp2;go_end0;exact⟨rfl,d.1,d.2⟩
theorem QQ(g cap:Nat)(zs:List Int)(w:World)(hH:Go.Sort.Holds (Value.int .i64) w g 0 zs.toArray)(hb:g<w.heap.size)(hl:zs.length<4611686018427387904):
 Calls Tryz.prog 136 #[.slice (some ⟨g,0,none⟩) zs.length cap] w λe w'=>e=.returned (.tuple #[])/\∃n os,w'=Go.Sort.grow (Go.Sort.putRow (Value.int .i64) (Go.Sort.ahead w n) g 0 (zs.mergeSort λx y=>decide (x<=y)).toArray) os:=by
 have h:=AnyG.slices_Sort_int Tryz.lSort g 0 cap zs w hH hb hl;exact h
theorem D8:(Tryz.prog.info? 4).map (λi=>(i.zero,i.size,i.bytes))=K (K ↑false,1,1):=kR
theorem B3{w f:Y}{base:Nat}{e d:Aj}{s v:J}{k x n m:Nat}{xs i:List J}(h:Ab w base e k s n xs)(q:w.grownBy f v.ownBlock)(t:Ab w B d x v m i)(r:e≠d):Ab f base e k s n xs:=by
 refine⟨h.1,?_⟩;rcases h.2 with h|⟨g,cap,j,l,p,b,u⟩
 . exact .inl h
 refine .inr ⟨g,cap,j,l,p,?_,u⟩;rw[q.block g (lK.1 b).1 ?_]
 . exact b
 intro c;rcases t.2 with⟨rfl,_⟩|⟨A,y,z,rfl,_,a,_⟩
 . cases c
 simp only[Value.ownBlock,lH]at c;subst c;rw[b]at a;simp only[lH,nL]at a;exact r a.2.1
def C5(xs:List MI)(k n:Nat):List J:=(List.range (n+1)).map λj=>Value.bool (BL xs k j)
theorem JD(xs:List MI)(k n:Nat):(C5 xs k n).length=n+1:=by simp[C5]
theorem Hx(xs:List MI)(k n j:Nat)(a:j<=n):(C5 xs k n)[j]?=K ↑(BL xs k j):=by simp[C5,show j<n+1 from oM]
theorem Sh(xs:List MI)(n:Nat):(List.replicate (n+1) (Value.bool false)).set 0 (An true)=C5 xs 0 n:=by
 apply nB;intro j;by_cases b:j<n+1
 . rw[Hx _ _ _ _ oM,KF];by_cases a:j=0
   . subst a;simp
   rw[mu oM];simp[a,b]
 rw[lW oT,lW (by simp[C5];omega)]
theorem NI(xs:List MI)(k n c:Nat)(d:c<=n)(P:Nat->Bool)(h:∀j,P j=(BL xs k j||decide (j=c))):(C5 xs k n).set c true=(List.range (n+1)).map λj=>Value.bool (P j):=by
 apply nB;intro j;by_cases b:j<n+1
 . by_cases a:j=c
   . subst a;rw[mi (by rw[JD];omega)];simp[b,h]
   rw[mu oM,Hx _ _ _ _ oM];simp[b,h,a]
 rw[lW (by simp[C5];omega),lW oT]
theorem Sg(P:Nat->Bool)(n c:Nat)(d:c<=n)(Q:Nat->Bool)(h:∀j,Q j=(P j||decide (j=c))):((List.range (n+1)).map λj=>Value.bool (P j)).set c true=(List.range (n+1)).map λj=>Value.bool (Q j):=by
 apply nB;intro j;by_cases b:j<n+1
 . by_cases a:j=c
   . subst a;rw[mi oT];simp[b,h]
   rw[mu oM];simp[b,h,a]
 rw[lW oT,lW oT]
theorem T4(xs:List MI)(k n c:Nat)(x:MI)(g:xs[k]?=K x)(d:A3 x=true)(a:x.c=(c:Int))(b:c<=n)(f:k+1<=n):((C5 xs k n).set c true).set (k+1) true=C5 xs (k+1) n:=by
 rw[NI xs k n c b (λj=>BL xs k j||decide (j=c)) (λj=>rfl)];refine(Sg _ n (k+1) f (λj=>BL xs (k+1) j) (λj=> ?_)).trans rfl;rw[Ej xs k j x g];have e:decide ((c:Int)=(j:Int))=decide (j=c):=by
  by_cases h:j=c
  . simp[h]
  have:¬(c:Int)=(j:Int):=oM;simp[h,this]
 simp[F7,d,a,e,Bool.or_assoc]
theorem Vu(xs:List MI)(k n:Nat)(x:MI)(d:xs[k]?=K x)(a:A3 x=false)(c:x.op=29)(b:k+1<=n):(C5 xs k n).set (k+1) true=C5 xs (k+1) n:=by
 rw[NI xs k n (k+1) b (λj=>BL xs (k+1) j) (λj=> ?_)]
 . rfl
 rw[Ej xs k j x d];simp[F7,a,c]
theorem T5(xs:List MI)(k n:Nat)(x:MI)(c:xs[k]?=K x)(a:A3 x=false)(b:¬x.op=29):C5 xs k n=C5 xs (k+1) n:=by
 unfold C5;congr 1
 funext j
 rw[Ej xs k j x c];simp[F7,a,b]
def H9(xs:List MI)(j:Nat):List J:=As (Bc xs j)
theorem DL(xs:List MI)(j:Nat):(H9 xs j).length=1:=rfl
def Lp(m:MB):List J:=[m.gZ,m.last,Z M 0 0]
theorem FC(m:MB):(Lp m).length=3:=rfl
theorem Ww(a:List MB)(b:MB)(i:Int):(Ad Lp (a++[b])).set (a.length*3+1) i=Ad Lp (a++[(⟨b.gZ,i,b.next⟩:MB)]):=by
 have c:(Ad Lp a).length= ↑a*3:=AE Lp 3 FC a
 simp only[mH,mF,nD,ny];rw[nz _ _ oM,c];simp[Lp]
theorem JB(xs:List MI)(n:Nat)(h:1<=n)(m:MB)(d:m∈BA xs n):∃e:Nat,m.last=(e:Int)/\e<n:=by
 rw[Cr]at d;unfold build at d;obtain⟨i,b⟩:=mJ d;rw[oJ]at b;cases h1:(CV xs n)[i]? with
 |none=>rw[h1]at b;simp at b
 | some a =>
   cases h2:((CV xs n).tail++[n])[i]? with
   |none=>rw[h1,h2]at b;simp at b
   | some q=>
     rw[h1,h2]at b;simp only[lH]at b;subst b;have j:1<=q/\q<=n:=by
      rcases lT.1 (lA h2)with c|c
      . have f:=C4 xs n;have g:=((CH xs n q).1 (pD c)).1;cases hL:CV xs n with
        |nil=>rw[hL]at c;cases c
        | cons y r=>rw[hL]at f c;have:=(mj.1 f).1 q c;omega
      simp at c;omega
     exact⟨q-1,oS,oM⟩
structure Lh(D:DataW Unit)(left:Lit->Bool)(zs:List Int):Prop where
 nodup:zs.Nodup
 mem:∀z,z∈zs↔Dv z/\Go.Maps.has D (.int Af z)=true/\left (.int Af z)=false
theorem Lh.start(D:DataW Unit):Lh D (Go.Maps.has D) []:=⟨List.nodup_nil, λz=>⟨λh=>(by cases h), λh=>by rw[h.2.1]at h;exact absurd h.2.2 sP⟩⟩
theorem DN(z x:Int):(Lit.int Af z).sameKey (.int Af x)=decide (z=x):=by
 by_cases h:z=x
 . subst h;simp[Lit.sameKey]
 rw[Go.Maps.sameKey_ne (λe=>h (by cases e;rfl))];simp[h]
theorem Lh.step{D:DataW Unit}{left:Lit->Bool}{g:List Int}{x:Int}{y:DataW Unit}(h:Lh D left g)(hw:Dv x)(l:left (.int Af x)=true)(k:∀n,D.atKey (.int Af x) n=y):Lh D (λz=>left z&& !z.sameKey (.int Af x)) (g++[x]):=by
 have m:x∉g:= λe=>by have:=((h.mem x).1 e).2.2;rw[l]at this;cases this
 refine⟨?_, λz=> ?_⟩
 . rw[oH];refine⟨h.nodup,sP,?_⟩;intro a j b i;simp only[lw,mK,nJ]at i;subst i;exact λe=>m (e▸j)
 rw[lT,h.mem];simp only[lw,mK,nJ,DN];constructor
 . rintro(⟨c,d,f⟩|rfl)
   . exact⟨c,d,by simp[f]⟩
   exact⟨hw,Go.Maps.has_true_of_atKey k,sP⟩
 rintro⟨c,d,f⟩;by_cases e:z=x
 . exact .inr e
 refine .inl ⟨c,d,?_⟩;simpa[e]using f
theorem Dc(a:List Int):Ad As a=a.map (Value.int Af):=by
 induction a with
 |nil=>rfl
 |cons z r b=>simp[As,b]
theorem N6(d:List Int)(h:d.Nodup):(d.mergeSort λx y=>decide (x<=y)).Pairwise (· < ·):=by have e:(d.mergeSort λx y=>decide (x<=y)).Pairwise (λa b=>decide (a<=b)=true):=List.pairwise_mergeSort (λa b c e f=>by simp at*;omega) (λa b=>oT) d;have f:(d.mergeSort λx y=>decide (x<=y)).Nodup:=(oY d _).nodup_iff.2 h;refine(e.and f).imp ?_;rintro a b ⟨g,i⟩;simp at g;omega
theorem Jg(b f:Nat)(D:DataW Unit)(w:Y)(aR:f<=1048576)(h:AP w b f D):
 Ai Ap 111 #[.map (K b)] w λe C=>∃(g cap:Nat) (a:List Int),e=Al (Z g a cap)/\Ab C w 2 1 (Z g a cap) a (Ad As a)/\a.Pairwise (· < ·)/\(∀z,z∈a↔Dv z/\Go.Maps.has D (.int Af z)=true)/\Ah w w C:=by
 obtain⟨U,L,R,S,T⟩:=mN Br;have n:w.ownsMap Ap 2 (unitElem (H:=Unit)) b f D:=h;have ah:=n.lt;have aW:=n.size_le;clear h;go_enter func111,ntmps111;go_wp2_with (first
  |(at_len;refine wpList_len_own _ rfl _ 158 rfl 2 56 underlying158 _ b f _ rfl n ?_)
  |(at_make;refine wpList_make_own _ rfl _ _ 29 rfl w 2 U (iZ 0) 1 underlying29 L R S _ _ _ (Go.Maps.size D) rfl rfl rfl (by rw[T];omega) oX lR ?_;intro E aH m)
  |(at_range;refine wpList_range_own _ rfl _ 158 rfl 2 56 EY underlying158 _ b f _ rfl (n.kept m sP) ?_;intro w0 aG G aU)
  |go_in)
 go_frame;go_loopw [3] (λv wr=>∃(left:Lit->Bool) (r:Nat) (a:List Int),wr.ranges Ap 2 (unitElem (H:=Unit)) b E f D left r/\ ↑a+r<=Go.Maps.size D/\Ab wr w 2 1 v a (a.map (Value.int Af))/\v≠sN/\Lh D left a/\Ah w w wr) (λ_ wr=>wr.rangeLeft b E)
 case atStart=>exact⟨_,_,[],aG,sP,aH.kept G (Or.inr (by simp[Value.ownBlock])),sP,Lh.start D,((lu _ _).grown m lR (λj d=>by cases d)).grown G m.size (λj d=>by cases d)⟩
 case round=>
  obtain⟨left,r,a,A,aS,B,aE,s,i⟩:=hrel;go_wp2_with (first
   |(at_next;refine wpList_next_ranges _ rfl _ rfl 2 EY (unitElem (H:=Unit)) (Value.int Af) (λ(_:Unit)=>Value.agg #[]) (λaX kl hk=>by obtain⟨x,hx,_⟩:=Go.Maps.keyOf_int_inv underlying2 hk;exact⟨x,hx⟩) (λv y Q=>by obtain⟨rfl,_⟩:=unitElem_inv Q;exact⟨(),rfl⟩) b E f _ _ _ rfl A ?_ ?_)
   |go_in)
  . intro aQ ao;rcases B.2 with⟨aw,_⟩|⟨g,cap,aP,rfl,F,t,X,h2,h3,h4⟩
    . exact absurd aw aE
    have hH:Go.Sort.Holds (Value.int Af) wr g 0 a.toArray:=holds_of_blockI t (by simpa using h4);have aj:g<wr.heap.size:=(lK.1 t).1;have hc:=QQ g cap a wr hH aj oM;have k:Ae ((a.mergeSort λx y=>decide (x<=y)).Pairwise (· < ·)/\(∀z,z∈(a.mergeSort λx y=>decide (x<=y))↔Dv z/\Go.Maps.has D (.int Af z)=true)/\(a.mergeSort λx y=>decide (x<=y)).length= ↑a):=by refine⟨N6 a s.nodup, λz=> ?_,(oY a _).length_eq⟩;rw[(oY a _).mem_iff,s.mem];exact⟨λq=>⟨q.1,q.2.1⟩, λq=>⟨q.1,q.2,ao _⟩⟩
    go_wp2_with (go_at_call 136;refine hc.mono ?_;rintro e C ⟨rfl,nn,os,rfl⟩);go_ret;refine⟨g,cap,a.mergeSort λx y=>decide (x<=y),?_,?_,k.1,k.2.1,i.grown (grownBy_sortedI _) i.size (λj d=>by cases d;exact F)⟩
    . rw[k.2.2];rfl
    rw[k.2.2,Dc];exact ownsRow_sortedI k.2.2 F t X h2 h3
  intro x c kl y w2 V am aq Q ae N au l aI aT;obtain⟨x',W,rfl,aM⟩:=Go.Maps.keyOf_int_inv underlying2 am;obtain rfl:x=x':=by cases W;rfl
  have p:=B.kept l (Or.inr (Go.row_ne_iter B A).symm);clear aI;go_wp2_with (first
   |(at_builtin;refine wpList_append_own _ rfl _ _ 29 rfl w 2 U (iZ 0) 1 8 underlying29 L R S T rfl dC _ _ _ rfl (p.alloc _) w2 1 1 [x] rfl rfl (Go.cell_one_new _ _ _) (λu P=>by simp at P;subst P;rfl) oX oM (by have:=i.size;have:=l.size;simp;omega) ?_;intro v' w3 aF I aA;go_frame)
   |go_in)
  have O:=(N.alloc (Ak #[x] 2)).kept I (Go.row_ne_low p ah) (Go.row_ne_iter p N);go_roundw;case rel=>refine⟨_,V,a++[x],O,oT,by simpa using aF, λaJ=>by have:=(aA.1 aJ).2;omega,s.step aM aq ae,?_⟩;exact((i.grown l i.size (λj d=>by cases d;exact m.size)).alloc (by have:=i.size;have:=l.size;omega) _).grown I (by have:=i.size;have:=l.size;simp;omega) (λj d=>(p.lt j d).1)
  case measure=>rw[O.left_eq,A.left_eq];exact au
def YW(b:Bool):List J:=[b]
structure SW(w u:Y)(xs:List MI)(n k q:Nat)(V:J):Prop where
 lead:Ab u w 4 1 (Z (K ⟨(w:Nat)+1,0,M⟩) (n+1) (n+1)) (n+1) (C5 xs n n)
 num:Ab u w 2 1 (sG q n n) n (BG (H9 xs) [iZ 0] (List.range n) k n)
 o:Ab u w 90 3 V (BA xs k).length (Ad Lp (BA xs k))
 ej:Ah w w u
theorem Pc{B i g d k q n f c c':Nat}{e b:Aj}{xs r:List J}(h:Ab u B e k (sG g n c) n xs)(l:Ab u i b q (sG d f c') f r)(p:e≠b):¬g=d:= λj=>by subst j;obtain⟨_,s,m⟩:=AD h;obtain⟨_,t,a⟩:=AD l;rw[m]at a;simp only[lH,nL]at a;exact p a.2.1
theorem BT{B f g k p n d c:Nat}{e b:Aj}{s:J}{xs r:List J}(h:Ab u B e k s n xs)(j:Ab u f b p (sG g d c) d r)(m:e≠b)(i:Nat)(z:J):Ab (Aa u ⟨g,i,M⟩ z) B e k s n xs:=by obtain⟨_,t,l⟩:=AD j;exact lI h (a:=⟨g,i,M⟩) (λq=>Bt h l m _ q rfl) z
theorem SW.fin{w u:Y}{n k q c cap:Nat}{a:List MB}{b:MB}(i:k<n)(m:Ab u w 4 1 (Z (K ⟨(w:Nat)+1,0,M⟩) (n+1) (n+1)) (n+1) (C5 xs n n))(d:Ab u w 2 1 (sG q n n) n (BG (H9 xs) [iZ 0] (List.range n) k n))(h:Ab u w 90 3 (sG c (a.length+1) cap) (a.length+1) (Ad Lp (a++[b])))(p:Ah w w u)(t:BA xs (k+1)=a++[(⟨b.gZ,(k:Int),b.next⟩:MB)])(s:Bc xs k=(a:Int)):
 SW w (Aa (Aa u ⟨q,k,M⟩ a) ⟨c,a.length*3+1,M⟩ k) xs n (k+1) q (sG c (a.length+1) cap):=by
 have v: ↑w<=q:=(AD d).1
 have r: ↑w<=c:=(AD h).1
 have l:=BT m d dC k a;have e:=BT h d dC k a;have f:=(d.stored k a).1;have j:(BG (H9 xs) [iZ 0] (List.range n) k n).set k a=BG (H9 xs) [iZ 0] (List.range n) (k+1) n:=by rw[CG _ _ _ _ _ i,Wc _ _ _ _ k (by rw[AE (H9 xs) 1 (DL xs),mY,m8];omega),Ey (H9 xs) _ _ k n k (by simp[i])];simp[H9,As,s]
 rw[j]at f;refine⟨BT l e dC _ _,BT f e dC _ _,?_,(p.setCell v _).setCell r _⟩;have g:=(e.stored (a.length*3+1) k).1;rw[Ww]at g;rw[t,lG,lL];exact g
theorem YX{w wr c:Y}{k j q a cap:Nat}{v:J}(h:SW w wr xs k j q v)(x:BA xs (j+1)=BA xs j++[(⟨(j:Int),(j:Int),[]⟩:MB)])(u:Bc xs j=((BA xs j).length:Int))(r:j<k)(f:Ab c w 90 3 (sG a ((BA xs j).length+1) cap) ((BA xs j).length+1) (Ad Lp (BA xs j)++[iZ j,iZ 0,sN]))(l:(Ac wr (Ak #[iZ j,iZ 0,sN] 90)).grownBy c v.ownBlock):
 Ae (SW w (Aa (Aa c ⟨q,j,M⟩ (iZ (BA xs j).length)) ⟨a,(BA xs j).length*3+1,M⟩ j) xs k (j+1) q (sG a ((BA xs j).length+1) cap))/\¬a=q/\¬q=a/\c ⟨q,j,M⟩=K (iZ 0)/\c.frozen? ⟨q,j,M⟩=false/\c ⟨a,(BA xs j).length*3+1,M⟩=K (iZ 0)/\c.frozen? ⟨a,(BA xs j).length*3+1,M⟩=false:=by
 have d:=Aq wr (Ak #[j,iZ 0,sN] 90);have p:=Aw h.o d lR;have y:=B3 (Aw h.lead d lR) l p dC;have g:=B3 (Aw h.num d lR) l p dC;have bel:=(Ar h.ej lR d).grown l (lQ h.ej.size d.size) (λi t=>(p.lt i t).1);have s:=Pc f g dC;have m:=g.cellAt j oM;have n:=f.cellAt ((BA xs j).length*3+1) oM;rw[CG _ _ _ _ _ r,lY (by rw[AE (H9 xs) 1 (DL xs),mY,m8];omega),show j-(List.flatMap (H9 xs) (List.take j (List.range k))).length=0 by rw[AE (H9 xs) 1 (DL xs),mY,m8];omega]at m;simp only[mM,lC]at m;rw[lY (by rw[AE Lp 3 FC];omega),show(BA xs j).length*3+1-(List.flatMap Lp (BA xs j)).length=1 by rw[AE Lp 3 FC];omega]at n;simp only[lF,lC]at n;refine⟨SW.fin (b:=⟨(j:Int),0,[]⟩) r y g (by rw[mH];exact f) bel x u,s, λe=>s e.symm,m,g.frozenAt j,n,f.frozenAt _⟩
theorem DJ(n:Nat):(madeCells (Value.bool false).cells (n*1)).toList=List.replicate n (An false):=by rw[Cc YW [false] [] n false 1 rfl rfl oM];simp[BG,List.flatten_replicate_singleton]
theorem JE(n:Nat)(f:Nat->List J)(a:List Nat):(madeCells (Ag Af 0).cells (n*1)).toList=BG f [iZ 0] a 0 n:=by rw[Cc f [iZ 0] a n (iZ 0) 1 rfl rfl oM]
structure SV(w u:Y)(xs:List MI)(n k:Nat):Prop where
 lead:Ab u w 4 1 (Z (K ⟨(w:Nat)+1,0,M⟩) (n+1) (n+1)) (n+1) (C5 xs k n)
 o:AA u w #[] 90
 ej:Ah w w u
theorem SV.set{w u:Y}{n k a:Nat}(h:SV w u xs n k)(j:Nat)(b:(C5 xs k n).set j true=C5 xs a n):SV w (Aa u ⟨(w:Nat)+1,j,M⟩ true) xs n a:=by refine⟨?_,h.o.other oS _,h.ej.setCell oS _⟩;have:=(h.lead.stored j true).1;rw[b]at this;exact this
theorem SV.lg{w u:Y}{n k b:Nat}(h:SV w u xs n k)(j a:Nat)(c:((C5 xs k n).set j true).set a true=C5 xs b n):SV w (Aa (Aa u ⟨(w:Nat)+1,j,M⟩ true) ⟨(w:Nat)+1,a,M⟩ true) xs n b:=by refine⟨?_,(h.o.other oS _).other oS _,(h.ej.setCell oS _).setCell oS _⟩;have:=((h.lead.stored j true).1.stored a true).1;rw[c]at this;exact this
def DV(c:MC):Prop:=Fo c.type=true/\(c.type=1->c.word<=1)
def Bh(a:List MC):Prop:=a.length<=64/\∀j,j<a.length->∀c,a[j]?=K c->DV c
theorem CO{α:Type}{q:α->Prop}{xs:List α}{k:Nat}{x:α}(b:xs[k]?=K x)(d:q x)(h:∀j,j<k->∀c,xs[j]?=K c->q c):∀j,j<k+1->∀c,xs[j]?=K c->q c:=by
 intro j f c a;by_cases e:j=k
 . subst e;rw[b]at a;exact(lP a)▸d
 exact h j oM c a
theorem OS(v:VP)(p:MP)(w:Y)(R:p.small)(h:Dm w v p):
 Ai Ap 39 #[Am #[v.r,v.k,v.f,v.t]] w λe w'=>AM e (Bh p.dk)/\Ah w w w':=by
 have O:Ae (Rd w 2 v.k p.dk (Ad MC.cells p.dk)):=h.dk;have V:=R.dk;obtain⟨y,vk,s,z⟩:=v;obtain⟨B,c1,C⟩:∃a c,vk=Z a p.dk c:=h.dk.bW;subst C;clear h R;have d:Ae (Ah w w (Ac w (Ak #[y,Z B p.dk c1,s,z] 37))/\En (Ac w (Ak #[y,Z B p.dk c1,s,z] 37)) w y (Z B p.dk c1) s z):=⟨Aq _ _,En.new _ _ _ _ _ _⟩
 generalize T:p.dk=g at*;clear T;generalize Q:g.length=n at V O d;have l:Ae (g.length=n):=Q;clear Q;go_enter func39,ntmps39;go_wp2;go_loopw [3] (λi wr=>∃k:Nat,k<=n/\i=Ag Af k/\Ae (∀j,j<k->∀c,g[j]?=K c->DV c)/\Ae (Ah w.heap.size w wr/\En wr w.heap.size y (Z B n c1) s z)) (λi _=>n-(intOf i).toNat)
 case atStart=>exact⟨0,oM,rfl, λj hj=>oM,d⟩
 clear d;obtain⟨k,hk,rfl,H,d⟩:=hrel;obtain⟨p0,p1,p2,p3⟩:=d.2;by_cases L:k<n
 . obtain⟨x,D⟩:∃x,g[k]?=K x:=⟨_,an (by rw[l];exact L)⟩;rcases O.2 with⟨e0,_⟩|⟨b,o,c,C,I⟩
   . omega
   simp only[lB,mB]at C;obtain⟨rfl,rfl⟩:=C;have q:=Rd.elem MC.dr I k x D 0 _ rfl;have N:=Rd.elem MC.dr I k x D 1 _ rfl;rw[<-d.1.cell (g8 q),lJ]at q;rw[<-d.1.cell (g8 N)]at N;have A:Ae (g[k]?=K x):=D;clear I D;have X:¬b=wr.heap.size:=mR (g8 q);have W:b<wr.heap.size:=g8 q;have m:Ae (Ah w w (Ac wr (Ak #[x.type,Ag .u32 x.word] 102))/\En (Ac wr (Ak #[x.type,Ag .u32 x.word] 102)) w y (Z (K ⟨b,o,M⟩) n c1) s z):=⟨Ar d.1 lR (Aq _ _),d.2.alloc _⟩
   go_wp2_with fail;refine(Ei x.type _).mono ?_;rintro e u ⟨rfl,rfl⟩;clear q N X W p0 p1 p2 p3;cases t1:Fo x.type
   . (have G:Ae (¬Bh g):= λe=>by have:=(e.2 k (by rw[l];exact L) x A).1;simp[t1]at this);clear t1;go_wp2;go_ret;exact⟨.no G,m.1⟩
   have P:Ae (Fo x.type=true):=t1;clear t1;by_cases E:x.type=1
   . rw[E]at m;by_cases q2:1<x.word
     . (have G:Ae (¬Bh g):= λe=>by have:=(e.2 k (by rw[l];exact L) x A).2 E;omega);go_wp2;go_ret;exact⟨.no G,m.1⟩
     have F:Ae (DV x):=⟨P, λ_=>oM⟩;go_wp2;go_roundw;(case rel=>exact⟨k+1,oM,by go_num,CO A F H,m⟩);exact oI
   (have ae:(x.type==1)=false:=by simpa using E);have F:Ae (DV x):=⟨P, λe=>absurd e E⟩;go_wp2;go_roundw;(case rel=>exact⟨k+1,oM,by go_num,CO A F H,m⟩);exact oI
 have U:n=k:=oM;subst U;have S:Ae (decide ((n:Int)<=64)=true↔Bh g):=by show _↔_;rw[my];exact⟨λe=>⟨by rw[l];omega,by rw[l];exact H⟩, λe=>by have:=e.1;rw[l]at this;omega⟩
 go_wp2;go_ret;exact⟨.of S,d.1⟩
theorem Bb{w:Y}{base b:Nat}{e:Aj}{k n:Nat}{v:J}{xs:List J}(h:Ab w base e k v n xs)(d:b<=base):Ab w b e k v n xs:=⟨h.1,h.2.imp id λ⟨g,cap,a,c,f,r⟩=>⟨g,cap,a,c,lQ d f,r⟩⟩
theorem AY{Q:Exit->Act->Y->Prop}{a:Act}(P:Y->Prop)(h:P U)(k:∀u,P u->Q .normal a u):Q .normal a U:=k U h
theorem Au{W:Y}(b:Ah W W u){a:Addr}{x:J}(h:W a=K x):u a=K x:=by rw[b.cell (g8 h)];exact h
def Fb(xs:List MI)(m:MB):MB:=⟨m.gZ,m.last,Ea xs (xs.getD m.last.toNat ⟨0,0,0,0⟩) m.last.toNat⟩
def AL(xs:List MI):List MB:=(BA xs xs).map (Fb xs)
structure TW(w u:Y)(xs:List MI)(n q:Nat)(V:J)(D:List (MB×J)):Prop where
 num:Ab u w 2 1 (sG q n n) n ((List.range n).flatMap (H9 xs))
 o:Ab u w 90 3 V (BA xs n).length (Ad B4 D++Ad Lp ((BA xs n).drop D))
 rows:∀x∈D,Ab u w 2 1 x.2 x.1.next (x.1.next.flatMap As)
 done:D.map Prod.fst=((BA xs n).take D).map (Fb xs)
 ej:Ah w w u
theorem TW.of{w u:Y}{n q:Nat}{V:J}(h:SW w u xs n n q V):TW w u xs n q V []:=by refine⟨?_,by simpa using h.o, λx a=>(by cases a),sP,h.ej⟩;have:=h.num;rw[FE _ _ _ _ sP]at this;exact this
structure NW(wr U:Y)(x:MI)(V:J)(ns:List Int):Prop where
 ej:Ah wr wr U
 xb:AA U wr #[x.op,x.a,x.b,x.c] 79
 row:Ab U wr 2 1 V ns (Ad As ns)
theorem NW.of(wr:Y)(x:MI):NW wr (Ac (Ac wr (Ak #[x.op,x.a,x.b,x.c] 79)) (Ak #[] 2)) x (Z (K ⟨(wr:Nat)+1,0,M⟩) 0 0) []:=by
 have e:=Aq wr (Ak #[x.op,x.a,x.b,x.c] 79);have g:=AA.new wr #[x.op,x.a,x.b,x.c] 79;have i:(Ac wr (Ak #[x.op,x.a,x.b,x.c] 79)).heap.size= ↑wr+1:=sP
 generalize Ac wr (Ak #[x.op,x.a,x.b,x.c] 79)=d at e g i⊢;have f:=Aq d (Ak #[] 2);have h:=AA.new d #[] 2;rw[i]at h;exact⟨Ar e lR f,g.a7 f,⟨rfl,.inr ⟨(wr:Nat)+1,0,#[],rfl,Nat.le_succ _,h,Nat.le_refl _,nZ _,rfl,rfl⟩⟩⟩
theorem NW.drew{x:MI}{V:J}{a:List Int}(h:NW wr U x V a)(k:Nat):NW wr (U.drewN k) x V a:=⟨⟨h.ej.os,h.ej.tape,h.ej.output,h.ej.size,h.ej.block⟩,h.xb,⟨h.row.1,h.row.2⟩⟩
theorem NW.ir{wr U c:Y}{x:MI}{V V':J}{b:List Int}{m:Nat}(h:NW wr U x V b)(g:Ab c wr 2 1 V' m (Ad As b++[iZ z]))(f:m= ↑b+1)(d:(Ac U (Ak #[iZ z] 2)).grownBy c V.ownBlock):NW wr c x V' (b++[z]):=by have a:=Aq U (Ak #[z] 2);refine⟨(Ar h.ej lR a).grown d (lQ h.ej.size a.size) (λi e=>(h.row.lt i e).1),(h.xb.a7 a).grown d (Aw h.row a lR) dC,?_⟩;rw[lG,lL,<-f,mH];exact g
theorem BM(U:Y)(z:Int):∀j u,[(iZ z:J)][j]?=K u->(Ac U (Ak #[z] 2)) ((⟨U,0,M⟩:Addr).add j)=K u:= λj u a=>by rw[CQ,mQ,(AA.new U #[z] 2).cell j];simpa using a
theorem NW.al{x:MI}{V:J}{a:List Int}(h:NW wr U x V a)(o:Obj):Ab (U.alloc o) wr 2 1 V a (Ad As a)/\ ↑wr<=(U.alloc o).heap.size:=⟨Aw h.row (Aq _ _) lR,lQ h.ej.size (Aq _ _).size⟩
theorem TW.next{w wr U:Y}{n q g len cap:Nat}{D:List (MB×J)}{m:MB}{e:Nat}{x:MI}{a:J}{i:List Int}(h:TW w wr xs n q (sG g len cap) D)(u:len=(BA xs n).length)(v:(BA xs n)[D.length]?=K m)(t:m.last=(e:Int))(B:xs[e]?=K x)(p:NW wr U x a i)(A:i=Ea xs x e):TW w (Aa U ⟨g,D.length*3+2,M⟩ a) xs n q (sG g len cap) (D++[(Fb xs m,a)]):=by
 subst u;have f:Ah wr wr U:=p.ej;have d:=Aw h.o f lR;obtain⟨k,l⟩:=i8.1 v;have j:Fb xs m=⟨m.gZ,m.last,i⟩:=by unfold Fb;rw[t,A,lD,lN,B];rfl
 have z:=Bb p.row (b:=w) h.ej.size;refine⟨BT (Aw h.num f lR) d dC _ _,?_,?_,?_,(Ar h.ej lR f).setCell (AD d).1 _⟩
 . have r:=(d.stored (D.length*3+2) a).1;(have s:(Ad B4 D++Ad Lp ((BA xs n).drop D)).set (D.length*3+2) a=Ad B4 (D++[(Fb xs m,a)])++Ad Lp ((BA xs n).drop (D++[(Fb xs m,a)]).length):=by rw[mq k,l,mF,nz _ _ (by rw[AE B4 3 A4];omega),AE B4 3 A4,j];simp[Lp,B4,List.length_append]);rw[s]at r;exact r
 . intro y c;rcases lT.1 c with c|c
   . exact BT (Aw (h.rows y c) f lR) d dC _ _
   simp only[lw,mK,nJ]at c;subst c;simp only[j];exact BT z d dC _ _
 rw[m9,h.done,lG,lL,l8 k,l];simp
theorem TW.rd{w u:Y}{n q:Nat}{V:J}{D:List (MB×J)}(h:TW w u xs n q V D)(b: ↑xs=n)(a: ↑D=(BA xs n).length):I4 u V (AL xs):=by
 have c:D.map Prod.fst=AL xs:=by rw[h.done,a,mC lR];unfold AL;rw[b]
 have d:(AL xs).length=(BA xs n).length:=by unfold AL;rw[mD,b]
 refine⟨D,c,?_, λx e=>Rd.ij (h.rows x e)⟩;have:=Rd.ij h.o;rw[a,oF lR]at this;rw[d];simpa using this
structure ER(p:MP)(a b c:Int):Prop where
 low:0<=c
 kC:c<256
 jN:bits .and Af c (c+1)=0
 there:¬BQ p a b=0
 one:∀j:Nat,(j:Int)<=c->BQ p a (b+j)=BQ p a b
theorem TJ{p:MP}{r c:Int}(b:∀l∈p.aC,l.length<=1048576)(h:¬BQ p r c=0):0<=c/\c<1048576:=by
 unfold BQ at h;split at h
 . exact absurd rfl h
 rename_i g;refine⟨oM,?_⟩;by_cases a:r.toNat< ↑p.aC
 . have f:=b _ (nG a);(have e:p.aC.getD r.toNat []=p.aC[r.toNat]:=by rw[lN,an a];rfl);rw[e]at h;by_cases d:c.toNat<p.aC[r.toNat].length
   . omega
   exact absurd (by rw[lN,lW oM];rfl) h
 have e:p.aC.getD r.toNat []=[]:=by rw[lN,lW oM];rfl
 rw[e]at h;exact absurd rfl h
theorem UL(a:-9223372036854775808<=z:=by omega)(b:z<=9223372036854775807:=by omega):Dv z:=by simp[Dv,Lit.wf,IntKind.min,IntKind.max,IntKind.signed,IntKind.bits];omega
theorem GN(h:Dv z):-9223372036854775808<=z/\z<=9223372036854775807:=by simpa[Dv,Lit.wf,IntKind.min,IntKind.max,IntKind.signed,IntKind.bits]using h
theorem R6(v:VP)(p:MP)(op a b c:Int)(w:Y)(V:p.small)(L:p.aC.length=3)(O:Dv a)(P:Dv b)(R:Dv c)(h:Dm w v p):
 Ai Ap 65 #[Am #[v.r,v.k,v.f,v.t],Am #[op,a,b,c]] w λe w'=>AM e (ER p a b c)/\Ah w w w':=by
 have l:Ae (Ah w w (Ac (Ac w (Ak #[v.r,v.k,v.f,v.t] 37)) (Ak #[op,a,b,c] 79))):=Ar (Aq _ _) lR (Aq _ _);have E:Ae (En (Ac (Ac w (Ak #[v.r,v.k,v.f,v.t] 37)) (Ak #[op,a,b,c] 79)) w v.r v.k v.f v.t):=(En.new w _ _ _ _ _).alloc _;have G:Ae (En (Ac (Ac w (Ak #[v.r,v.k,v.f,v.t] 37)) (Ak #[op,a,b,c] 79)) ((w:Nat)+1) op a b c):=by have:=En.new (Ac w (Ak #[v.r,v.k,v.f,v.t] 37)) op a b c 79;simpa[Ae]using this
 have H:=Av (d5 V (d5 L (d5 O (d5 P h))));obtain⟨c0,c1⟩:=GN R;by_cases W:c<0
 . (have d:Ae (¬ER p a b c):= λe=>absurd e.low oM);go_enter func65,ntmps65;go_wp2;go_ret;exact⟨.no d,l⟩
 by_cases X:256<=c
 . (have d:Ae (¬ER p a b c):= λe=>absurd e.kC oM);go_enter func65,ntmps65;go_wp2;go_ret;exact⟨.no d,l⟩
 obtain⟨c,rfl⟩:=mA (show 0<=c from oM);have ah:c<256:=oM;have W:¬(c:Int)<0:=oM;have X:¬(256:Int)<=(c:Int):=oM;by_cases y:bits .and Af (c:Int) ((c:Int)+1)=0
 . have D:Ae (bits .and Af (c:Int) ((c:Int)+1)=0):=y;go_enter func65,ntmps65;go_wp2_with fail;refine(Jb v p a b _ H.1 H.2.1 H.2.2.1 H.2.2.2.1 (H.2.2.2.2.a7 l lR)).mono ?_;rintro e u0 ⟨rfl,u⟩;have B:=Av (d5 (Ar l lR u) (d5 (E.a7 u) (G.a7 u)));generalize N:BQ p a b=T;have m:=Av N;go_wp2;go_loopw [6] (λi wr=>∃k:Nat,k<=c+1/\i=iZ k/\Ae ((0<k->¬T=0)/\∀j:Nat,j<k->BQ p a (b+j)=T)/\Ae (Ah w w wr/\En wr w v.r v.k v.f v.t/\En wr ((w:Nat)+1) op a b c)) (λi _=>c+1-(intOf i).toNat)
   (case atStart=>exact⟨0,oM,rfl,⟨λh=>oM, λj A=>oM⟩,B⟩);obtain⟨k,hk,rfl,s,g⟩:=hrel;obtain⟨p0,p1,p2,p3⟩:=g.2.1;obtain⟨i0,i1,i2,i3⟩:=g.2.2;by_cases am:k<c+1
   . have U:(k:Int)<=(c:Int):=oM;by_cases n:T=0
     . (have ae:(T==0)=true:=by simpa using n);(have d:Ae (¬ER p a b c):= λe=>e.there (m.trans n));go_wp2;go_ret;exact⟨.no d,g.1⟩
     (have ae:(T==0)=false:=by simpa using n);have Q:=TJ H.1.region (by rw[m];exact n);obtain⟨b0,b1⟩:=Q;have F:=Av n;go_wp2_with fail;refine(Jb v p a (b+k) _ H.1 H.2.1 H.2.2.1 UL (H.2.2.2.2.a7 g.1 lR)).mono ?_;rintro e u1 ⟨rfl,x⟩;have z:=Av (d5 (Ar g.1 lR x) (d5 (g.2.1.a7 x) (g.2.2.a7 x)));by_cases q:BQ p a (b+k)=T
     . rw[q];have C:Ae ((0<k+1->¬T=0)/\∀j:Nat,j<k+1->BQ p a (b+j)=T):=⟨λ_=>F.o, λj A=>by
        by_cases e:j=k
        . rw[e];exact q
        exact s.2 j oM⟩
       go_wp2;go_roundw;(case rel=>exact⟨k+1,oM,by go_num,C,z⟩);exact oI
     (have d:Ae (¬ER p a b c):= λe=>q ((e.one k U).trans m));(have aq:(BQ p a (b+k)==T)=false:=by simpa using q);(have au:(BQ p a (b+k) != T)=true:=by simpa using q);go_wp2;go_ret;exact⟨.no d,z.1⟩
   have S:k=c+1:=oM;subst S;have I:Ae (ER p a b c):=⟨oM,oM,D,by rw[m];exact s.1 oM, λj A=>by rw[m];exact s.2 j oM⟩;have aj:¬((c:Int)+1)<=(c:Int):=oM;go_wp2;go_ret;exact⟨.iu I,g.1⟩
 have d:Ae (¬ER p a b c):= λe=>y e.jN
 have ao:(bits .and Af (c:Int) ((c:Int)+1)==0)=false:=by simpa using y
 go_enter func65,ntmps65;go_wp2;go_ret;exact⟨.no d,l⟩
theorem GO(s:J)(a:List Int)(w:Y)(A:a.length<=1048576)(h:Rd w 1 s a (Ad As a)):
 Ai Ap 104 #[s] w λe C=>e=Al (a.all Fo)/\C=w:=by
 have d:=Av h;obtain⟨D,c1,rfl⟩:=h.bW;generalize t:a.length=n at A d;have f:=Av t;generalize b:a.all Fo=R;have j:=Av b;go_enter func104,ntmps104;go_wp2;go_loopw [7] (λi wr=>∃k:Nat,k<=n/\i=iZ k/\Ae ((a.take k).all Fo=true)/\wr=w) (λi _=>n-(intOf i).toNat)
 case atStart=>exact⟨0,oM,rfl,by simp[Ae],rfl⟩
 obtain⟨k,F,rfl,l,rfl⟩:=hrel;by_cases z:k<n
 . obtain⟨x,q⟩:∃x,a[k]?=K x:=⟨_,an (by rw[f];exact z)⟩;rcases d.2 with⟨E,_⟩|⟨g,o,c,p,v⟩
   . omega
   simp only[lB,mB]at p;obtain⟨rfl,rfl⟩:=p;have B:=Rd.elem Ay v k x q 0 _ rfl;rw[mO,lJ]at B;have m:=Av q;go_wp2_with fail;refine(Eh x wr).mono ?_;rintro e u ⟨rfl,rfl⟩;cases hq:Fo x with
   | false=>(have b:R=false:=by rw[<-j];exact SY _ _ _ (lA m) hq);subst b;go_wp2;go_ret;exact⟨rfl,rfl⟩
   | true=>(have r:Ae ((a.take (k+1)).all Fo=true):=by show _=_;rw[PK _ _ _ _ m l];exact hq);go_wp2;go_roundw;(case rel=>exact⟨k+1,oM,by go_num,r,by trivial⟩);exact oI
 have y:k=n:=oM;subst y;have b:R=true:=by rw[<-j,<-l,<-f,List.take_length]
 subst b;go_wp2;go_ret;exact⟨rfl,rfl⟩
def Hi(r:List Int):Prop:=r.length<=256/\r.all Fo=true
def AS(rs:List (List Int)):Prop:=rs.length=3/\∀j,j<rs.length->∀r,rs[j]?=K r->Hi r
theorem K3(s:J)(fs:List (List Int))(w:Y)(G:fs.length<=1048576)(O:∀f∈fs,f.length<=1048576)(h:I5 w s fs):
 Ai Ap 83 #[s] w λe Q=>AM e (AS fs)/\Q=w:=by
 obtain⟨xs,B,A,L⟩:=h;have P:xs.length=fs.length:=by rw[<-B];simp
 have d:=Av (d5 A (d5 B (d5 L (d5 O P))));obtain⟨R,c1,rfl⟩:=A.bW;generalize H:fs.length=n at G d;have l:=Av H;by_cases D:n=3
 . subst D;go_enter func83,ntmps83;go_wp2;go_loopw [10] (λi wr=>∃k:Nat,k<=3/\i=iZ k/\Ae (∀j,j<k->∀r,fs[j]?=K r->Hi r)/\wr=w) (λi _=>3-(intOf i).toNat)
   (case atStart=>exact⟨0,oM,rfl, λj W=>oM,rfl⟩);obtain⟨k,X,rfl,z,rfl⟩:=hrel;by_cases t:k<3
   . obtain⟨⟨f,v⟩,y⟩:∃x,xs[k]?=K x:=⟨_,an (by rw[d.2.2.2.2];exact t)⟩;have p:=BF d.2.1 y;have q:=d.2.2.1 _ (lA y);have g:=Av (d5 q (d5 (d.2.2.2.1 _ (lA p)) p));rcases d.1.2 with⟨U,_⟩|⟨b,o,c,p,I⟩
     . omega
     simp only[lB,mB]at p;obtain⟨rfl,rfl⟩:=p;have C:=Rd.elem A5 I k _ y 0 _ rfl;rw[mO,lJ]at C;simp only[]at C q;obtain⟨S,T,F⟩:=q.bW;subst F;have hz:=g.2.1;by_cases q1:256<f.length
     . (have a:Ae (¬AS fs):= λe=>absurd (e.2 k (by rw[l];exact t) f g.2.2).1 oM);generalize f.length=m at*;go_wp2;go_ret;exact⟨.no a,rfl⟩
     go_wp2_with fail;refine(GO _ f _ g.2.1 g.1).mono ?_;rintro e u ⟨rfl,rfl⟩;cases t1:f.all Fo
     . (have a:Ae (¬AS fs):= λe=>by have:=(e.2 k (by rw[l];exact t) f g.2.2).2;simp[t1]at this);go_wp2;go_ret;exact⟨.no a,rfl⟩
     have a:Ae (Hi f):=⟨oM,t1⟩;go_wp2;go_roundw;(case rel=>exact⟨k+1,oM,by go_num,CO g.2.2 a z,by trivial⟩);exact oI
   have N:k=3:=oM;subst N;have E:Ae (AS fs):=⟨l,by rw[l];exact z⟩;go_wp2;go_ret;exact⟨.iu E,rfl⟩
 have a:Ae (¬AS fs):= λe=>D (by rw[<-l];exact e.1)
 have V:¬(n:Int)=3:=oM;go_enter func83,ntmps83;go_wp2;go_ret;exact⟨.no a,rfl⟩
theorem TE(h:X3 z):0<=z/\z<=4294967295:=by simpa[X3,Lit.wf,IntKind.min,IntKind.max,IntKind.signed,IntKind.bits]using h
theorem Oc(a b a' c:Int)(w:Y):(binOp .eql 185 (Am #[a,Ag .u32 b]) (Am #[a',Ag .u32 c])).run Ap w=.ok (An (decide (a=a'/\b=c))) w:=by
 have k:=underlying2;have g:=Tryz.isAgg2;have m:=Tryz.sizeOf2;have j:=underlying94;have f:=Tryz.isAgg94;have l:=Tryz.sizeOf94;have d:Tryz.prog.underlying 185=K (.struct (Tryz.prog.fieldsOf 185)):=kR;have e:Tryz.prog.stoodInHeld 185=false:=kR;rw[run_eql_struct,show(10000:Nat)=9999+1 from rfl,run_equalIn_agg w 9999 185 _ _ d e];simp only[Program.fieldsOf,underlying185];go_simp;by_cases h:a=a'
 . by_cases i:b=c<;>simp[*]
 simp[*]
theorem Qm(t x:Int)(w:Y)(i:0<=x):
 Ai Ap 105 #[Am #[t,Ag .u32 x]] w λe m=>AM e (DV ⟨t,x⟩)/\Ah w w m:=by
 by_cases h:t=1
 . subst h;have j:∀w,(binOp .eql 185 (Am #[iZ 1,Ag .u32 x]) (Am #[iZ 1,Ag .u32 0])).run Ap w=.ok (An (decide (1=(1:Int)/\x=0))) w:=Oc 1 x 1 0
   have g:∀w,(binOp .eql 185 (Am #[iZ 1,Ag .u32 x]) (Am #[iZ 1,Ag .u32 1])).run Ap w=.ok (An (decide (1=(1:Int)/\x=1))) w:=Oc 1 x 1 1
   by_cases c:x=0
   . have a:decide (1=(1:Int)/\x=0)=true:=by simp[c]
     have f:Ae (DV ⟨1,x⟩):=⟨rfl, λ_=>oS⟩;rw[a]at j;clear c a g i;go_enter func105,ntmps105;go_wp2;go_ret;exact⟨.iu f,Aq _ _⟩
   have a:decide (1=(1:Int)/\x=0)=false:=by simp[c]
   rw[a]at j;by_cases d:x=1
   . have b:decide (1=(1:Int)/\x=1)=true:=by simp[d]
     have f:Ae (DV ⟨1,x⟩):=⟨rfl, λ_=>oS⟩;rw[b]at g;clear c a d b i;go_enter func105,ntmps105;go_wp2;go_ret;exact⟨.iu f,Aq _ _⟩
   have b:decide (1=(1:Int)/\x=1)=false:=by simp[d]
   (have l:Ae (¬DV ⟨1,x⟩):= λe=>by have:=e.2 rfl;simp only[]at this;omega);rw[b]at g;clear c a d b i;go_enter func105,ntmps105;go_wp2;go_ret;exact⟨.no l,Aq _ _⟩
 have n:(t==1)=false:=by simpa using h
 have k:Ae (Fo t=true↔DV ⟨t,x⟩):=⟨λe=>⟨e, λe=>absurd e h⟩, λe=>e.1⟩;go_enter func105,ntmps105;go_wp2_with fail;refine(Eh t _).mono ?_;rintro e u ⟨rfl,rfl⟩;go_wp2;go_ret;exact⟨.of k,Aq _ _⟩
theorem IM(r s t u:J)(g:VF)(f:MF)(n:Nat)(z:Int)(w:Y)(F:f.small)(h:DF w g f)(i:(f.gU++f.gW)[n]?=K z):
 Ai Ap 135 #[Am #[r,s,t,u,g.p,f.gV,g.l,g.c],n] w λe L=>e=Al z/\Ah w w L:=by
 obtain⟨x,c1,b⟩:=h.1.bW;obtain⟨y,c2,m⟩:=h.2.1.bW;obtain⟨U,T,I⟩:=g;obtain⟨Q,R,S⟩:=F;simp only[]at b m;subst b m;have k:Ae (Ah w w (Ac w (Ak #[r,s,t,u,Z x f.gU c1,f.gV,Z y f.gW c2,I] 162))):=Aq _ _;by_cases q:n< ↑f.gU
 . rw[mP q]at i;have E:(n:Int)<(f.gU:Int):=oM;rcases h.1.2 with⟨A,_⟩|⟨gr,C,B,b,j⟩
   . omega
   simp only[lB,mB]at b;obtain⟨rfl,rfl⟩:=b;have a:=Rd.elem Ay j n z i 0 _ rfl;rw[mO,lJ]at a;have G:=(k.cell (g8 a)).trans a;have H:¬gr=w.heap.size:=mR (g8 a);clear h i j;generalize f.gU.length=N at*;generalize f.gW.length=v at*;go_enter func135,ntmps135;go_wp2;go_ret;exact⟨rfl,k⟩
 rw[lY oM]at i;have D:=(i8.1 i).1;obtain⟨d,rfl⟩:∃d,n= ↑f.gU+d:=⟨n-↑f.gU,oM⟩
 rw[nA]at i;have E:¬((↑f.gU+d:Nat):Int)<(f.gU:Int):=oM
 rcases h.2.1.2 with⟨A,_⟩|⟨gr,C,B,b,j⟩
 . omega
 simp only[lB,mB]at b;obtain⟨rfl,rfl⟩:=b;have a:=Rd.elem Ay j d z i 0 _ rfl;rw[mO,lJ]at a;have G:=(k.cell (g8 a)).trans a;have H:¬gr=w.heap.size:=mR (g8 a);have O:d<f.gW.length:=oM;clear h i j q D;generalize f.gU.length=N at*;generalize f.gW.length=v at*;have P:((N+d:Nat):Int)-(N:Int)=(d:Int):=oM;go_enter func135,ntmps135;go_wp2;go_ret;exact⟨rfl,k⟩
structure ML where
 head:Int
 back:List Int
 a8:List Int
structure CS where
 bO:Int
 at_:Int
 a8:List MB
 gY:List Int
 ig:List Int
 gX:List ML
def ints(l:List Nat):List Int:=l.map λ(x:Nat)=>(x:Int)
theorem AV(l:List Nat):(ints l).length=l.length:=by simp[ints]
def nx(a:List MB)(b:Nat):List Nat:=match a[b]? with|some m=>m.next.map Int.toNat|none=>[]
def EI(c a:Int):CS:=⟨c,a,[],[],[],[]⟩
def BI(E:Nat->List Nat)(D L:Nat->Nat->Bool)(n j:Nat):List ML:=(List.range j).filterMap λh=>if AK E D n h=[]then M else K ⟨(h:Int),ints (AK E D n h),ints ((List.range n).filter (L h))⟩
inductive Be (xs:List MI):CS->Prop
 |none:¬AZ xs->Be xs (EI 4 0)
 |off {x:MI}:AZ xs->xs[xs.length-1]?=K x->FW x=true->Be xs (EI 1 ((xs:Int)-1))
 |lost {x:MI} {S O:List Nat} {b:Nat} {m:MB}:AZ xs->xs[xs.length-1]?=K x->FW x=false->Vs (nx (AL xs)) [] [] [0] S O->b<(AL xs).length->b∉S->(∀c,c<b->c∈S)->(AL xs)[b]?=K m->Be xs (EI 2 m.gZ)
 |two {x:MI} {S O:List Nat} {D:Nat->Nat->Bool} {b k t:Nat} {m:MB}:AZ xs->xs[xs.length-1]?=K x->FW x=false->Vs (nx (AL xs)) [] [] [0] S O->(∀c,c<(AL xs).length->c∈S)->(∀d b,D d b=true↔C9 (nx (AL xs)) d b)->Gk (nx (AL xs)) (AL xs).length (My O D) b k t->(AL xs)[t]?=K m->Be xs (EI 3 m.gZ)
 |good {x:MI} {S O:List Nat} {D L:Nat->Nat->Bool} {I:Nat->Int}:AZ xs->xs[xs.length-1]?=K x->FW x=false->Vs (nx (AL xs)) [] [] [0] S O->(∀c,c<(AL xs).length->c∈S)->(∀d b,D d b=true↔C9 (nx (AL xs)) d b)->(∀b,b<(AL xs).length->∀t∈nx (AL xs) b,¬My O D b t)->
  (∀b,b<(AL xs).length->(b=0/\I b=-1)\/b≠0/\∃c:Nat,c<(AL xs).length/\I b=(c:Int)/\GH (nx (AL xs)) b c)->(∀h y,L h y=true↔AR (nx (AL xs)) D (AL xs).length h y)->
  Be xs ⟨0,0,AL xs,ints O.reverse,(List.range (AL xs).length).map I,BI (nx (AL xs)) D L (AL xs).length (AL xs).length⟩
theorem Es(h:AZ xs):0<(AL xs).length:=by unfold AL;rw[mD,BW];exact oQ.2 (J8 xs _ h.1)
theorem O8(l:AZ xs){b e:Nat}{x:MI}{m:MB}(f:(BA xs xs)[b]?=K m)(j:m.last=(e:Int))(d:xs[e]?=K x)(a:p∈Bg xs x e):p.toNat∈CV xs xs:=by
 have k:e<xs.length:=(i8.1 d).1;rw[Cr]at f;unfold Bg at a;rcases lT.1 a with a|a
 . by_cases h:FW x=true/\e+1< ↑xs
   . rw[lZ h]at a;simp only[lw,mK,nJ]at a;subst a;rw[lD];exact Lx _ _ _ _ _ f j h.2
   rw[lS h]at a;cases a
 by_cases h:A3 x=true/\¬(FW x=true/\e+1< ↑xs/\x.c=((e+1:Nat):Int))
 . rw[lZ h]at a;simp only[lw,mK,nJ]at a;subst a;obtain⟨g,n⟩:=l.2.2 e x d h.1;have i:(x.c.toNat:Int)=x.c:=oZ g;exact(CH _ _ _).2 ⟨oM,JC xs _ e _ x k d (by simp[F7,h.1,i])⟩
 rw[lS h]at a;cases a
theorem RL{L:List Nat}{n b:Nat}{m:MB}(l:L.Pairwise (· < ·))(c:∀x∈L,x<n)(h:(build L n)[b]?=K m):∃e:Nat,m.last=(e:Int)/\e<n:=by
 unfold build at h;rw[oJ]at h;cases h1:L[b]? with
 |none=>rw[h1]at h;simp at h
 | some a=>
   cases h2:(L.tail++[n])[b]? with
   |none=>rw[h1,h2]at h;simp at h
   | some q=>
     rw[h1,h2]at h;simp only[lH]at h;subst h;have j:=c a (lA h1);have d:a<q/\q<=n:=by
      by_cases k:b< ↑L.tail
      . rw[mP k]at h2;have d:=pD (lA h2);refine⟨?_,o7 (c q d)⟩;(have i:L[b+1]?=K q:=by rw[<-h2];cases L<;>simp);obtain⟨p,f⟩:=i8.1 h1;obtain⟨r,g⟩:=i8.1 i;rw[<-f,<-g];exact(nS.1 l) b (b+1) p r oM
      rw[lY oM]at h2;have:=lA h2;simp only[lw,mK,nJ]at this;subst this;exact⟨j,Nat.le_refl _⟩
     exact⟨q-1,oS,oM⟩
theorem VM{b:Nat}{m:MB}(h:(BA xs xs)[b]?=K m):∃(e:Nat) (x:MI),m.last=(e:Int)/\xs[e]?=K x:=by rw[Cr]at h;obtain⟨e,a,c⟩:=RL (C4 _ _) (λx d=>((CH _ _ _).1 d).1) h;exact⟨e,_,a,an c⟩
theorem G4(f:AZ xs){b:Nat}{m:MB}(h:(AL xs)[b]?=K m)(g:z∈m.next):0<=z/\z<((AL xs).length:Int):=by
 unfold AL at h⊢;rw[mE]at h;obtain⟨i,a,rfl⟩:=m6.1 h;obtain⟨e,x,c,d⟩:=VM a;have j:(Fb xs i).next=Ea xs x e:=by unfold Fb;rw[c,lD,lN,d];rfl
 rw[j,NM xs b e x i f a c d]at g;obtain⟨p,k,rfl⟩:=mG.1 g;have:=oV.2 (O8 f a c d k);rw[mD,BW];omega
theorem Tg{a:List MB}{b:Nat}{m:MB}(h:a[b]?=K m):nx a b=m.next.map Int.toNat:=by unfold nx;rw[h]
theorem Tf(a:AZ xs){b:Nat}{m:MB}(h:(AL xs)[b]?=K m):m.next=ints (nx (AL xs) b):=by
 rw[Tg h];unfold ints;rw[oP];symm
 rw[oG (g:=id),List.map_id];intro z c;exact oZ (G4 a h c).1
theorem JF(d:AZ xs):∀b,b<(AL xs).length->∀x∈nx (AL xs) b,x<(AL xs).length:= λb a x c=>by rw[Tg (an a)]at c;obtain⟨z,e,rfl⟩:=mG.1 c;have:=G4 d (an a) e;omega
theorem EM(b:AZ xs):(AL xs).length<=1024:=by unfold AL;rw[mD,BW];have:=nP (BL xs xs) (List.range xs);have a:=b.2.1;simp only[m8]at this;exact lQ this a
theorem JG(a:List MB)(h:∀m∈a,m.next.length<=2)(b:Nat):(nx a b).length<=2:=by
 unfold nx;cases hb:a[b]? with
 |none=>simp
 |some m=>simpa using h m (lA hb)
theorem Gx(xs:List MI):∀m∈AL xs,m.next.length<=2:=by intro f a;unfold AL at a;obtain⟨m,_,rfl⟩:=mG.1 a;simp only[Fb,Ea];split<;>split<;>simp
theorem Be.one{r n:CS}(h:Be xs r)(e:Be xs n):r=n:=by
 have j:∀{E:Nat->List Nat} {D l:Nat->Nat->Bool},(∀d b,D d b=true↔C9 E d b)->(∀d b,l d b=true↔C9 E d b)->D=l:= λw x=>by
  funext d b
  rw[oR,w,x]
 cases h with
 | none g=>
   cases e with
   |none _=>rfl
   |_ a=>exact absurd a g
 | off g x1 o1=>
   cases e with
   |none a=>exact absurd g a
   |off _ _ _=>rfl
   | lost _ x2 o2|two _ x2 o2|good _ x2 o2=>rw[x1]at x2;(cases x2);rw[o1]at o2;cases o2
 | @lost _ _ _ b m g x1 o1 v1 b1 n1 l1 m1=>
   cases e with
   |none a=>exact absurd g a
   | off _ x2 o2=>rw[x1]at x2;(cases x2);rw[o1]at o2;cases o2
   | @lost _ _ _ b' m' _ x2 o2 v2 b2 n2 l2 m2=>
     obtain⟨rfl,rfl⟩:=v1.one v2;have:b=b':=by
      rcases Nat.lt_trichotomy b b' with q|q|q
      . exact absurd (l2 _ q) n1
      . exact q
      exact absurd (l1 _ q) n2
     subst this;rw[m1]at m2;(cases m2);rfl
   | two _ _ _ v2 s2|good _ _ _ v2 s2=>obtain⟨rfl,rfl⟩:=v1.one v2;exact absurd (s2 _ b1) n1
 | two g x1 o1 v1 s1 d1 f1 m1=>
   cases e with
   |none a=>exact absurd g a
   | off _ x2 o2=>rw[x1]at x2;(cases x2);rw[o1]at o2;cases o2
   | lost _ _ _ v2 b2 n2=>obtain⟨rfl,rfl⟩:=v1.one v2;exact absurd (s1 _ b2) n2
   | two _ _ _ v2 _ d2 f2 m2=>obtain⟨rfl,rfl⟩:=v1.one v2;obtain rfl:=j d1 d2;obtain rfl:=f1.one f2;rw[m1]at m2;(cases m2);rfl
   | good _ _ _ v2 _ d2 f2=>obtain⟨rfl,rfl⟩:=v1.one v2;obtain rfl:=j d1 d2;exact absurd f1.is (f2 _ f1.lt _ (lA f1.at_))
 | good g x1 o1 v1 s1 d1 f1 i1 l1=>
   cases e with
   |none a=>exact absurd g a
   | off _ x2 o2=>rw[x1]at x2;(cases x2);rw[o1]at o2;cases o2
   | lost _ _ _ v2 b2 n2=>obtain⟨rfl,rfl⟩:=v1.one v2;exact absurd (s1 _ b2) n2
   | two _ _ _ v2 _ d2 f2 m2=>obtain⟨rfl,rfl⟩:=v1.one v2;obtain rfl:=j d1 d2;exact absurd f2.is (f1 _ f2.lt _ (lA f2.at_))
   | good _ _ _ v2 _ d2 f2 i2 l2=>
     obtain⟨rfl,rfl⟩:=v1.one v2;obtain rfl:=j d1 d2;(have z:= λh y=>oR.2 ((l1 h y).trans (l2 h y).symm));(obtain rfl:=funext λh=>funext (z h));obtain⟨A,_⟩:=CA (Es g) (JF g) v1 s1;(congr 1);apply oG;intro b f;have f:=nE.1 f;rcases i1 b f with⟨k,u⟩|⟨k,c,c1,c2,c3⟩
     . rcases i2 b f with⟨_,v⟩|⟨i,_⟩
       . rw[u,v]
       exact absurd k i
     rcases i2 b f with⟨i,_⟩|⟨i,c',p,s,t⟩
     . exact absurd i k
     rw[c2,s,c3.one A c1 p t]
end Go.Proofs.YtadcneiiokbofaaGreat
