import Derived.Test.YtkgohaigebcgoaaGreatDoorCh3
import Derived.WalkSpells
import Derived.Deep.Light
import Derived.Maps.OwnSet
import Derived.Shelf.SlGeneric
import Derived.Shelf.SortG.Plain
import Derived.Shelf.SortG.SortNone
import Derived.Shelf.SlicesG.SearchI
import Derived.Shelf.SlicesG.Turned
import Derived.Ground.SlgnProg
import Derived.Sort.OwnSortedInts
namespace Go.Proofs
open Go.Shelf
def Tryz.lSort_ren:Go.Shelf.Ren:=⟨λ |53=>64|64=>138|63=>137|78=>179|79=>180|70=>171|71=>172|72=>173|73=>174|74=>175|75=>176|59=>132|76=>177|77=>178|88=>196|89=>197|90=>198|91=>199|92=>200|68=>168|96=>208|n=>n, λ |22=>27|23=>2|3=>3|51=>216|0=>0|67=>29|69=>267|4=>4|61=>272|60=>271|44=>159|5=>5|9=>9|75=>285|79=>289|83=>297|84=>298|n=>n, λ |n=>n⟩
theorem Tryz.lSort:Go.Proofs.SlLaysN.n53 Tryz.prog Tryz.lSort_ren:={
 mixed:=by kernel_rfl
 f53:=⟨Tryz.f64.name,by decide,Tryz.func64.trans (congrArg some (by kernel_rfl))⟩
 f59:=⟨Tryz.f132.name,by decide,Tryz.func132.trans (congrArg some (by kernel_rfl))⟩
 f63:=⟨Tryz.f137.name,by decide,Tryz.func137.trans (congrArg some (by kernel_rfl))⟩
 f64:=Tryz.func138.trans (congrArg some (by kernel_rfl))
 f68:=⟨Tryz.f168.name,by decide,Tryz.func168.trans (congrArg some (by kernel_rfl))⟩
 f70:=⟨Tryz.f171.name,by decide,Tryz.func171.trans (congrArg some (by kernel_rfl))⟩
 f71:=⟨Tryz.f172.name,by decide,Tryz.func172.trans (congrArg some (by kernel_rfl))⟩
 f72:=⟨Tryz.f173.name,by decide,Tryz.func173.trans (congrArg some (by kernel_rfl))⟩
 f73:=⟨Tryz.f174.name,by decide,Tryz.func174.trans (congrArg some (by kernel_rfl))⟩
 f74:=⟨Tryz.f175.name,by decide,Tryz.func175.trans (congrArg some (by kernel_rfl))⟩
 f75:=⟨Tryz.f176.name,by decide,Tryz.func176.trans (congrArg some (by kernel_rfl))⟩
 f76:=⟨Tryz.f177.name,by decide,Tryz.func177.trans (congrArg some (by kernel_rfl))⟩
 f77:=⟨Tryz.f178.name,by decide,Tryz.func178.trans (congrArg some (by kernel_rfl))⟩
 f78:=Tryz.func179.trans (congrArg some (by kernel_rfl))
 f79:=Tryz.func180.trans (congrArg some (by kernel_rfl))
 f88:=⟨Tryz.f196.name,by decide,Tryz.func196.trans (congrArg some (by kernel_rfl))⟩
 f89:=Tryz.func197.trans (congrArg some (by kernel_rfl))
 f90:=Tryz.func198.trans (congrArg some (by kernel_rfl))
 f91:=⟨Tryz.f199.name,by decide,Tryz.func199.trans (congrArg some (by kernel_rfl))⟩
 f92:=⟨Tryz.f200.name,by decide,Tryz.func200.trans (congrArg some (by kernel_rfl))⟩
 f96:=⟨Tryz.f208.name,by decide,Tryz.func208.trans (congrArg some (by kernel_rfl))⟩
 t0:=Tryz.underlying0
 a0:=Tryz.isAgg0
 z0:=Tryz.sizeOf0
 v0:=Tryz.zeroValue0
 t3:=Tryz.underlying3
 a3:=Tryz.isAgg3
 z3:=Tryz.sizeOf3
 v3:=Tryz.zeroValue3
 t4:=Tryz.underlying4
 a4:=Tryz.isAgg4
 z4:=Tryz.sizeOf4
 v4:=Tryz.zeroValue4
 t5:=Tryz.underlying5
 a5:=Tryz.isAgg5
 z5:=Tryz.sizeOf5
 v5:=Tryz.zeroValue5
 t9:=Tryz.underlying9
 a9:=Tryz.isAgg9
 z9:=Tryz.sizeOf9
 v9:=Tryz.zeroValue9
 t22:=Tryz.underlying27
 a22:=Tryz.isAgg27
 z22:=Tryz.sizeOf27
 v22:=Tryz.zeroValue27
 t23:=Tryz.underlying2
 a23:=Tryz.isAgg2
 z23:=Tryz.sizeOf2
 v23:=Tryz.zeroValue2
 t44:=Tryz.underlying159
 a44:=Tryz.isAgg159
 z44:=Tryz.sizeOf159
 v44:=Tryz.zeroValue159
 t51:=Tryz.underlying216
 a51:=Tryz.isAgg216
 z51:=Tryz.sizeOf216
 v51:=Tryz.zeroValue216
 t60:=Tryz.underlying271
 a60:=Tryz.isAgg271
 z60:=Tryz.sizeOf271
 v60:=Tryz.zeroValue271
 t61:=Tryz.underlying272
 a61:=Tryz.isAgg272
 z61:=Tryz.sizeOf272
 v61:=Tryz.zeroValue272
 t67:=Tryz.underlying29
 a67:=Tryz.isAgg29
 z67:=Tryz.sizeOf29
 v67:=Tryz.zeroValue29
 t69:=Tryz.underlying267
 a69:=Tryz.isAgg267
 z69:=Tryz.sizeOf267
 v69:=Tryz.zeroValue267
 t75:=Tryz.underlying285
 a75:=Tryz.isAgg285
 z75:=Tryz.sizeOf285
 v75:=Tryz.zeroValue285
 t79:=Tryz.underlying289
 a79:=Tryz.isAgg289
 z79:=Tryz.sizeOf289
 v79:=Tryz.zeroValue289
 t83:=Tryz.underlying297
 a83:=Tryz.isAgg297
 z83:=Tryz.sizeOf297
 v83:=Tryz.zeroValue297
 t84:=Tryz.underlying298
 a84:=Tryz.isAgg298
 z84:=Tryz.sizeOf298
 v84:=Tryz.zeroValue298}
def Tryz.lSearch_ren:Go.Shelf.Ren:=⟨λ |49=>56|59=>132|60=>133|68=>168|n=>n, λ |22=>27|23=>2|3=>3|4=>4|51=>216|0=>0|n=>n, λ |n=>n⟩
theorem Tryz.lSearch:Go.Proofs.SlLaysN.n49 Tryz.prog Tryz.lSearch_ren:={
 mixed:=by kernel_rfl
 f49:=⟨Tryz.f56.name,by decide,Tryz.func56.trans (congrArg some (by kernel_rfl))⟩
 f59:=⟨Tryz.f132.name,by decide,Tryz.func132.trans (congrArg some (by kernel_rfl))⟩
 f60:=⟨Tryz.f133.name,by decide,Tryz.func133.trans (congrArg some (by kernel_rfl))⟩
 f68:=⟨Tryz.f168.name,by decide,Tryz.func168.trans (congrArg some (by kernel_rfl))⟩
 t0:=Tryz.underlying0
 a0:=Tryz.isAgg0
 z0:=Tryz.sizeOf0
 v0:=Tryz.zeroValue0
 t3:=Tryz.underlying3
 a3:=Tryz.isAgg3
 z3:=Tryz.sizeOf3
 v3:=Tryz.zeroValue3
 t4:=Tryz.underlying4
 a4:=Tryz.isAgg4
 z4:=Tryz.sizeOf4
 v4:=Tryz.zeroValue4
 t22:=Tryz.underlying27
 a22:=Tryz.isAgg27
 z22:=Tryz.sizeOf27
 v22:=Tryz.zeroValue27
 t23:=Tryz.underlying2
 a23:=Tryz.isAgg2
 z23:=Tryz.sizeOf2
 v23:=Tryz.zeroValue2
 t51:=Tryz.underlying216
 a51:=Tryz.isAgg216
 z51:=Tryz.sizeOf216
 v51:=Tryz.zeroValue216}
def Tryz.lContains_ren:Go.Shelf.Ren:=⟨λ |31=>69|29=>139|n=>n, λ |22=>27|23=>2|4=>4|3=>3|0=>0|n=>n, λ |n=>n⟩
theorem Tryz.lContains:Go.Proofs.SlLaysN.n31 Tryz.prog Tryz.lContains_ren:={
 mixed:=by kernel_rfl
 f29:=⟨Tryz.f139.name,by decide,Tryz.func139.trans (congrArg some (by kernel_rfl))⟩
 f31:=⟨Tryz.f69.name,by decide,Tryz.func69.trans (congrArg some (by kernel_rfl))⟩
 t0:=Tryz.underlying0
 a0:=Tryz.isAgg0
 z0:=Tryz.sizeOf0
 v0:=Tryz.zeroValue0
 t3:=Tryz.underlying3
 a3:=Tryz.isAgg3
 z3:=Tryz.sizeOf3
 v3:=Tryz.zeroValue3
 t4:=Tryz.underlying4
 a4:=Tryz.isAgg4
 z4:=Tryz.sizeOf4
 v4:=Tryz.zeroValue4
 t22:=Tryz.underlying27
 a22:=Tryz.isAgg27
 z22:=Tryz.sizeOf27
 v22:=Tryz.zeroValue27
 t23:=Tryz.underlying2
 a23:=Tryz.isAgg2
 z23:=Tryz.sizeOf2
 v23:=Tryz.zeroValue2}
end Go.Proofs
namespace Go.Proofs.YtkgohaigebcgoaaGreatDoor
open Go.ChangeShapes Go.WideShapes Go.ChangeAt Go.RowKit Go.Proofs.Tryz
set_option linter.unusedVariables false
open Option renaming some → K
open Go renaming Value → J,World → Y,Calls → Ai,TypeId → Aj
open Go.Value renaming slice → Z,agg → An,int → Ag
open Go.RowKit renaming Hid → Ae,Below → Ah
open Go.Obj renaming cells → Ak
open Go.Ending renaming returned → Am
open Go.Proofs.Tryz renaming prog → Aq
open Go.World renaming alloc → Ac,ownsRow → Ab
open Go.IntKind renaming i64 → Af
open List renaming flatMap → Ad
set_option maxHeartbeats 2000000
set_option maxRecDepth 100000
variable {q:Prop}{z:Int}{S O:List Nat}
def Bt(x:MI):Bool:=decide (x.op=25)||decide (x.op=26)||decide (x.op=27)
def IY(x:MI):Bool:=decide (¬x.op=25)&&decide (¬x.op=29)
def Bd(xs:List MI):Prop:=1<=xs.length/\xs.length<=1024/\∀(i:Nat) (x:MI),xs[i]?=K x->Bt x=true->0<=x.c/\x.c<(xs:Int)
def Iv(x:MI)(i j:Nat):Bool:=(Bt x&&decide (x.c=(j:Int)))||((Bt x||decide (x.op=29))&&decide (j=i+1))
def Cz(xs:List MI)(k j:Nat):Bool:=decide (j=0)||(List.range k).any λi=>match xs[i]? with|some x=>Iv x i j|none=>false
theorem Md(xs:List MI)(k:Nat):Cz xs k 0=true:=by simp[Cz]
theorem QV(xs:List MI)(j:Nat):Cz xs 0 j=decide (j=0):=by simp[Cz]
theorem IR(xs:List MI)(k j:Nat)(x:MI)(a:xs[k]?=K x):Cz xs (k+1) j=(Cz xs k j||Iv x k j):=by simp[Cz,List.range_succ,a,Bool.or_assoc]
theorem Mc(xs:List MI)(k i j:Nat)(x:MI)(a:i<k)(b:xs[i]?=K x)(h:Iv x i j=true):Cz xs k j=true:=by simp only[Cz,Bool.or_eq_true,List.any_eq_true,nN];exact .inr ⟨i,a,by rw[b];exact h⟩
def CY(xs:List MI)(i:Nat):List Nat:=(List.range i).filter (Cz xs xs)
theorem Mb(xs:List MI)(i:Nat):CY xs (i+1)=if Cz xs xs i=true then CY xs i++[i]else CY xs i:=by
 unfold CY;rw[pA,oy];by_cases h:Cz xs xs i=true
 . simp[h]
 simp[h]
theorem Df(xs:List MI)(i j:Nat):j∈CY xs i↔j<i/\Cz xs xs j=true:=by simp[CY]
theorem DC(xs:List MI)(i:Nat):(CY xs i).Pairwise (· < ·):=List.Pairwise.filter _ pC
theorem Pl(xs:List MI)(i:Nat)(h:0<i):CY xs i≠[]:= λe=>by have:=(Df xs i 0).2 ⟨h,Md _ _⟩;rw[e]at this;cases this
theorem US(xs:List MI)(i n:Nat)(h:i<=n):∃r,CY xs n=CY xs i++r:=by
 induction n with
 | zero=>obtain rfl:i=0:=oM;exact⟨[],sP⟩
 | succ n c=>
   by_cases a:i=n+1
   . subst a;exact⟨[],sP⟩
   obtain⟨r,b⟩:=c oM;rw[Mb,b];split
   . exact⟨r++[n],sP⟩
   exact⟨r,rfl⟩
theorem Zo(xs:List MI)(p n:Nat)(c:p<n)(b:Cz xs xs p=true):(CY xs n).idxOf p=(CY xs p).length/\(CY xs (p+1)).length=(CY xs p).length+1:=by have a:=Mb xs p;rw[mE b]at a;obtain⟨r,d⟩:=US xs (p+1) n c;refine⟨?_,by rw[a];simp⟩;rw[d,a,nD,List.idxOf_append,lY (by rw[Df];omega)];simp
theorem Zp(xs:List MI)(p q n:Nat)(g:p<n)(j:q<n)(e:Cz xs xs p=true)(f:Cz xs xs q=true)(h:(CY xs n).idxOf p=(CY xs n).idxOf q):p=q:=by have c:p∈CY xs n:=(Df _ _ _).2 ⟨g,e⟩;have d:q∈CY xs n:=(Df _ _ _).2 ⟨j,f⟩;have a:=List.getElem_idxOf (o6.2 c);have b:=List.getElem_idxOf (o6.2 d);rw[<-a,<-b];congr 1
def Li(a:List MB)(i:Int):List MB:=match a.getLast? with|some b=>a.dropLast++[⟨b.cz,i,b.next⟩]|none=>[]
theorem Jz(a:List MB)(b:MB)(i:Int):Li (a++[b]) i=a++[⟨b.cz,i,b.next⟩]:=by simp[Li]
def K5(xs:List MI):Nat->List MB
 |0=>[]
 |i+1=>Li (if Cz xs xs i=true then K5 xs i++[⟨i,0,[]⟩]else K5 xs i) i
def build(L:List Nat)(e:Nat):List MB:=List.zipWith (λ(a b:Nat)=>(⟨(a:Int),(b:Int)-1,[]⟩:MB)) L (L.tail++[e])
theorem IK(L:List Nat)(i e:Nat)(h:L≠[]):build (L++[i]) e=build L i++[⟨(i:Int),(e:Int)-1,[]⟩]:=by
 unfold build;rw[List.tail_append_of_ne_nil h,nD,show(L.tail++([i]++[e]))=(L.tail++[i])++[e]from sP,List.zipWith_append (by
  cases L with
  |nil=>exact absurd rfl h
  |cons a r=>simp)]
 rfl
theorem Cu(xs:List MI)(i:Nat):K5 xs i=build (CY xs i) i:=by
 induction i with
 |zero=>rfl
 | succ i d=>
   simp only[K5];rw[Mb];by_cases h:Cz xs xs i=true
   . rw[mE h,mE h,Jz];by_cases c:i=0
     . subst c;simp[K5,CY,build]
     rw[IK _ _ _ (Pl xs i oM),d];simp
   rw[lY h,lY h];have c:0<i:=by
    cases i with
    |zero=>exact absurd (Md _ _) h
    |succ i=>omega
   obtain⟨b,a,e⟩:∃b a,CY xs i=b++[a]:=⟨_,_,(List.dropLast_concat_getLast (Pl xs i c)).symm⟩;rw[d,e];cases b with
   |nil=>simp[build,Li]
   | cons m b=>rw[IK _ _ _ sP,IK _ _ _ sP,Jz];simp
theorem OU(L:List Nat)(e:Nat):(build L e).length=L.length:=by
 unfold build;cases L with
 |nil=>rfl
 |cons a r=>simp
theorem FO(xs:List MI)(i:Nat):(K5 xs i).length=(CY xs i).length:=by rw[Cu,OU]
def FN(xs:List MI)(i:Nat):Int:=((CY xs (i+1)).length:Int)-1
theorem Fv(xs:List MI)(p n:Nat)(b:p<n)(a:Cz xs xs p=true):FN xs p=((CY xs n).idxOf p:Int):=by have:=Zo xs p n b a;unfold FN;omega
theorem XA(xs:List MI)(p q n:Nat)(c:p<n)(d:q<n)(a:Cz xs xs p=true)(b:Cz xs xs q=true):FN xs p=FN xs q↔p=q:=by rw[Fv xs p n c a,Fv xs q n d b];exact⟨λh=>Zp xs p q n c d a b oM, λh=>by rw[h]⟩
def Bc(xs:List MI)(x:MI)(e:Nat):List Int:=(if IY x=true/\e+1< ↑xs then[((e+1:Nat):Int)]else[])++(if Bt x=true/\¬(IY x=true/\e+1< ↑xs/\x.c=((e+1:Nat):Int))then[x.c]else[])
def Q6(xs:List MI)(x:MI)(e:Nat):List Int:=
 let a:=if IY x=true/\e+1< ↑xs then[FN xs (e+1)]else[]
 a++(if Bt x=true/\(a=[]\/¬a=[FN xs x.c.toNat])then[FN xs x.c.toNat]else[])
theorem LM(L:List Nat)(n b e:Nat)(m:MB)(h:(build L n)[b]?=K m)(d:m.last=(e:Int))(g:e+1<n):e+1∈L:=by
 unfold build at h;rw[oR]at h;cases h1:L[b]? with
 |none=>rw[h1]at h;simp at h
 | some a=>
   cases h2:(L.tail++[n])[b]? with
   |none=>rw[h1,h2]at h;simp at h
   | some q=>
     rw[h1,h2]at h;simp only[lX]at h;subst h;simp only[]at d;have f:q=e+1:=oM;subst f;have:=lP h2;rcases mA.1 this with c|c
     . exact pQ c
     simp at c;omega
theorem Of(xs:List MI)(b e:Nat)(x:MI)(m:MB)(w:Bd xs)(n:(K5 xs xs)[b]?=K m)(u:m.last=(e:Int))(j:xs[e]?=K x):Q6 xs x e=(Bc xs x e).map λp=>((CY xs xs).idxOf p.toNat:Int):=by
 have v:e<xs.length:=(f7.1 j).1;rw[Cu]at n;have r:e+1< ↑xs->Cz xs xs (e+1)=true:= λh=>((Df _ _ _).1 (LM _ _ _ _ _ n u h)).2
 have s:Bt x=true->x.c.toNat< ↑xs/\Cz xs xs x.c.toNat=true/\(x.c.toNat:Int)=x.c:= λh=>by obtain⟨a,d⟩:=w.2.2 e x j h;have f:(x.c.toNat:Int)=x.c:=pJ a;exact⟨oM,Mc xs _ e _ x v j (by simp[Iv,h,f]),f⟩
 unfold Q6 Bc;by_cases a:IY x=true/\e+1< ↑xs
 . have k:=Fv xs (e+1) xs a.2 (r a.2);simp only[mE a];by_cases d:Bt x=true
   . obtain⟨c1,c2,c3⟩:=s d;have l:=Fv xs x.c.toNat xs c1 c2;have t:=XA xs (e+1) x.c.toNat xs a.2 c1 (r a.2) c2;by_cases f:x.c=((e+1:Nat):Int)
     . have g:¬(Bt x=true/\([FN xs (e+1)]=[]\/¬[FN xs (e+1)]=[FN xs x.c.toNat])):= λh=>h.2.elim (λq=>by cases q) (λq=>q (by rw[t.2 oM]))
       simp only[lY g];rw[lY (λh=>h.2 ⟨a.1,a.2,f⟩)];simp[k]
     have g:(Bt x=true/\([FN xs (e+1)]=[]\/¬[FN xs (e+1)]=[FN xs x.c.toNat])):=⟨d,.inr (λq=>f (by have:=t.1 (by simpa using q);omega))⟩
     simp only[mE g];rw[mE ⟨d, λh=>f h.2.2⟩];simp[k,l]
   simp only[d,false_and,if_false,pg];simp[k]
 simp only[lY a];by_cases d:Bt x=true
 . obtain⟨c1,c2,c3⟩:=s d;have l:=Fv xs x.c.toNat xs c1 c2;have g:(Bt x=true/\(True\/¬([]:List Int)=[FN xs x.c.toNat])):=⟨d,.inl trivial⟩
   rw[mE g,mE ⟨d, λh=>a ⟨h.1,h.2.1⟩⟩];simp[l]
 simp only[d,false_and,if_false,pg];rfl
structure MS where
 trap:Int
 done:Bool
 cost:Int
 steps:Int
 cells:List (List MC)
 stack:List MC
 dk:List MG
structure VS where
 c:J
 k:J
 f:J
structure MS.small(s:MS):Prop where
 cells:s.cells.length<=1048576
 cell:∀r∈s.cells,r.length<=1048576
 stack:s.stack.length<=1048576
 dk:s.dk.length<=1048576
 frame:∀f∈s.dk,f.small
structure MG.wf(f:MG):Prop where
 func:Fa f.func
 at_:Fa f.at_
 base:Fa f.base
 aB:∀x∈f.aB,x.wf
structure MS.wf(s:MS):Prop where
 trap:Fa s.trap
 cost:Fa s.cost
 steps:Fa s.steps
 cells:∀r∈s.cells,∀x∈r,x.wf
 stack:∀x∈s.stack,x.wf
 dk:∀f∈s.dk,f.wf
def EQ(p:MP)(c:MT):Prop:=∃f,p.aC[c.func.toNat]?=K f/\0<=c.func/\0<=c.head/\c.head<f.aU.length/\AJ f c.dT=3
def NO(d c:MT):Prop:=d.func<c.func\/d.func=c.func/\d.head<c.head
def Hd(p:MP)(cs:List MT)(j:Nat):Prop:=∀c,cs[j]?=K c->EQ p c/\∀i d,i+1=j->cs[i]?=K d->NO d c
def Cw(p:MP):Prop:=p.bO.length<=64/\∀j,j< ↑p.bO->Hd p p.bO j
theorem LF{p:MP}{cs:List MT}{k:Nat}(a:Hd p cs k)(h:∀j,j<k->Hd p cs j):∀j,j<k+1->Hd p cs j:=by
 intro j b;by_cases e:j=k
 . subst e;exact a
 exact h j oM
theorem Iw(s t u x3:J)(g:VF)(f:MF)(n:Nat)(z:Int)(w:Y)(G:f.small)(h:FD w g f)(j:(f.aP++f.aB)[n]?=K z):
 Ai Aq 154 #[An #[s,t,u,x3,g.p,f.cu,g.l,g.c],n] w λe O=>e=Am z/\Ah w w O:=by
 obtain⟨y,c1,b⟩:=h.1.aD;obtain⟨A,c2,r⟩:=h.2.1.aD;obtain⟨S,vl,L⟩:=g;obtain⟨s1,s2,R⟩:=G;simp only[]at b r;subst b r;have m:Ae (Ah w w (Ac w (Ak #[s,t,u,x3,Z y f.aP c1,f.cu,Z A f.aB c2,L] 109))):=Al _ _;by_cases q:n< ↑f.aP
 . rw[mq q]at j;have F:(n:Int)<(f.aP:Int):=oM;rcases h.1.2 with⟨B,_⟩|⟨gr,D,C,b,k⟩
   . omega
   simp only[lU,mj]at b;obtain⟨rfl,rfl⟩:=b;have a:=Rd.elem AE k n z j 0 _ rfl;rw[nX,mL]at a;have H:=(m.cell (lT a)).trans a;have I:¬gr=w.heap.size:=nZ (lT a);clear h j k;generalize f.aP.length=N at*;generalize f.aB.length=v at*;go_enter func154,ntmps154;go_wp2;go_ret;exact⟨rfl,m⟩
 rw[mg oM]at j;have E:=(f7.1 j).1;obtain⟨d,rfl⟩:∃d,n= ↑f.aP+d:=⟨n-↑f.aP,oM⟩
 rw[oV]at j;have F:¬((↑f.aP+d:Nat):Int)<(f.aP:Int):=oM
 rcases h.2.1.2 with⟨B,_⟩|⟨gr,D,C,b,k⟩
 . omega
 simp only[lU,mj]at b;obtain⟨rfl,rfl⟩:=b;have a:=Rd.elem AE k d z j 0 _ rfl;rw[nX,mL]at a;have H:=(m.cell (lT a)).trans a;have I:¬gr=w.heap.size:=nZ (lT a);have P:d<f.aB.length:=oM;clear h j k q E;generalize f.aP.length=N at*;generalize f.aB.length=v at*;have Q:((N+d:Nat):Int)-(N:Int)=(d:Int):=oM;go_enter func154,ntmps154;go_wp2;go_ret;exact⟨rfl,m⟩
theorem L9(t c s:Int)(d:Bool)(a b f:Option Addr)(g c1 h c2 j c3:Nat)(w:Y):
 Ai Aq 17 #[An #[t,d,c,s,Z a g c1,Z b h c2,Z f j c3]] w λe k=>AM e (t≠0\/d=true)/\Ah w w k:=by
 by_cases q:t=0
 . subst q;go_enter func17,ntmps17;go_wp2;go_ret;exact⟨.of sP,by first|exact mP _ _|exact Al _ _⟩
 have l:(t==0)=false:=by simpa using q
 have m:(t != 0)=true:=by simp[q]
 go_enter func17,ntmps17;go_wp2;go_ret;exact⟨.of (by simp[q]),by first|exact mP _ _|exact Al _ _⟩
theorem CC(b:Bool)(t:Int)(w:Y):Ai Aq 115 #[b,t] w λe a=>e=Am (Ag Af (if b=true then 0 else t))/\a=w:=by
 cases b<;>
 . go_enter func115,ntmps115;go_wp2;go_ret;exact⟨rfl,rfl⟩
theorem KA(x:MC)(t:Int)(w:Y):Ai Aq 117 #[An #[x.type,Ag .u32 x.word],t] w λe a=>AM e (t=0\/x.type=t)/\Ah w w a:=by
 by_cases q:t=0
 . subst q;go_enter func117,ntmps117;go_wp2;go_ret;exact⟨.of sP,by first|exact mP _ _|exact Al _ _⟩
 have b:(t==0)=false:=by simpa using q
 go_enter func117,ntmps117;go_wp2;go_ret;exact⟨.of (by simp[q]),by first|exact mP _ _|exact Al _ _⟩
def Cx(a ts:List Int):Prop:=a.length=ts.length/\∀j,j<a.length->∀x,a[j]?=K x->ts[j]?=K 1->x<=1
def Gh(a ts:List Int):Prop:=∀j,j<a.length->∀x,a[j]?=K x->∀t,ts[j]?=K t->CH ⟨t,x⟩
theorem Ip(t s:J)(a ts:List Int)(w:Y)(hn:a.length<=1048576)(hw:∀z∈a,0<=z)(m:ts.length= ↑a)(h:Rd w 1 s a (Ad JC a))(f:Rd w 1 t ts (Ad At ts)):
 Ai Aq 77 #[t,s] w λe w'=>AM e (Gh a ts)/\Ah w w w':=by
 rw[m]at f;have E:Ae (Rd w 1 s a (Ad JC a)):=h;have F:Ae (Rd w 1 t a (Ad At ts)):=f;have T:Ae (∀z∈a,0<=z):=hw;clear hw;obtain⟨a1,c1,rfl⟩:=h.aD;obtain⟨a2,c2,rfl⟩:=f.aD;clear h f;generalize O:a.length=n at hn m E F;have r:Ae (↑a=n):=O
 have HM:Ae (↑ts=n):=m
 clear O m;go_enter func77,ntmps77;go_wp2;go_loopw [9] (λi wr=>∃k:Nat,k<=n/\i=Ag Af k/\Ae (∀j,j<k->∀x,a[j]?=K x->∀t,ts[j]?=K t->CH ⟨t,x⟩)/\Ae (Ah w w wr)) (λi _=>n-(intOf i).toNat)
 case atStart=>exact⟨0,oM,rfl, λj X=>oM,mP _ _⟩
 obtain⟨k,hk,rfl,G,d⟩:=hrel;by_cases v:k<n
 . obtain⟨x,C⟩:∃x,a[k]?=K x:=⟨_,an (by rw[r];exact v)⟩;obtain⟨t,A⟩:∃t,ts[k]?=K t:=⟨_,an (by rw[HM];exact v)⟩;rcases E.2 with⟨W,_⟩|⟨g,o,c,L,P⟩
   . omega
   rcases F.2 with⟨W,_⟩|⟨g',o',c',N,Q⟩
   . omega
   simp only[lU,mj]at L N;obtain⟨rfl,rfl⟩:=L;obtain⟨rfl,rfl⟩:=N;have p:=Rd.elem JD P k x C 0 _ rfl;have q:=Rd.elem AE Q k t A 0 _ rfl;rw[nX,mL]at p q;rw[<-d.cell (lT p)]at p;rw[<-d.cell (lT q)]at q;have b:Ae (a[k]?=K x/\ts[k]?=K t):=⟨C,A⟩
   clear P Q C A;go_wp2_with fail;refine(KG t x _ (T.o x (lP b.1))).mono ?_;rintro e u ⟨⟨V,rfl,l⟩,I⟩;have H:Ae (Ah w.heap.size w u):=Ar d lR I;clear p q I;cases V
   . (have R:Ae (¬Gh a ts):= λe=>absurd (l.2 (e k (by rw[r];exact v) x b.1 t b.2)) nU);clear l;go_wp2;go_ret;exact⟨.no R,H⟩
   have U:Ae (∀j,j<k+1->∀x,a[j]?=K x->∀t,ts[j]?=K t->CH ⟨t,x⟩):= λj X y D t' B=>by
    by_cases e:j=k
    . subst e;rw[b.1]at D;rw[b.2]at B;obtain rfl:=mD D;obtain rfl:=mD B;exact l.1 rfl
    exact G.o j oM y D t' B
   clear l;go_wp2;go_roundw;(case rel=>exact⟨k+1,oM,by go_num,U,H⟩);exact oI
 have aa:n=k:=oM;subst aa;have S:Ae (Gh a ts):=by show Gh a ts;unfold Gh;rw[r];exact G
 go_wp2;go_ret;exact⟨.iQ S,d⟩
theorem LK(s:J)(cs:List MC)(w:Y)(L:cs.length<=1048576)(hw:∀c∈cs,0<=c.word)(h:Rd w 2 s cs (Ad MC.cells cs)):
 Ai Aq 121 #[s] w λe N=>AM e (Bz cs)/\Ah w w N:=by
 have p:=Aw h;obtain⟨O,c1,rfl⟩:=h.aD;have E:=Aw hw;generalize H:cs.length=n at L p;have a:=Aw H;by_cases U:64<n
 . (have g:Ae (¬Bz cs):= λe=>absurd e.1 (by rw[a];omega));go_enter func121,ntmps121;go_wp2;go_ret;exact⟨.no g,mP _ _⟩
 go_enter func121,ntmps121;go_wp2;go_loopw [10] (λi wr=>∃k:Nat,k<=n/\i=iZ k/\Ae (∀j,j<k->∀c,cs[j]?=K c->CH c)/\Ae (Ah w w wr)) (λi _=>n-(intOf i).toNat)
 case atStart=>exact⟨0,oM,rfl, λj Q=>oM,mP _ _⟩
 obtain⟨k,R,rfl,q,d⟩:=hrel;by_cases z:k<n
 . obtain⟨x,m⟩:∃x,cs[k]?=K x:=⟨_,an (by rw[a];exact z)⟩;rcases p.2 with⟨P,_⟩|⟨b,o,c,t,y⟩
   . omega
   simp only[lU,mj]at t;obtain⟨rfl,rfl⟩:=t;have f:=Rd.elem MC.bW y k x m 0 _ rfl;have A:=Rd.elem MC.bW y k x m 1 _ rfl;rw[<-d.cell (lT f),mL]at f;rw[<-d.cell (lT A)]at A;have l:=Aw m;have T:¬b=wr.heap.size:=nZ (lT f);have S:b<wr.heap.size:=lT f;have C:Ae (Ah w w (Ac wr (Ak #[x.type,Ag .u32 x.word] 31))):=Ar d lR (Al _ _);go_wp2_with fail;refine(KG x.type x.word _ (E.o x (lP l))).mono ?_;rintro e u ⟨⟨F,rfl,v⟩,G⟩;have r:=Aw (Ar C lR G);cases F
   . (have g:Ae (¬Bz cs):= λe=>absurd (v.2 (e.2 k (by rw[a];exact z) x l)) nU);go_wp2;go_ret;exact⟨.no g,r⟩
   have B:Ae (CH x):=v.1 rfl;go_wp2;go_roundw;(case rel=>exact⟨k+1,oM,by go_num,Gx l B q,r⟩);exact oI
 have I:n=k:=oM;subst I;have D:Ae (Bz cs):=⟨by rw[a];omega,by rw[a];exact q⟩;go_wp2;go_ret;exact⟨.iQ D,d⟩
theorem Kb(h:q:=by generalize f.aP.length=n1 at*;generalize f.aB.length=n2 at*;generalize f.aU.length=n3 at*;go_enter func158,ntmps158;go_wp2;go_ret;exact⟨.no HN,HB⟩):q:=h
theorem Nk(v:VF)(f:MF)(w:Y)(t:f.small)(h:FD w v f):
 Ai Aq 158 #[An #[v.p,f.cu,v.l,v.c]] w λe C=>AM e (Cb f)/\Ah w w C:=by
 have b:=Aw (lN h t);obtain⟨y,c1,q⟩:=h.1.aD;obtain⟨z,c2,r⟩:=h.2.1.aD;obtain⟨A,c3,s⟩:=h.2.2.aD;obtain⟨Q,vl,P⟩:=v;obtain⟨s1,s2,O⟩:=t;simp only[]at q r s;subst q r s;have HB:Ae (Ah w w (Ac w (Ak #[Z y f.aP c1,f.cu,Z z f.aB c2,Z A f.aU c3] 34))):=Al _ _;by_cases D:8<f.aP.length
 . (have HN:Ae (¬Cb f):= λe=>absurd e.par oM);exact Kb
 by_cases F:32<f.aP.length+ ↑f.aB
 . (have HN:Ae (¬Cb f):= λe=>absurd e.loc oM);exact Kb
 by_cases d:f.aU.length=0
 . (have HN:Ae (¬Cb f):= λe=>e.code0 d);generalize f.aP.length=n1 at*;generalize f.aB.length=n2 at*;generalize f.aU.length=n3 at*;subst d;go_enter func158,ntmps158;go_wp2;go_ret;exact⟨.no HN,HB⟩
 by_cases I:1024<f.aU.length
 . (have HN:Ae (¬Cb f):= λe=>absurd e.lq oM);exact Kb
 have E:¬(8:Int)<(f.aP:Int):=oM;have G:¬(32:Int)<(f.aP:Int)+(f.aB:Int):=oM;have H:((f.aU:Int)==0)=false:=by simpa using d
 have L:¬(1024:Int)<(f.aU:Int):=oM;have a:Ae (f.aP.length<=8/\f.aP.length+ ↑f.aB<=32/\¬f.aU.length=0/\f.aU.length<=1024):=⟨oM,oM,d,oM⟩
 go_enter func158,ntmps158;go_wp2_with fail;refine(GE _ f.aP _ b.2.1 (b.1.1.av HB lR)).mono ?_;rintro e u ⟨rfl,rfl⟩;cases t1:f.aP.all EL
 . (have HN:Ae (¬Cb f):= λe=>by have:=e.pt;simp[t1]at this);go_wp2;go_ret;exact⟨.no HN,HB⟩
 have m:=Aw t1;go_wp2_with fail;refine(GE _ f.aB _ b.2.2.1 (b.1.2.1.av HB lR)).mono ?_;rintro e u ⟨rfl,rfl⟩;cases t1:f.aB.all EL
 . (have HN:Ae (¬Cb f):= λe=>by have:=e.lt;simp[t1]at this);go_wp2;go_ret;exact⟨.no HN,HB⟩
 have n:=Aw t1;generalize B:f.cu=R at*;have g:=Aw B;by_cases k:R=0
 . subst k;have j:Ae (Cb f):=⟨a.1,a.2.1,m,n,.inl g,a.2.2.1,a.2.2.2⟩;go_wp2;go_ret;exact⟨.iQ j,HB⟩
 have N:(R==0)=false:=by simpa using k
 go_wp2_with fail;refine(Ce R _).mono ?_;rintro e u ⟨rfl,rfl⟩;cases t1:EL R
 . (have HN:Ae (¬Cb f):= λe=>by have:=e.ia;rw[g]at this;simp[k,t1]at this);go_wp2;go_ret;exact⟨.no HN,HB⟩
 have j:Ae (Cb f):=⟨a.1,a.2.1,m,n,.inr (by rw[g];exact t1),a.2.2.1,a.2.2.2⟩;go_wp2;go_ret;exact⟨.iQ j,HB⟩
def G5(t x:Int):MC:=⟨t,if t=1 then word (decide (¬x=0))else x⟩
def A9(ts a:List Int):List MC:=List.zipWith G5 ts a
theorem Dq(ts a:List Int)(h:a.length= ↑ts):(A9 ts a).length=ts.length:=by simp[A9,h]
theorem Up(ts a:List Int)(k:Nat)(t x:Int)(b:ts[k]?=K t)(c:a[k]?=K x):(A9 ts a)[k]?=K (G5 t x):=by simp[A9,List.getElem?_zipWith,b,c]
theorem Ox{α:Type}(xs:List α)(k:Nat)(x:α)(h:xs[k]?=K x):xs.take (k+1)=xs.take k++[x]:=by obtain⟨a,rfl⟩:=f7.1 h;exact mZ a
theorem Nc(x:MC):∀u∈x.cells,u.oneCell'=true:=by intro u a;simp[MC.cells]at a;rcases a with rfl|rfl<;>rfl
theorem Fp(w:Y)(cs:Array J)(t:Aj):(Ac w (Ak cs t)).heap[w.heap.size]?=K (Ak cs t (0,0)):=pI
theorem Qj(t s:J)(b ts:List Int)(w:Y)(hn:ts.length<=1048576)(n:b.length= ↑ts)(h:Rd w 1 s b (Ad JC b))(B:Rd w 1 t ts (Ad At ts)):
 Ai Aq 44 #[t,s] w λe X=>∃a c,e=Am (Z a ts c)/\Ab X w 193 2 (Z a ts c) ts (Ad MC.cells (A9 ts b))/\Ah w w X:=by
 obtain⟨i0,hi,ae,ai,aj⟩:=nE Xi;rw[n]at h;have H:Ae (Rd w 1 s ts (Ad JC b)/\Rd w 1 t ts (Ad At ts)/\(A9 ts b).length= ↑ts/\b.length= ↑ts):=⟨h,B,Dq ts b n,n⟩
 obtain⟨a1,c1,rfl⟩:=h.aD;obtain⟨a2,c2,rfl⟩:=B.aD;clear h B n;generalize S:ts.length=L at hn H⊢;have HL:Ae (↑ts=L):=S
 clear S;go_enter func44,ntmps44;go_wp2_with (at_make;refine pK _ rfl _ _ 45 rfl w 193 i0 (.agg #[.int Af 0,.int .u32 0]) 2 underlying45 hi ae ai Af Af _ _ L rfl rfl rfl rfl (by rw[aj];omega) oX lR ?_;intro w1 d W);rw[DM MC.cells [.int Af 0,.int .u32 0] (A9 ts b) L (.agg #[.int Af 0,.int .u32 0]) 2 rfl rfl oM]at d;have Q:Ah w w w1:=(mP _ _).grown W lR (λk C=>by cases C);clear W;go_loopw [13] (λi wr=>∃k:Nat,k<=L/\i=.int Af k/\Ab wr w 193 2 (Z w L L) L (CK MC.cells [.int Af 0,.int .u32 0] (A9 ts b) k L)/\Ah w w wr) (λi _=>L-(intOf i).toNat)
 case atStart=>exact⟨0,oM,rfl,d,Q⟩
 clear d Q;obtain⟨k,C,rfl,d,m⟩:=hrel;by_cases D:k<L
 . obtain⟨x,G⟩:∃x,b[k]?=K x:=⟨_,an (by rw[H.2.2.2];exact D)⟩;obtain⟨t,E⟩:∃t,ts[k]?=K t:=⟨_,an (by rw[HL];exact D)⟩;have V:=Up ts b k t x E G;have p:=Ky MC.cells [.int Af 0,.int .u32 0] (A9 ts b) k L _ V;rw[Jm MC.cells [.int Af 0,.int .u32 0] (A9 ts b) k L D]at d;(have l:(Ad MC.cells ((A9 ts b).take k)).length=k*2:=by rw[AX MC.cells 2 MC.bW,nF,H.2.2.1,Nat.min_eq_left C]);generalize Ad MC.cells ((A9 ts b).take k)=A at d p l;generalize (List.replicate (L-(k+1)) [Value.int Af 0,Value.int .u32 0]).flatten=R at d p;rcases H.1.2 with⟨e0,_⟩|⟨g,o,c,O,T⟩
   . omega
   rcases H.2.1.2 with⟨e0,_⟩|⟨g',o',c',P,U⟩
   . omega
   simp only[lU,mj]at O P;obtain⟨rfl,rfl⟩:=O;obtain⟨rfl,rfl⟩:=P;have r:=Rd.elem JD T k x G 0 _ rfl;have I:=Rd.elem AE U k t E 0 _ rfl;rw[nX,mL]at r I;have v:¬g=w.heap.size:=nZ (lT r);rw[<-m.cell (lT r)]at r;rw[<-m.cell (lT I)]at I;have au:(k:Int)<(L:Int):=oM;have f0:=d.frozenAt (k*2);have f1:=d.frozenAt (k*2+1);have y:=d.cellAt (k*2) oM;have z:=d.cellAt (k*2+1) oM;rw[mg oM,l]at y z;rw[pG]at y;rw[oV]at z;simp only[nW,lO,lS]at y z;have HO:Ae (Ab wr w 193 2 (Z w L L) L (A++([.int Af 0,.int .u32 0]++R))/\ ↑A=k*2/\CK MC.cells [.int Af 0,.int .u32 0] (A9 ts b) (k+1) L=A++((G5 t x).cells++R)/\Ah w w wr):=⟨d,l,p,m⟩
   clear d l p T U G E V;have nb:¬g=w.heap.size:=v;have ax:¬ ↑w=g:= λe=>v e.symm
   clear v;by_cases q:t=1
   . subst q;by_cases N:x=0
     . subst N;have aq:((0:Int) != 0)=false:=rfl;have f:Ae ((G5 1 0).cells=[.int Af 1,.int .u32 0]):=rfl;go_wp2_with fail;refine(C7 false _).mono ?_;rintro e u ⟨rfl,F⟩;rw[show word false=0 from rfl];subst F;go_wp2;go_roundw;(case rel=>refine⟨k+1,oM,by go_num,?_,((HO.2.2.2.setCell lR _).setCell lR _).setCell lR _⟩;have j:=(HO.1.stored (k*2) (.int Af 1)).1;have s1:=(j.stored (k*2+1) (.int .u32 0)).1;rw[ZO A R _ _ _ _ (k*2) HO.2.1]at s1;have s2:=(s1.stored (k*2+1) (.int .u32 0)).1;rw[HO.2.2.1,f];simpa[<-HO.2.1]using s2);case measure=>exact oI
     (have aq:(x != 0)=true:=by simpa using N);(have f:Ae ((G5 1 x).cells=[.int Af 1,.int .u32 1]):=by show _=_;unfold G5;simp[N,word,MC.cells]);go_wp2_with fail;refine(C7 true _).mono ?_;rintro e u ⟨rfl,F⟩;rw[show word true=1 from rfl];subst F;go_wp2;go_roundw;(case rel=>refine⟨k+1,oM,by go_num,?_,((HO.2.2.2.setCell lR _).setCell lR _).setCell lR _⟩;have j:=(HO.1.stored (k*2) (.int Af 1)).1;have s1:=(j.stored (k*2+1) (.int .u32 x)).1;rw[ZO A R _ _ _ _ (k*2) HO.2.1]at s1;have s2:=(s1.stored (k*2+1) (.int .u32 1)).1;rw[HO.2.2.1,f];simpa[<-HO.2.1]using s2);case measure=>exact oI
   (have q':(t==1)=false:=by simpa using q);(have f:Ae ((G5 t x).cells=[.int Af t,.int .u32 x]):=by show _=_;unfold G5;rw[lY q];rfl);clear q;go_wp2;go_roundw;(case rel=>refine⟨k+1,oM,by go_num,?_,(HO.2.2.2.setCell lR _).setCell lR _⟩;have j:=(HO.1.stored (k*2) t).1;have s1:=(j.stored (k*2+1) (.int .u32 x)).1;rw[ZO A R _ _ _ _ (k*2) HO.2.1]at s1;rw[HO.2.2.1,f];exact s1);case measure=>exact oI
 have aa:k=L:=oM;subst aa;rw[LS _ _ _ _ H.2.2.1]at d;have HO:Ae (Ab wr w 193 2 (Z w k k) k (Ad MC.cells (A9 ts b))):=d;clear d;go_wp2;go_ret;exact⟨_,_,rfl,HO,m⟩
theorem FC(t:Int)(w:Y):Ai Aq 78 #[t] w λe a=>e=Am (.agg #[t,.int .u32 0])/\Ah w w a:=by go_enter func78,ntmps78;go_wp2;exact mM (v:=.agg #[t,.int .u32 0]) (by simp[results,results78,go_sem]) rfl ⟨rfl,(mP _ _).alloc lR _⟩
theorem KN(t:J)(ts:List Int)(w:Y)(N:ts.length<=4194304)(n:Rd w 1 t ts (Ad At ts)):
 Ai Aq 41 #[t] w λe F=>∃a c,e=Am (Z a ts c)/\Ab F w 193 2 (Z a ts c) ts (Ad MC.cells (ts.map λt=>(⟨t,0⟩:MC)))/\Ah w w F:=by
 obtain⟨S,G,O,P,Q⟩:=nE Xi;have H:Ae (Rd w 1 t ts (Ad At ts)):=n;obtain⟨V,c2,rfl⟩:=n.aD;clear n;generalize z:ts.length=L at N H⊢;have j:Ae (↑ts=L):=z
 clear z;go_enter func41,ntmps41;go_wp2_with (at_make;refine pK _ rfl _ _ 45 rfl w 193 S (.agg #[.int Af 0,.int .u32 0]) 2 underlying45 G O P Af Af _ _ L rfl rfl rfl rfl (by rw[Q];omega) oX lR ?_;intro U b D);rw[DM MC.cells [.int Af 0,.int .u32 0] (ts.map λt=>(⟨t,0⟩:MC)) L (.agg #[.int Af 0,.int .u32 0]) 2 rfl rfl oM]at b;have y:Ah w w U:=(mP _ _).grown D lR (λk q=>by cases q);clear D;go_loopw [11] (λi wr=>∃k:Nat,k<=L/\i=.int Af k/\Ab wr w 193 2 (Z w L L) L (CK MC.cells [.int Af 0,.int .u32 0] (ts.map λt=>(⟨t,0⟩:MC)) k L)/\Ah w w wr) (λi _=>L-(intOf i).toNat)
 case atStart=>exact⟨0,oM,rfl,b,y⟩
 clear b y;obtain⟨k,q,rfl,b,f⟩:=hrel;by_cases E:k<L
 . obtain⟨t,r⟩:∃t,ts[k]?=K t:=⟨_,an (by rw[j];exact E)⟩;(have C:(ts.map λt=>(⟨t,0⟩:MC))[k]?=K ⟨t,0⟩:=by simp[r]);have g:=Ky MC.cells [.int Af 0,.int .u32 0] (ts.map λt=>(⟨t,0⟩:MC)) k L _ C;rw[Jm MC.cells [.int Af 0,.int .u32 0] (ts.map λt=>(⟨t,0⟩:MC)) k L E]at b;(have d:(Ad MC.cells ((ts.map λt=>(⟨t,0⟩:MC)).take k)).length=k*2:=by rw[AX MC.cells 2 MC.bW,nF,mQ,j.o,Nat.min_eq_left q]);generalize Ad MC.cells ((ts.map λt=>(⟨t,0⟩:MC)).take k)=A at b g d;generalize (List.replicate (L-(k+1)) [Value.int Af 0,Value.int .u32 0]).flatten=R at b g;rcases H.2 with⟨W,_⟩|⟨X,o',c',v,B⟩
   . omega
   simp only[lU,mj]at v;obtain⟨rfl,rfl⟩:=v;have h:=Rd.elem AE B k t r 0 _ rfl;rw[nX,mL]at h;rw[<-f.cell (lT h)]at h;have aa:(k:Int)<(L:Int):=oM;have HO:Ae (Ab wr w 193 2 (Z w L L) L (A++([.int Af 0,.int .u32 0]++R))/\ ↑A=k*2/\CK MC.cells [.int Af 0,.int .u32 0] (ts.map λt=>(⟨t,0⟩:MC)) (k+1) L=A++([.int Af t,.int .u32 0]++R)/\Ah w w wr):=⟨b,d,g,f⟩
   clear b d g B r C f;go_wp2_with fail;refine(FC t _).mono ?_;rintro e u ⟨rfl,p⟩;have b:=AD HO.1 p lR;have d:=HO.2.1;have f0:=b.frozenAt (k*2);have f1:=b.frozenAt (k*2+1);have l:=b.cellAt (k*2) oM;have m:=b.cellAt (k*2+1) oM;rw[mg oM,d]at l m;rw[pG]at l;rw[oV]at m;simp only[nW,lO,lS]at l m;have s:Ae (Ah w w u/\Ab u w 193 2 (Z w L L) L (A++([.int Af 0,.int .u32 0]++R))):=⟨HO.2.2.2.trans (p.mono HO.2.2.2.size),b⟩
   clear b d p h;go_wp2;go_roundw;(case rel=>refine⟨k+1,oM,by go_num,?_,(s.1.setCell lR _).setCell lR _⟩;have T:=(s.2.stored (k*2) (.int Af t)).1;have s1:=(T.stored (k*2+1) (.int .u32 0)).1;rw[ZO A R _ _ _ _ (k*2) HO.2.1]at s1;rw[HO.2.2.1];exact s1);case measure=>exact oI
 have I:k=L:=oM;subst I;rw[LS _ _ _ _ (by rw[mQ];exact j)]at b;have HO:Ae (Ab wr w 193 2 (Z w k k) k (Ad MC.cells (ts.map λt=>(⟨t,0⟩:MC)))):=b;clear b;go_wp2;go_ret;exact⟨_,_,rfl,HO,f⟩
def pw:Option J->Int
 |some (Ag _ z)=>z
 |_=>0
def AH(op:Int):Int:=pw (CL op)[2]?
theorem Nt(op:Int):∃(s:ByteArray) (c:Int),CL op=#[.string s,iZ c,iZ (AH op)]:=by
 obtain⟨s,c,f,h⟩:=QT op;refine⟨s,c,?_⟩;rw[h];have:AH op=f:=by unfold AH;rw[h];rfl
 rw[this]
theorem SA(k:Nat)(a:k<30):(0<=AH k/\AH k<=11)/\(AH k=3->k=4\/k=5)/\(AH k=4->k=6\/k=7):=by
 have h:∀k:Fin 30,(0<=AH (k.val:Int)/\AH (k.val:Int)<=11)/\(AH (k.val:Int)=3->k.val=4\/k.val=5)/\(AH (k.val:Int)=4->k.val=6\/k.val=7):=by decide+kernel
 exact h ⟨k,a⟩
def BW(F t:Int):Prop:=(F=5/\(t=2\/t=3))\/(F=6/\(t=1\/t=3))\/(F=7/\EL t=true)
def BQ(p:MP)(f:MF)(F op a b c:Int):Prop:=
 (F=0/\a=0/\b=0/\c=0)\/(F=1/\0<=a/\a< ↑p.b8/\b=0/\c=0)\/(F=2/\¬AJ f a=0/\b=0/\c=0)\/
 (F=3/\¬CJ p a b=0/\c=0/\(op=4\/¬a=0))\/(F=4/\OM p a b c/\(op=6\/¬a=0))\/(BW F a/\b=0/\c=0)\/
 (F=8/\EL a=true/\EL b=true/\¬a=b/\c=0)\/(F=9/\a=0/\b=0/\0<=c/\c< ↑f.aU)\/
 (F=10/\¬AJ f a=0/\b=0/\0<=c/\c< ↑f.aU)\/(F=11/\0<=a/\a< ↑p.aC/\b=0/\c=0)
def AV(p:MP)(f:MF)(x:MI):Prop:=0<=x.op/\x.op<=29/\BQ p f (AH x.op) x.op x.a x.b x.c
theorem SO(s:ByteArray)(co F:Int)(w:Y):(Instr.field 78 (An #[.string s,co,F]) 2).run Aq w=.ok F w:=kR
inductive DA (E:Nat->List Nat) (ok:Nat->Prop) (a:Nat):Nat->Prop
 |here:ok a->DA E ok a a
 |step {b c:Nat}:DA E ok a b->c∈E b->ok c->DA E ok a c
inductive FQ (E:Nat->List Nat) (ok:Nat->Prop) (a:Nat):Nat->Nat->Prop
 |here (k:Nat):ok a->FQ E ok a k a
 |step {k b c:Nat}:FQ E ok a k b->c∈E b->ok c->FQ E ok a (k+1) c
section
variable {E:Nat->List Nat} {ok ok':Nat->Prop} {a b c:Nat}
theorem DA.trans(h:DA E ok a b)(d:DA E ok b c):DA E ok a c:=by
 induction d with
 |here _=>exact h
 |step _ e f g=>exact .step g e f
theorem DA.mono(h:DA E ok a b)(hw:∀x,ok x->ok' x):DA E ok' a b:=by
 induction h with
 |here h=>exact .here (hw _ h)
 |step _ c d e=>exact .step e c (hw _ d)
theorem DA.lE(h:DA E ok a b):ok b:=by
 cases h with
 |here h=>exact h
 |step _ _ h=>exact h
theorem DA.kj(h:DA E ok a b):ok a:=by
 induction h with
 |here h=>exact h
 |step _ _ _ c=>exact c
theorem DA.lt{n:Nat}(d:∀b,b<n->∀x∈E b,x<n)(e:a<n)(h:DA E ok a b):b<n:=by
 induction h with
 |here _=>exact e
 |step _ c _ f=>exact d _ f _ c
theorem FQ.mono{k c:Nat}(h:FQ E ok a k b)(g:k<=c):FQ E ok a c b:=by
 induction h generalizing c with
 |here k h=>exact .here _ h
 | step _ d e f=>
   cases c with
   |zero=>omega
   |succ c=>exact .step (f oM) d e
theorem FQ.kA{k:Nat}(h:FQ E ok a k b):DA E ok a b:=by
 induction h with
 |here k h=>exact .here h
 |step _ c d e=>exact .step e c d
theorem DA.some(h:DA E ok a b):∃k,FQ E ok a k b:=by
 induction h with
 |here h=>exact⟨0,.here _ h⟩
 | step _ c d f=>obtain⟨k,e⟩:=f;exact⟨k+1,.step e c d⟩
end
theorem Oi(m:Nat)(Q:Nat->Nat->Prop)(d:∀i k g,Q i k->k<=g->Q i g)(P:Nat->Prop)(h:∀i,P i->∃k,Q i k):∃K,∀i,i<m->P i->Q i K:=by
 induction m with
 |zero=>exact⟨0, λi b=>absurd b (Nat.not_lt_zero _)⟩
 | succ m l=>
   obtain⟨K,c⟩:=l;by_cases f:P m
   . obtain⟨k,j⟩:=h m f;refine⟨max K k, λi b a=> ?_⟩;by_cases e:i=m
     . subst e;exact d _ _ _ j (Nat.le_max_right _ _)
     exact d _ _ _ (c i oM a) (Nat.le_max_left _ _)
   refine⟨K, λi b a=> ?_⟩;by_cases e:i=m
   . subst e;exact absurd a f
   exact c i oM a
theorem Vv(E:Nat->List Nat)(n:Nat):∃K,∀e,e<n->∀x,x<n->DA E (· ≠e) 0 x->FQ E (· ≠e) 0 K x:=by
 have d:∀e,∃k,∀x,x<n->DA E (· ≠e) 0 x->FQ E (· ≠e) 0 k x:= λe=>
  Oi n (λx k=>FQ E (· ≠e) 0 k x) (λi k j h a=>h.mono a) (λx=>DA E (· ≠e) 0 x) (λi h=>h.some)
 obtain⟨K,f⟩:=Oi n (λe k=>∀x,x<n->DA E (· ≠e) 0 x->FQ E (· ≠e) 0 k x) (λi k j h a x c b=>(h x c b).mono a) (λ_=>True) (λi _=>d i);exact⟨K, λe g x c b=>f e g trivial x c b⟩
def Ea(E:Nat->List Nat)(d b:Nat):Prop:=¬DA E (· ≠d) 0 b
inductive EP (I:Nat->Int) (d:Nat):Nat->Prop
 |here:EP I d d
 |up {b c:Nat}:b≠0->I b=(c:Int)->EP I d c->EP I d b
def Kn(I:Nat->Int)(b:Nat):Prop:=b=0\/I b≠ -1
structure R9(n:Nat)(pl:Nat->Nat)(I:Nat->Int):Prop where
 up:∀b,b<n->b≠0->I b≠ -1->∃c:Nat,I b=(c:Int)/\c<n/\pl c<pl b/\Kn I c
section
variable {n:Nat} {pl:Nat->Nat} {I J:Nat->Int} {d e b c x:Nat}
theorem EP.trans(h:EP I d c)(a:EP I c b):EP I d b:=by
 induction a with
 |here=>exact h
 |up h1 h2 _ ih=>exact .up h1 h2 ih
theorem EP.j6(g:R9 n pl I)(a:b<n)(h:EP I d b):pl d<=pl b/\(d≠b->pl d<pl b)/\d<n:=by
 induction h with
 |here=>exact⟨Nat.le_refl _, λh=>absurd rfl h,a⟩
 | @up b c h1 h2 _ ih=>obtain⟨c',e,f,k,_⟩:=g.up b a h1 (by rw[h2];omega);obtain rfl:c'=c:=oM;obtain⟨l,m,j⟩:=ih f;exact⟨oM, λ_=>oM,j⟩
theorem EP.zero(h:EP I d 0):d=0:=by
 cases h with
 |here=>rfl
 |up h1=>exact absurd rfl h1
theorem EP.js(h:EP I d b)(a:d≠b):b≠0/\∃c:Nat,I b=(c:Int)/\EP I d c:=by
 cases h with
 |here=>exact absurd rfl a
 |up h1 h2 h3=>exact⟨h1,_,h2,h3⟩
theorem EP.jF(c:R9 n pl I)(g:b<n)(h:EP I d b)(f:EP I b d):d=b:=by
 have a:=h.j6 c g;have j:=f.j6 c a.2.2;by_cases e:d=b
 . exact e
 have:=a.2.1 e;omega
theorem EP.turn(f:∀y,y≠b->I y=J y)(h:EP I d x):EP J d x\/(EP J b x/\EP I b x/\EP I d b):=by
 induction h with
 |here=>exact .inl .here
 | @up x c h1 h2 h3 a=>
   by_cases e:x=b
   . subst e;exact .inr ⟨.here,.here,.up h1 h2 h3⟩
   rcases a with a|⟨g,j,k⟩
   . exact .inl (.up h1 (by rw[<-f x e];exact h2) a)
   exact .inr ⟨.up h1 (by rw[<-f x e];exact h2) g,.up h1 h2 j,k⟩
end
def Cp(I:Nat->Int)(a b m:Nat):Prop:=∀d,EP I d m↔EP I d a/\EP I d b
theorem Cp.same(I:Nat->Int)(a:Nat):Cp I a a a:= λd=>⟨λh=>⟨h,h⟩, λh=>h.1⟩
theorem Cp.symm{I:Nat->Int}{a b m:Nat}(h:Cp I a b m):Cp I b a m:= λd=>(h d).trans And.comm
theorem Cp.left{n:Nat}{pl:Nat->Nat}{I:Nat->Int}{a b m c:Nat}(l:R9 n pl I)(j:b<n)(r:pl b<pl a)(g:a≠0)(k:I a=(c:Int))(h:Cp I c b m):Cp I a b m:= λd=>by
 rw[h d];refine⟨λq=>⟨.up g k q.1,q.2⟩, λq=>⟨?_,q.2⟩⟩;by_cases e:d=a
 . subst e;have:=(q.2.j6 l j).1;omega
 obtain⟨_,c',p,f⟩:=q.1.js e;obtain rfl:c'=c:=oM;exact f
def Be(n:Nat)(I:Nat->Int)(ps:List Nat)(z:Int):Prop:=(z=-1/\∀p∈ps,¬Kn I p)\/∃m:Nat,z=(m:Int)/\m<n/\Kn I m/\(∃p∈ps,Kn I p)/\∀d,EP I d m↔∀p∈ps,Kn I p->EP I d p
structure Jc(E:Nat->List Nat)(n:Nat)(pl:Nat->Nat)(I:Nat->Int):Prop where
 tree:R9 n pl I
 jE:∀x,x<n->Kn I x->∀d,Ea E d x->EP I d x
 jH:∀b c:Nat,b<n->b≠0->I b=(c:Int)->DA E (λx=>pl c<=pl x) c b
def M7(E:Nat->List Nat)(n:Nat)(pl:Nat->Nat)(I:Nat->Int)(k j:Nat):Prop:=∀x,x<n->Kn I x->∀e,EP I e x->¬FQ E (· ≠e) 0 k x/\(pl x<j->¬FQ E (· ≠e) 0 (k+1) x)
theorem Jc.down{E:Nat->List Nat}{n:Nat}{pl:Nat->Nat}{I:Nat->Int}(h:Jc E n pl I){b x:Nat}(d:x<n)(f:EP I b x):DA E (λy=>pl b<=pl y) b x:=by
 induction f with
 |here=>exact .here lR
 | @up x c h1 h2 h3 ih=>obtain⟨c',e,a,g,_⟩:=h.tree.up x d h1 (by rw[h2];omega);obtain rfl:c'=c:=oM;have j:=(h3.j6 h.tree a).1;exact(ih a).trans ((h.jH x c' d h1 h2).mono λy k=>oM)
theorem FQ.split{E:Nat->List Nat}{e b k x:Nat}(h:FQ E (· ≠e) 0 k x):FQ E (· ≠b) 0 k x\/FQ E (· ≠e) 0 k b:=by
 induction h with
 | here k h=>
   by_cases q:(0:Nat)=b
   . subst q;exact .inr (.here _ h)
   exact .inl (.here _ q)
 | @step k p c h1 h2 h3 a=>
   rcases a with a|a
   . by_cases q:c=b
     . subst q;exact .inr (.step h1 h2 h3)
     exact .inl (.step a h2 q)
   exact .inr (a.mono oM)
def Ko(E:Nat->List Nat)(n b:Nat)(ps:List Nat):Prop:=∀p,p∈ps↔p<n/\b∈E p
theorem QH{E:Nat->List Nat}{n b d:Nat}{ps:List Nat}(e:Ko E n b ps)(h:Ea E d b)(a:d≠b):∀p∈ps,Ea E d p:= λp c f=>h (.step f ((e p).1 c).2 a.symm)
theorem Pa{E:Nat->List Nat}{n b d:Nat}{ps:List Nat}(e:∀b,b<n->∀x∈E b,x<n)(g:0<n)(j:Ko E n b ps)(f:b≠0)(h:∀p∈ps,Ea E d p):Ea E d b:= λk=>by
 cases k with
 |here _=>exact f rfl
 |step a c _=>exact h _ ((j _).2 ⟨a.lt e g,c⟩) a
structure EU(E:Nat->List Nat)(n:Nat)(pl:Nat->Nat):Prop where
 pos:0<n
 jx:∀b,b<n->∀x∈E b,x<n
 zero:pl 0=0
 cz:∀b,b<n->b≠0->0<pl b
 inj:∀a b,a<n->b<n->pl a=pl b->a=b
 par:∀b,b<n->b≠0->∃q,q<n/\b∈E q/\pl q<pl b
section
variable {E:Nat->List Nat} {n:Nat} {pl:Nat->Nat} {I J:Nat->Int} {b m k:Nat} {ps:List Nat}
theorem JQ(r:EU E n pl)(l:Jc E n pl I)(s:b<n)(t:b≠0)(w:Ko E n b ps)(v:∀x,x<n->pl x<pl b->Kn I x)(u:Be n I ps z):∃m:Nat,z=(m:Int)/\m<n/\Kn I m/\pl m<pl b/\∀d,EP I d m↔∀p∈ps,Kn I p->EP I d p:=by
 obtain⟨q,a,y,A⟩:=r.par b s t;have e:=v q a A;have f:=(w q).2 ⟨a,y⟩;rcases u with⟨_,h⟩|⟨m,g,j,k,_,c⟩
 . exact absurd e (h q f)
 have:=((c m).1 .here q f e).j6 l.tree a;exact⟨m,g,j,k,oM,c⟩
theorem Jc.set(Q:EU E n pl)(a:Jc E n pl I)(R:b<n)(S:b≠0)(w:Ko E n b ps)(V:∀x,x<n->pl x<pl b->Kn I x)(v:m<n)(W:Kn I m)(G:pl m<pl b)(F:∀d,EP I d m↔∀p∈ps,Kn I p->EP I d p)(f:∀y,y≠b->I y=J y)(s:J b=(m:Int)):Jc E n pl J/\(∀x,Kn I x->Kn J x)/\(∀x,Kn J x->x=b\/Kn I x)/\(∀d,EP I d m↔EP J d m):=by
 have u:∀x,Kn I x->Kn J x:= λx h=>by
  by_cases e:x=b
  . subst e;exact .inr (by rw[s];omega)
  rcases h with h|h
  . exact .inl h
  exact .inr (by rw[<-f x e];exact h)
 have D:∀x,Kn J x->x=b\/Kn I x:= λx h=>by
  by_cases e:x=b
  . exact .inl e
  rcases h with h|h
  . exact .inr (.inl h)
  exact .inr (.inr (by rw[f x e];exact h))
 have B:R9 n pl J:=⟨λx g l r=>by
  by_cases e:x=b
  . subst e;exact⟨m,s,v,G,u m W⟩
  obtain⟨c,c1,c2,c3,c4⟩:=a.tree.up x g l (by rw[f x e];exact r);exact⟨c,by rw[<-f x e];exact c1,c2,c3,u c c4⟩⟩
 have H:∀d,EP I d m↔EP J d m:= λd=>by
  constructor
  . intro h;rcases h.turn f with h|⟨_,j,_⟩
    . exact h
    have:=(j.j6 a.tree v).1;omega
  intro h;rcases h.turn (λy N=>(f y N).symm)with h|⟨_,j,_⟩
  . exact h
  have:=(j.j6 B v).1;omega
 have C:∀d,Ea E d b->EP J d b:= λd k=>by
  by_cases e:d=b
  . subst e;exact .here
  refine .up S s ((H d).1 ((F d).2 λp L t=>a.jE p ((w p).1 L).1 t d (QH w k e p L)))
 refine⟨⟨B, λx g t d k=> ?_, λx c g l T=> ?_⟩,u,D,H⟩
 . by_cases e:x=b
   . subst e;exact C d k
   have U:=(D x t).resolve_left e;rcases(a.jE x g U d k).turn f with h|⟨r,j,P⟩
   . exact h
   by_cases A:d=b
   . subst A;exact r
   refine(C d λX=>k (X.trans ((a.down g j).mono λy N q=> ?_))).trans r;subst q;have:=(P.j6 a.tree R).2.1 A;omega
 by_cases e:x=b
 . subst e;obtain rfl:c=m:=oM;obtain⟨q,z,O,q3⟩:=Q.par x g l;have qa:=(F c).1 .here q ((w q).2 ⟨z,O⟩) (V q z q3);exact .step (a.down z qa) O (oq G)
 exact a.jH x c g l (by rw[f x e];exact T)
theorem M7.set(l:EU E n pl)(z:Jc E n pl I)(r:M7 E n pl I k (pl b))(B:b<n)(C:b≠0)(G:Ko E n b ps)(R:∀x,x<n->pl x<pl b->Kn I x)(N:k=0\/∀x,x<n->Kn I x)(T:m<n)(U:Kn I m)(V:pl m<pl b)(D:∀d,EP I d m↔∀p∈ps,Kn I p->EP I d p)(A:∀y,y≠b->I y=J y)(L:J b=(m:Int)):M7 E n pl J k (pl b+1):=by
 obtain⟨aa,ae,Q,W⟩:=z.set l B C G R T U V D A L;have u:∀e,EP J e b->¬FQ E (· ≠e) 0 (k+1) b:= λe g a=>by
  by_cases q:e=b
  . subst q;exact a.kA.lE rfl
  obtain⟨_,c,c1,c2⟩:=g.js q;obtain rfl:c=m:=oM;have O:=(D e).1 ((W e).2 c2);cases a with
  |here _ h=>exact C rfl
  | @step _ p _ f v w=>
    have t:p<n:=f.kA.lt l.jx l.pos;have F:Kn I p:=by
     rcases N with rfl|h
     . (cases f);exact .inl rfl
     exact h p t
    exact(r p t F e (O p ((G p).2 ⟨t,v⟩) F)).1 f
 intro x j P e g;by_cases q:x=b
 . subst q;exact⟨λh=>u e g (h.mono oM), λ_=>u e g⟩
 have s:=(Q x P).resolve_left q;rcases g.turn (λy X=>(A y X).symm)with h|⟨f,v,w⟩
 . refine⟨(r x j s e h).1, λS=>(r x j s e h).2 ?_⟩;by_cases H:pl x=pl b
   . exact absurd (l.inj x b j B H) q
   omega
 refine⟨λa=> ?_, λS=> ?_⟩
 . rcases a.split (b:=b)with a|a
   . exact(r x j s b f).1 a
   exact u e w (a.mono oM)
 have:=(f.j6 z.tree j).2.1 (Ne.symm q);omega
theorem YY(e:EU E n pl)(k:Jc E n pl I)(f:∀x,x<n->Kn I x)(r:Nat->List Nat)(u:∀b,b<n->Ko E n b (r b))(t:∀b,b<n->b≠0->Be n I (r b) (I b)){d x:Nat}(a:x<n):EP I d x↔Ea E d x:=by
 refine⟨λl v=> ?_,k.jE x a (f x a) d⟩;induction v with
 |here h=>exact h (EP.zero l).symm
 | @step p c h1 h2 h3 ih=>have g:p<n:=h1.lt e.jx e.pos;obtain⟨j,m,A,s⟩:=l.js (Ne.symm h3);have q:=u c a;obtain⟨z,f1,_,_,_,f2⟩:=JQ e k a j q (λy w _=>f y w) (t c a j);obtain rfl:z=m:=oM;exact ih g ((f2 d).1 s p ((q p).2 ⟨g,h2⟩) (f p g))
theorem YO(r:EU E n pl)(a:Jc E n pl I)(l:∀x,x<n->Kn I x)(u:∀x,x<n->∀d,EP I d x->Ea E d x)(f:b<n)(k:b≠0)(j:Ko E n b ps)(C:Be n I ps z):z=I b:=by
 obtain⟨m,A,B,H,L,t⟩:=JQ r a f k j (λy F _=>l y F) C;obtain⟨c,c1,c2,c3,c4⟩:=a.tree.up b f k ((l b f).resolve_left k);have v:∀d,EP I d m↔EP I d c:= λd=>by
  constructor
  . intro h;(have s:d≠b:= λe=>by have:=(h.j6 a.tree B).1;rw[e]at this;omega);(have q:Ea E d b:=Pa r.jx r.pos j k λp g=>u p ((j p).1 g).1 d ((t d).1 h p g (l p ((j p).1 g).1)));obtain⟨_,c',G,w⟩:=(a.jE b f (l b f) d q).js s;obtain rfl:c'=c:=oM;exact w
  intro h;have s:d≠b:= λe=>by have:=(h.j6 a.tree c2).1;rw[e]at this;omega
  have q:=u b f d (.up k c1 h);exact(t d).2 λp g D=>a.jE p ((j p).1 g).1 D d (QH j q s p g)
 have:=EP.jF a.tree c2 ((v m).1 .here) ((v c).2 .here);rw[A,c1,this]
theorem Jc.start(a:∀y,I y=-1):Jc E n pl I:=⟨⟨λb _ _ h=>absurd (a b) h⟩, λx j g d f=>by
 obtain rfl:x=0:=g.resolve_right λh=>h (a x)
 by_cases e:d=0
 . subst e;exact .here
 exact absurd (.here (Ne.symm e)) f, λb c _ _ h=>by rw[a b]at h;omega⟩
theorem M7.start(d:EU E n pl)(a:∀y,I y=-1):M7 E n pl I 0 1:= λx f c e b=>by
 obtain rfl:x=0:=c.resolve_right λh=>h (a x)
 obtain rfl:=b.zero;exact⟨λh=>h.kA.kj rfl, λ_ h=>h.kA.kj rfl⟩
theorem M7.pass(c:EU E n pl)(d:M7 E n pl I k n)(g:∀x,x<n->pl x<n):M7 E n pl I (k+1) 1:= λx a f e b=>by
 refine⟨(d x a f e b).2 (g x a), λj=> ?_⟩;by_cases q:x=0
 . subst q;obtain rfl:=b.zero;exact λh=>h.kA.kj rfl
 have:=c.cz x a q;omega
end
inductive Vs (E:Nat->List Nat):List Nat->List Nat->List Nat->List Nat->List Nat->Prop
 |nil (S O:List Nat):Vs E S O [] S O
 |old {S O r S' O':List Nat} {b:Nat}:b∈S->Vs E S O r S' O'->Vs E S O (b::r) S' O'
 |new {S O r S1 O1 S2 O2:List Nat} {b:Nat}:b∉S->Vs E (b::S) O (E b) S1 O1->Vs E S1 (O1++[b]) r S2 O2->Vs E S O (b::r) S2 O2
theorem Vs.one{E:Nat->List Nat}{S O r e d b a:List Nat}(h:Vs E S O r e d)(c:Vs E S O r b a):e=b/\d=a:=by
 induction h generalizing b a with
 |nil S O=>cases c with|nil=>exact⟨rfl,rfl⟩
 | old h1 _ ih=>
   cases c with
   |old _ h3=>exact ih h3
   |new h3=>exact absurd h1 h3
 | new h1 _ _ ih1 ih2=>
   cases c with
   |old h3=>exact absurd h3 h1
   | new _ h3 h4=>obtain⟨rfl,rfl⟩:=ih1 h3;exact ih2 h4
theorem Vs.jt{E:Nat->List Nat}{S O r f d b e c:List Nat}(h:Vs E S O r d b)(a:Vs E d b f e c):Vs E S O (r++f) e c:=by
 induction h with
 |nil S O=>exact a
 |old h1 _ ih=>exact .old h1 (ih a)
 |new h1 h2 _ _ ih=>exact .new h1 h2 (ih a)
structure qx(E:Nat->List Nat)(S O r S' O' N:List Nat):Prop where
 o:O'=O++N
 seen:∀x,x∈S'↔x∈S\/x∈N
 nodup:N.Nodup
 fresh:∀x∈N,x∉S
 todo:∀x∈r,x∈S'
 closed:∀x∈N,∀y∈E x,y∈S'
 par:∀x∈N,x∈r\/∃p A B C,N=A++x::B++p::C/\x∈E p
 from_:∀x∈N,∃t∈r,DA E (· ∉S) t x
theorem Vs.told{E:Nat->List Nat}{r S' s:List Nat}(h:Vs E S O r S' s):∃N,qx E S O r S' s N:=by
 induction h with
 |nil S O=>exact⟨[],sP,sP,List.nodup_nil,sP,sP,sP,sP,sP⟩
 | @old S O r S' s b h1 _ ih=>
   obtain⟨N,t⟩:=ih;refine⟨N,t.o,t.seen,t.nodup,t.fresh, λx a=> ?_,t.closed, λx a=> ?_, λx a=> ?_⟩
   . rcases lW.1 a with rfl|a
     . exact(t.seen x).2 (.inl h1)
     exact t.todo x a
   . rcases t.par x a with h|h
     . exact .inl (nA _ h)
     exact .inr h
   obtain⟨y,w,z⟩:=t.from_ x a;exact⟨y,nA _ w,z⟩
 | @new S O r S1 O1 S2 O2 b h1 _ _ ih1 ih2=>
   obtain⟨k,f⟩:=ih1;obtain⟨l,c⟩:=ih2;have n:∀x,x∈S1↔x=b\/x∈S\/x∈k:= λx=>by rw[f.seen,lW,or_assoc]
   have u:∀x,x∈S2↔x=b\/x∈S\/x∈k\/x∈l:= λx=>by
    rw[c.seen,n];constructor
    . rintro((h|h|h)|h)
      . exact .inl h
      . exact .inr (.inl h)
      . exact .inr (.inr (.inl h))
      exact .inr (.inr (.inr h))
    rintro(h|h|h|h)
    . exact .inl (.inl h)
    . exact .inl (.inr (.inl h))
    . exact .inl (.inr (.inr h))
    exact .inr h
   have m:∀x,x∈k++b::l↔x=b\/x∈k\/x∈l:= λx=>by
    rw[mA,lW];constructor
    . rintro(h|h|h)
      . exact .inr (.inl h)
      . exact .inl h
      exact .inr (.inr h)
    rintro(h|h|h)
    . exact .inr (.inl h)
    . exact .inl h
    exact .inr (.inr h)
   refine⟨k++b::l,?_, λx=> ?_,?_, λx a=> ?_, λx a=> ?_, λx a y d=> ?_, λx a=> ?_, λx a=> ?_⟩
   . rw[c.o,f.o];simp
   . rw[u,m];constructor
     . rintro(h|h|h)
       . exact .inr (.inl h)
       . exact .inl h
       exact .inr (.inr h)
     rintro(h|h|h)
     . exact .inr (.inl h)
     . exact .inl h
     exact .inr (.inr h)
   . rw[pH];refine⟨f.nodup,List.nodup_cons.2 ⟨λh=>c.fresh b h ((n b).2 (.inl rfl)),c.nodup⟩, λx a y d e=> ?_⟩;subst e;rcases lW.1 d with rfl|d
     . exact f.fresh x a (nG ..)
     exact c.fresh x d ((n x).2 (.inr (.inr a)))
   . rcases(m x).1 a with rfl|h|h
     . exact h1
     . exact λq=>f.fresh x h (nA _ q)
     exact λq=>c.fresh x h ((n x).2 (.inr (.inl q)))
   . rcases lW.1 a with rfl|a
     . exact(u x).2 (.inl rfl)
     exact c.todo x a
   . rcases(m x).1 a with rfl|h|h
     . exact(c.seen y).2 (.inl (f.todo y d))
     . exact(c.seen y).2 (.inl (f.closed x h y d))
     exact c.closed x h y d
   . rcases(m x).1 a with rfl|h|h
     . exact .inl (nG ..)
     . rcases f.par x h with q|⟨p,A,B,C,g,j⟩
       . obtain⟨A,B,rfl⟩:=List.append_of_mem h;exact .inr ⟨b,A,B,l,sP,q⟩
       exact .inr ⟨p,A,B,C++b::l,by rw[g];simp,j⟩
     rcases c.par x h with q|⟨p,A,B,C,g,j⟩
     . exact .inl (nA _ q)
     exact .inr ⟨p,k++b::A,B,C,by rw[g];simp,j⟩
   rcases(m x).1 a with rfl|h|h
   . exact⟨x,nG ..,.here h1⟩
   . obtain⟨t,g,j⟩:=f.from_ x h;(have v:DA E (· ∉S) t x:=j.mono λy d q=>d (nA _ q));exact⟨b,nG ..,(DA.step (.here h1) g v.kj).trans v⟩
   obtain⟨t,g,j⟩:=c.from_ x h;exact⟨t,nA _ g,j.mono λy d q=>d ((n y).2 (.inr (.inl q)))⟩
theorem qx.iff{E:Nat->List Nat}{S O r S' a N:List Nat}(t:qx E S O r S' a N)(x:Nat):x∈N↔∃q∈r,DA E (· ∉S) q x:=by
 refine⟨t.from_ x,?_⟩;rintro⟨q,b,c⟩;induction c with
 |here h=>exact((t.seen _).1 (t.todo _ b)).resolve_left h
 |step _ d e f=>exact((t.seen _).1 (t.closed _ f _ d)).resolve_left e
def Bq(S:List Nat)(n:Nat):Nat:=((List.range n).filter λi=> !S.contains i).length
theorem FP(S:List Nat)(n x:Nat)(g:x<n)(d:x∉S):Bq (x::S) n+1=Bq S n:=by
 unfold Bq;induction n with
 |zero=>omega
 | succ n f=>
   rw[pA,oy,oy,mB,mB];by_cases e:x=n
   . subst e;(have b:(List.range x).filter (λi=> !(x::S).contains i)=(List.range x).filter (λi=> !S.contains i):=by apply List.filter_congr;intro i c;(have:i≠x:=by have:=nN.1 c;omega);simp[this]);rw[b];simp[d]
   have:=f oM;(have a:((x::S).contains n)=S.contains n:=by (have:¬n=x:= λq=>e q.symm);simp[this]);rw[pT,pT,a];simp only[pd];omega
theorem GY(n:Nat):Bq [] n=n:=by unfold Bq;simp only[List.contains_nil,Bool.not_false];rw[List.filter_eq_self.2 (λa _=>rfl),pO]
theorem Hv(L:List Nat)(n:Nat)(a:∀x∈L,x<n)(d:L.Nodup): ↑L+Bq L n=n:=by
 induction L with
 |nil=>simp[GY]
 | cons x L f=>obtain⟨b,c⟩:=List.nodup_cons.1 d;have:=f (λy e=>a y (nA _ e)) c;have:=FP L n x (a x (nG ..)) b;rw[nQ];omega
def DY(O:List Nat)(b:Nat):Nat:=O.reverse.idxOf b
theorem rK{b:Nat}(h:b∈O):DY O b<O.length:=by have:b∈O.reverse:=nL.2 h;have:=o6.2 this;unfold DY;simpa using this
theorem Hx{b:Nat}(h:b∈O):O.reverse[DY O b]?=K b:=by have a:b∈O.reverse:=nL.2 h;have c:=o6.2 a;unfold DY;rw[an c,List.getElem_idxOf]
theorem TQ{a b:Nat}(e:a∈O)(f:b∈O)(h:DY O a=DY O b):a=b:=by have c:=Hx e;have d:=Hx f;rw[h,d]at c;exact(mD c).symm
theorem Vr{A B C:List Nat}{x p:Nat}(e:O.Nodup)(h:O=A++x::B++p::C):DY O p<DY O x:=by
 unfold DY;subst h;have b:(A++x::B++p::C).reverse=C.reverse++p::(B.reverse++x::A.reverse):=sP;have f:(C.reverse++p::(B.reverse++x::A.reverse)).Nodup:=by rw[<-b];exact List.pairwise_reverse.2 (e.imp Ne.symm)
 rw[b];obtain⟨l,c,a⟩:=pH.1 f;obtain⟨d,m⟩:=List.nodup_cons.1 c;have g:p∉C.reverse:= λq=>a p q p (nG ..) rfl
 have k:x∉C.reverse:= λq=>a x q x sP rfl
 have j:p≠x:= λq=>d (by rw[q];simp)
 rw[List.idxOf_append,List.idxOf_append,lY g,lY k,pX,pX];have:(p==x)=false:=by simpa using j
 simp[this]
theorem DN{E:Nat->List Nat}{n:Nat}(l:0<n)(s:∀b,b<n->∀x∈E b,x<n)(h:Vs E [] [] [0] S O)(y:∀b,b<n->b∈S):EU E n (DY O)/\O.Nodup/\ ↑O=n/\(∀x,x∈O↔x<n)/\O.reverse[0]?=K 0:=by
 obtain⟨N,t⟩:=h.told;obtain rfl:O=N:=by simpa using t.o
 have c:∀x,x∈O↔x<n:= λx=>by
  constructor
  . intro f;obtain⟨q,g,r⟩:=t.from_ x f;(have:q=0:=by simpa using g);subst this;exact r.lt s l
  intro f;have:=(t.seen x).1 (y x f);simpa using this
 have F: ↑O=n:=by
  have g:=Hv O n (λx f=>(c x).1 f) t.nodup;have:Bq O n=0:=by unfold Bq;rw[List.length_eq_zero_iff,List.filter_eq_nil_iff];intro a k;simp[(c a).2 (List.mem_range.1 k)]
  omega
 have D:∃m,O=m++[0]:=by
  cases h with
  |old g=>cases g
  | new _ r h3=>
    cases h3 with
    |nil=>exact⟨_,rfl⟩
 obtain⟨m,u⟩:=D;have j:O.reverse[0]?=K 0:=by rw[u];simp
 have v:DY O 0=0:=by unfold DY;rw[u];simp
 refine⟨⟨l,s,v, λb d j=> ?_, λa b k d=>TQ ((c a).2 k) ((c b).2 d), λb d z=> ?_⟩,t.nodup,F,c,j⟩
 . rcases Nat.eq_zero_or_pos (DY O b)with e|e
   . exact absurd (TQ ((c b).2 d) ((c 0).2 l) (by rw[e,v])) j
   exact e
 rcases t.par b ((c b).2 d)with q|⟨p,A,B,C,w,G⟩
 . exact absurd (by simpa using q) z
 exact⟨p,(c p).1 (by rw[w];simp),G,Vr t.nodup w⟩
section
variable {E:Nat->List Nat} {n:Nat} {pl:Nat->Nat} {b c d k:Nat}
theorem Ea.kw(E:Nat->List Nat)(d:Nat):Ea E d d:= λh=>h.lE rfl
theorem Ea.jw(h:Ea E d 0):d=0:=by
 by_cases e:d=0
 . exact e
 exact absurd (.here (Ne.symm e)) h
theorem Ea.jH(g:EU E n pl)(l:b<n)(h:Ea E d b):DA E (λx=>pl d<=pl x) d b/\pl d<=pl b/\(d≠b->pl d<pl b):=by
 suffices ∀m b,pl b<=m->b<n->Ea E d b->DA E (λx=>pl d<=pl x) d b/\pl d<=pl b/\(d≠b->pl d<pl b)from this _ b lR l h
 intro m;induction m with
 | zero=>
   intro b k f c;by_cases e:d=b
   . subst e;exact⟨.here lR,Nat.le_refl _, λq=>absurd rfl q⟩
   by_cases a:b=0
   . subst a;exact absurd c.jw e
   have:=g.cz b f a;omega
 | succ m s=>
   intro b k f c;by_cases e:d=b
   . subst e;exact⟨.here lR,Nat.le_refl _, λq=>absurd rfl q⟩
   by_cases a:b=0
   . subst a;exact absurd c.jw e
   obtain⟨q,t,j,v⟩:=g.par b f a;(obtain⟨r,u,_⟩:=s q oM t λp=>c (.step p j (Ne.symm e)));exact⟨.step r j oM,oM, λ_=>oM⟩
theorem Ea.jF(a:EU E n pl)(f:b<n)(g:d<n)(h:Ea E d b)(c:Ea E b d):d=b:=by
 by_cases e:d=b
 . exact e
 have:=(h.jH a f).2.2 e;have:=(c.jH a g).2.1;omega
def Fm(E:Nat->List Nat)(b c:Nat):Prop:=c≠b/\Ea E c b/\∀d,d≠b->Ea E d b->Ea E d c
theorem Fm.one(d:EU E n pl){c':Nat}(e:c<n)(f:c'<n)(h:Fm E b c)(a:Fm E b c'):c=c':=Ea.jF d f e (a.2.2 c h.1 h.2.1) (h.2.2 c' a.1 a.2.1)
theorem O9(a:EU E n pl)(j:∀x,x<n->DA E (λ_=>True) 0 x)(g:b<n)(h:Ea E d b):d<n:=by
 by_cases e:d<n
 . exact e
 refine absurd ?_ h;have c:=j b g;clear h;induction c with
 |here _=>exact .here oM
 | step l m p k=>have f:=l.lt a.jx a.pos;exact .step (k f) m oM
end
theorem QJ(P Q:Nat->Bool)(n c:Nat)(h:∀k,k<n->P k=true->Q k=true)(d:c<n)(a:P c=false)(b:Q c=true):((List.range n).filter P).length<((List.range n).filter Q).length:=by
 have l:∀m,m<=n->((List.range m).filter P).length+(if c<m then 1 else 0)<=((List.range m).filter Q).length:=by
  intro m;induction m with
  |zero=>simp
  | succ m j=>
    intro p;have:=j oM;rw[pA,oy,oy,mB,mB];by_cases e:m=c
    . subst e;simp only[pT,a,b,pd];simp at this⊢;omega
    have f:(c<m+1)=(c<m):=oT;simp only[f];cases hp:P m with
    | false=>simp only[pT,hp,pd];simp only[pg,if_false,nT];omega
    | true=>have g:=h m oM hp;simp only[pT,hp,g,pd];simp only[if_true,nQ,nT];omega
 have:=l n lR;rw[mE d]at this;omega
def Bo(E:Nat->List Nat)(n b:Nat):List Nat:=(List.range n).flatMap λp=>((E p).filter λx=>decide (x=b)).map λ_=>p
def AP(E:Nat->List Nat)(D:Nat->Nat->Bool)(n h:Nat):List Nat:=(List.range n).flatMap λp=>((E p).filter λx=>decide (x=h)&&D h p).map λ_=>p
theorem CS(E:Nat->List Nat)(n b p:Nat):p∈Bo E n b↔p<n/\b∈E p:=by
 simp only[Bo,oK,nN,mV,oP,mo];constructor
 . rintro⟨q,a,x,⟨c,rfl⟩,rfl⟩;exact⟨a,c⟩
 rintro⟨a,c⟩;exact⟨p,a,b,⟨c,rfl⟩,rfl⟩
theorem Ho(E:Nat->List Nat)(n b:Nat):Ko E n b (Bo E n b):=CS E n b
theorem Db(E:Nat->List Nat)(D:Nat->Nat->Bool)(n h p:Nat):p∈AP E D n h↔p<n/\h∈E p/\D h p=true:=by
 simp only[AP,oK,nN,mV,oP,mu,mo];constructor
 . rintro⟨q,a,x,⟨b,rfl,c⟩,rfl⟩;exact⟨a,b,c⟩
 rintro⟨a,b,c⟩;exact⟨p,a,h,⟨b,rfl,c⟩,rfl⟩
def AW(E:Nat->List Nat)(D:Nat->Nat->Bool)(n h x:Nat):Prop:=x=h\/∃t∈AP E D n h,DA (Bo E n) (· ≠h) t x
structure Gc(E:Nat->List Nat)(n:Nat)(bad:Nat->Nat->Prop)(b k x:Nat):Prop where
 lt:b<n
 at_:(E b)[k]?=K x
 is:bad b x
 less:∀b' k' x',b'<n->(E b')[k']?=K x'->b'<b\/(b'=b/\k'<k)->¬bad b' x'
theorem Gc.one{E:Nat->List Nat}{n:Nat}{bad:Nat->Nat->Prop}{b k x f c d:Nat}(h:Gc E n bad b k x)(a:Gc E n bad f c d):x=d:=by
 by_cases e:b=f
 . subst e;by_cases g:k=c
   . subst g;have j:=h.at_;rw[a.at_]at j;exact(mD j).symm
   rcases Nat.lt_or_gt_of_ne g with q|q
   . exact absurd h.is (a.less b k x h.lt h.at_ (.inr ⟨rfl,q⟩))
   exact absurd a.is (h.less b c d a.lt a.at_ (.inr ⟨rfl,q⟩))
 rcases Nat.lt_or_gt_of_ne e with q|q
 . exact absurd h.is (a.less b k x h.lt h.at_ (.inl q))
 exact absurd a.is (h.less f c d a.lt a.at_ (.inl q))
def MX(O:List Nat)(D:Nat->Nat->Bool)(b x:Nat):Prop:=DY O x<=DY O b/\¬D x b=true
theorem JF(h:q:=by go_enter func131,ntmps131;go_wp2;go_ret;exact⟨rfl,(mP _ _).alloc lR _⟩):q:=h
theorem CA(x:MI)(w:Y):Ai Aq 131 #[.agg #[x.op,x.a,x.b,x.c]] w λe l=>e=Am (Bt x)/\Ah w w l:=by
 by_cases d:x.op=25
 . (have e:Bt x=true:=by simp[Bt,d]);rw[e,d];exact JF
 by_cases f:x.op=26
 . (have e:Bt x=true:=by simp[Bt,f]);rw[e,f];exact JF
 by_cases g:x.op=27
 . (have e:Bt x=true:=by simp[Bt,g]);rw[e,g];exact JF
 have e:Bt x=false:=by simp[Bt,d,f,g]
 have h:(x.op==25)=false:=by simpa using d
 have j:(x.op==26)=false:=by simpa using f
 have k:(x.op==27)=false:=by simpa using g
 rw[e];generalize x.op=op at d f g h j k;exact JF
theorem MV(h:q:=by go_enter func22,ntmps22;go_wp2;go_ret;exact⟨rfl,(mP _ _).alloc lR _⟩):q:=h
theorem LZ(x:MI)(w:Y):Ai Aq 22 #[.agg #[x.op,x.a,x.b,x.c]] w λe j=>e=Am (IY x)/\Ah w w j:=by
 by_cases d:x.op=25
 . (have e:IY x=false:=by simp[IY,d]);rw[e,d];exact MV
 by_cases f:x.op=29
 . (have e:IY x=false:=by simp[IY,f]);rw[e,f];exact MV
 have e:IY x=true:=by simp[IY,d,f]
 have g:(x.op != 25)=true:=by simpa using d
 have h:(x.op != 29)=true:=by simpa using f
 rw[e];generalize x.op=op at d f g h;exact MV
theorem MW(h:q:=by rw[e];go_enter func48,ntmps48;go_wp2;go_ret;exact⟨rfl,rfl⟩):q:=h
theorem Oc(z:Int)(c:Nat)(w:Y)(f:(c:Int)<=1048576):Ai Aq 48 #[z,c] w λe d=>e=Am (.bool (decide (0<=z/\z<(c:Int))))/\d=w:=by
 by_cases a:0<=z
 . by_cases b:z<(c:Int)
   . have e:decide (0<=z/\z<(c:Int))=true:=by simp[a,b]
     exact MW
   have e:decide (0<=z/\z<(c:Int))=false:=by simp[a,b]
   exact MW
 have e:decide (0<=z/\z<(c:Int))=false:=by simp[a]
 exact MW
theorem EX:Go.Maps.Keyed Aq 2:=Go.Maps.int_keyed underlying2
def AQ(w:Y)(b a:Nat)(D:DataW Unit):Prop:=w.ownsMap Aq 2 (unitElem (H:=Unit)) b a D
theorem Da(b a g c:Nat)(D:DataW Unit)(z:Int)(w:Y)(p:Fa z)(s:a<=1048576)(r:w g=K ↑z)(t:¬g=b)(h:AQ w b a D):
 Ai Aq 59 #[.map (K b),Z g 1 c] w λe l=>e=Am (.tuple #[])/\AQ l b (a+1) (D.put (.int Af z) (.agg []))/\w.grownBy l (K b):=by
 have H:Ae (AQ w b a D):=h;clear h;go_enter func59,ntmps59;go_wp2;go_loopw [8] (λi wr=>∃k:Nat,k<=1/\i=.int Af k/\((k=0/\wr=w)\/(k=1/\Ae (AQ wr b (a+1) (D.put (.int Af z) (.agg []))/\w.grownBy wr (K b))))) (λi _=>1-(intOf i).toNat)
 case atStart=>exact⟨0,oM,rfl,.inl ⟨rfl,rfl⟩⟩
 obtain⟨k,u,rfl,n⟩:=hrel;rcases n with⟨rfl,rfl⟩|⟨rfl,d⟩
 . rw[show((0:Nat):Int)=0 from rfl];go_wp2_with (at_mapUpdate;refine wpList_mapUpdate_own _ rfl _ _ _ 164 rfl 2 89 EX underlying164 (unitElem (H:=Unit)) b a D rfl H oX _ _ _ rfl rfl (og underlying2 p) _ [] unitElem_mk ?_;intro q j f);have m:Ae (AQ q b (a+1) (D.put (.int Af z) (.agg []))/\_):=⟨j,f⟩
   clear j f;go_wp2;go_roundw;(case rel=>exact⟨1,oM,by go_num,.inr ⟨rfl,m⟩⟩);simp[intOf]
 rw[show((1:Nat):Int)=1 from rfl];go_wp2;go_end0;exact⟨rfl,d.1,d.2⟩
theorem Rv(g cap:Nat)(zs:List Int)(w:World)(hH:Go.Sort.Holds (Value.int .i64) w g 0 zs.toArray)(hb:g<w.heap.size)(hl:zs.length<4611686018427387904):
 Calls Tryz.prog 64 #[.slice (some ⟨g,0,none⟩) zs.length cap] w λe w'=>e=.returned (.tuple #[])/\∃n os,w'=Go.Sort.grow (Go.Sort.putRow (Value.int .i64) (Go.Sort.ahead w n) g 0 (zs.mergeSort λx y=>decide (x<=y)).toArray) os:=by
 have h:=AnyG.slices_Sort_int Tryz.lSort g 0 cap zs w hH hb hl;exact h
end Go.Proofs.YtkgohaigebcgoaaGreatDoor
