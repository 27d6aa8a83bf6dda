import Derived.Test.YtjpobijiblcgaaaGreatFw22
import Derived.Test.YtjpobijiblcgaaaGreatFw1
import Derived.Test.YtjpobijiblcgaaaGreatFw0
namespace Go.Proofs.YtjpobijiblcgaaaGreat
open Go.ChangeShapes Go.WideShapes Go.ChangeAt Go.RowKit
set_option linter.unusedVariables false
def El(p:MP)(x:MI):Int:=match p.regions[x.a.toNat]? with|some r=>(r[x.b.toNat]?).getD 0|none=>0
def BS(f:MF):List Int:=if f.result=0 then[]else[f.result]
def Aw(p:MP)(f:MF)(x:MI):List Int:=
 if x.op=3 then[AS f x.a]else if x.op=5 then[El p x]else if x.op=6 then[3]else if x.op=7 then[3,El p x]
 else if(8<=x.op/\x.op<=15)\/x.op=20\/x.op=21 then[x.a,x.a]else if x.op=16\/x.op=22 then[x.a]
 else if x.op=17\/x.op=18 then[3,3]else if x.op=19 then[2]else if x.op=23\/x.op=24 then[0]else if x.op=26 then[1]
 else if x.op=28 then(match p.funcs[x.a.toNat]? with|some g=>g.params|none=>[])else[]
def Rx(l:List MC)(i:Nat):MC:=(l[i]?).getD ⟨0,0⟩
def Ay(p:MP)(f:MF)(x:MI):List Int:=
 if x.op=1 then[(Rx p.consts x.a.toNat).type]else if x.op=2 then[AS f x.a]else if x.op=4\/x.op=6 then[El p x]
 else if 8<=x.op/\x.op<=16 then[x.a]else if x.op=17\/x.op=18 then[3]else if x.op=19 then[2]else if x.op=20\/x.op=21 then[1]
 else if x.op=22 then[x.b]else if x.op=23 then[0,0]else if x.op=28 then(match p.funcs[x.a.toNat]? with|some g=>BS g|none=>[])else[]
def Ia(f:MF):List Int:=(f.code.filter fun x=>decide (x.op=28)).map MI.a
def D8(fs:List MF)(done:List Int)(i:Nat):Bool:= !done.contains (i:Int)&&match fs[i]? with|some f=>(Ia f).all fun a=>done.contains a|none=>false
def IG(fs:List MF)(done:List Int):Option Nat:=(List.range fs.length).find? (D8 fs done)
def Fi(fs:List MF):Nat->List Int->List Int
 |0,done=>done
 |k+1,done=>match IG fs done with|some i=>Fi fs k (done++[(i:Int)])|none=>[]
def Gu(fs:List MF):List Int:=Fi fs fs.length []
theorem Lc{fs:List MF}{done:List Int}{i:Nat}(h1:i<fs.length)(h2:D8 fs done i=true)(h3:∀j,j<i->D8 fs done j=false):IG fs done=some i:=by
 unfold IG;rw[List.find?_eq_some_iff_append];refine⟨h2,(List.range i),(List.range' (i+1) (fs.length-i-1)),?_,fun a ha=> ?_⟩
 . rw[List.range_eq_range',List.range_eq_range',show fs.length=i+(1+(fs.length-i-1))by omega,<-List.range'_append_1,<-List.range'_append_1]
   simp
 . rw[h3 a (by simpa using ha)]
   rfl
theorem Lb{fs:List MF}{done:List Int}(h:∀j,j<fs.length->D8 fs done j=false):IG fs done=none:=by
 unfold IG;rw[List.find?_eq_none];intro a ha;rw[h a (by simpa using ha)];exact dV
theorem Oo{p:MP}(h:DJ p){i:Nat}{f:MF}(hf:p.funcs[i]?=some f){a:Int}(ha:a∈Ia f):0<=a/\a<(p.funcs.length:Int):=by
 unfold Ia at ha;obtain⟨x,hx,rfl⟩:=bJ.1 ha;obtain⟨hx1,hx2⟩:=db.1 hx;simp only[dI]at hx2;obtain⟨k,hk⟩:=cH hx1;have hi:=h i (aD.1 hf).1 f hf k (aD.1 hk).1 x hk;obtain⟨_,_,h3⟩:=hi;have e:AR x.op=11:=by rw[hx2];rfl
 rw[e]at h3;unfold Ce at h3;simp[Cx]at h3;exact⟨h3.1,h3.2.1⟩
def Jn:List Int->List Int->Bool
 |[],[]=>true
 |s::ss,t::ts=>(t==0||s==t)&&Jn ss ts
 |_,_=>false
theorem Jo{a b:List Int}(hl:a.length=b.length):Jn a b=true↔∀(i:Nat) s t,a[i]?=some s->b[i]?=some t->t=0\/s=t:=by
 induction a generalizing b with
 | nil=>
   cases b with
   |nil=>simp[Jn]
   |cons _ _=>simp at hl
 | cons v r ih=>
   cases b with
   |nil=>simp at hl
   | cons t q=>
     simp only[Jn,du,Bool.or_eq_true,beq_iff_eq];rw[ih (by simpa using hl)];constructor
     . rintro⟨h1,h2⟩ i s u hs hu
       cases i with
       |zero=>simp only[aM,aJ]at hs hu;subst hs hu;exact h1
       |succ i=>simp only[aQ]at hs hu;exact h2 i s u hs hu
     . intro h
       exact⟨h 0 v t rfl rfl,fun i s u hs hu=>h (i+1) s u (by simpa using hs) (by simpa using hu)⟩
def OP(p:MP)(f:MF)(x:MI)(sh:List Int):Nat:=sh.length-(Aw p f x).length
def Hk(p:MP)(f:MF)(x:MI)(sh:List Int):List Int:=sh.take (OP p f x sh)++(Ay p f x).map fun t=>if t=0 then(sh[OP p f x sh]?).getD 0 else t
def CL(p:MP)(f:MF)(x:MI)(sh:List Int):Int:=
 if sh.length<(Aw p f x).length then 1
 else if Jn (sh.drop (OP p f x sh)) (Aw p f x)=false\/(x.op=27/\AS f x.a≠3)then 2
 else if 64<(Hk p f x sh).length then 3 else 0
end Go.Proofs.YtjpobijiblcgaaaGreat
