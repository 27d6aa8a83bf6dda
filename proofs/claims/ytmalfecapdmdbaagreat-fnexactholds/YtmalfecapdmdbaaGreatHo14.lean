import Derived.Test.YtmalfecapdmdbaaGreatHo12
import Derived.Deep.RegionHeld3
namespace Go.Proofs.YtmalfecapdmdbaaGreat
open Go.ChangeShapes Go.WideShapes Go.ChangeAt Go.RowKit
set_option linter.unusedVariables false
open Go.Value renaming slice → Z
open Option renaming some → K,none → M
open Go renaming Value → J,World → Y,TypeId → Aj
open Go.RowKit renaming Below → Ah
open Go.Obj renaming cells → Ak
open Go.World renaming setCell → Aa,ownsRow → Ab,alloc → Ac
variable {w u:Y}{p r o:List J}
structure TM(k:Nat)(w u:Y)(tp tr:Aj)(p r o:List J):Prop where
 par:Ab u w tp k (Z w 1 1) 1 p
 gU:Ab u w tr k (Z (K ⟨(w:Nat)+1,0,M⟩) 1 1) 1 r
 loc:Ab u w tr k (Z (K ⟨(w:Nat)+1+1,0,M⟩) 1 1) 1 o
 e8:Ah w w u
 ik:(w:Nat)+3<= ↑u
theorem TM.of(k:Nat)(w:Y)(a b:Aj)(p r o:Array J)(i:p.size=k)(j:r.size=k)(h:o.size=k):
 TM k w (Ac (Ac (Ac w (Ak p a)) (Ak r b)) (Ak o b)) a b p.toList r.toList o.toList:=by
 have c:Ah w w (Ac w (Ak p a)):=(kS _ _).alloc lR _;have c2:Ah (Ac w (Ak p a)).heap.size (Ac w (Ak p a)) (Ac (Ac w (Ak p a)) (Ak r b)):=(kS _ _).alloc lR _;have c3:Ah (Ac (Ac w (Ak p a)) (Ak r b)).heap.size (Ac (Ac w (Ak p a)) (Ak r b)) (Ac (Ac (Ac w (Ak p a)) (Ak r b)) (Ak o b)):=(kS _ _).alloc lR _;have d:=mj (base:=w) (e:=a) (size:=k) w p 1 lR oX oM;have f:=mj (base:=w) (e:=b) (size:=k) (Ac w (Ak p a)) r 1 sP oX oM;have g:=mj (base:=w) (e:=b) (size:=k) (Ac (Ac w (Ak p a)) (Ak r b)) o 1 (by simp<;>omega) oX oM;refine⟨Aw (Aw d c2 lR) c3 lR,?_,?_,(c.trans (c2.mono sP)).trans (c3.mono (by simp<;>omega)),by simp<;>omega⟩
 . have:=Aw f c3 lR;simpa using this
 simpa using g
theorem TM.a7{k:Nat}{d:Y}{b c:Aj}(h:TM k w u b c p r o)(a:Ah u u d):TM k w d b c p r o:=⟨Aw h.par a lR,Aw h.gU a lR,Aw h.loc a lR,h.e8.trans (a.mono (by have:=h.ik;omega)),kV h.ik a.size⟩
theorem TM.set{k:Nat}{a b:Aj}(h:TM k w u a b p r o)(j:Nat)(x:J):TM k w (Aa u ⟨(w:Nat)+1+1,j,M⟩ x) a b p r (o.set j x):=⟨kN h.par (by simp[Value.ownBlock]<;>omega) x,kN h.gU (by simp[Value.ownBlock]) x,(h.loc.stored j x).1,h.e8.setCell (by simp<;>omega) x,by have:=h.ik;simpa using this⟩
theorem TM.iK{k:Nat}{a b:Aj}(h:TM k w u a b p r o)(j:Nat)(x:J):TM k w (Aa u ⟨(w:Nat)+1,j,M⟩ x) a b p (r.set j x) o:=⟨kN h.par (by simp[Value.ownBlock]<;>omega) x,(h.gU.stored j x).1,kN h.loc (by simp[Value.ownBlock]) x,h.e8.setCell sP x,by have:=h.ik;simpa using this⟩
structure VL where
 b:J
 k:J
def Mj(w:Y)(v:VL)(m:ML):Prop:=TP w (m,v.b,v.k)
def ML.small(m:ML):Prop:=m.back.length<=1048576/\m.a8.length<=1048576
def ML.fits(m:ML):Prop:=m.back.length<=9223372036854775807/\m.a8.length<=9223372036854775807
def ML.wf(m:ML):Prop:=Dg m.head
theorem Mj.a7{c:Y}{v:VL}{m:ML}(h:Mj w v m){B:Nat}(b:Ah B w c)(a: ↑w<=B):Mj c v m:=⟨Rd.a7 h.1 b a,Rd.a7 h.2 b a⟩
end Go.Proofs.YtmalfecapdmdbaaGreat
