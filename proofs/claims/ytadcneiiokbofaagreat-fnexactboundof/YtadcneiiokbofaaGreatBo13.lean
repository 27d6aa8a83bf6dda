import Derived.Test.YtadcneiiokbofaaGreatBo11
import Derived.Deep.RegionHeld3
import Derived.Test.YtadcneiiokbofaaGreatBo3
namespace Go.Proofs.YtadcneiiokbofaaGreat
open Go.ChangeShapes Go.WideShapes Go.ChangeAt Go.RowKit
set_option linter.unusedVariables false
open Go.Value renaming slice → Z
open Option renaming some → K,none → M
open Go renaming Value → J,World → Y,TypeId → Aj
open Go.RowKit renaming Below → Ah
open Go.Obj renaming cells → Ak
open Go.World renaming setCell → Aa,ownsRow → Ab,alloc → Ac
variable {w u:Y}{p r o:List J}{xs:List MI}{base:Nat}{V:J}{F:List (MB×J)}
structure UC(k:Nat)(w u:Y)(tp tr:Aj)(p r o:List J):Prop where
 par:Ab u w tp k (Z w 1 1) 1 p
 ik:Ab u w tr k (Z (K ⟨(w:Nat)+1,0,M⟩) 1 1) 1 r
 loc:Ab u w tr k (Z (K ⟨(w:Nat)+1+1,0,M⟩) 1 1) 1 o
 ej:Ah w w u
 iB:(w:Nat)+3<= ↑u
theorem UC.of(k:Nat)(w:Y)(a b:Aj)(p r o:Array J)(i:p.size=k)(j:r.size=k)(h:o.size=k):
 UC k w (Ac (Ac (Ac w (Ak p a)) (Ak r b)) (Ak o b)) a b p.toList r.toList o.toList:=by
 have c:Ah w w (Ac w (Ak p a)):=(lu _ _).alloc lR _;have c2:Ah (Ac w (Ak p a)).heap.size (Ac w (Ak p a)) (Ac (Ac w (Ak p a)) (Ak r b)):=(lu _ _).alloc lR _;have c3:Ah (Ac (Ac w (Ak p a)) (Ak r b)).heap.size (Ac (Ac w (Ak p a)) (Ak r b)) (Ac (Ac (Ac w (Ak p a)) (Ak r b)) (Ak o b)):=(lu _ _).alloc lR _;have d:=nT (base:=w) (e:=a) (size:=k) w p 1 lR oX oM;have f:=nT (base:=w) (e:=b) (size:=k) (Ac w (Ak p a)) r 1 sP oX oM;have g:=nT (base:=w) (e:=b) (size:=k) (Ac (Ac w (Ak p a)) (Ak r b)) o 1 (by simp<;>omega) oX oM;refine⟨Aw (Aw d c2 lR) c3 lR,?_,?_,(c.trans (c2.mono sP)).trans (c3.mono (by simp<;>omega)),by simp<;>omega⟩
 . have:=Aw f c3 lR;simpa using this
 simpa using g
theorem UC.a7{k:Nat}{d:Y}{b c:Aj}(h:UC k w u b c p r o)(a:Ah u u d):UC k w d b c p r o:=⟨Aw h.par a lR,Aw h.ik a lR,Aw h.loc a lR,h.ej.trans (a.mono (by have:=h.iB;omega)),lQ h.iB a.size⟩
theorem UC.set{k:Nat}{a b:Aj}(h:UC k w u a b p r o)(j:Nat)(x:J):UC k w (Aa u ⟨(w:Nat)+1+1,j,M⟩ x) a b p r (o.set j x):=⟨lI h.par (by simp[Value.ownBlock]<;>omega) x,lI h.ik (by simp[Value.ownBlock]) x,(h.loc.stored j x).1,h.ej.setCell (by simp<;>omega) x,by have:=h.iB;simpa using this⟩
theorem UC.iU{k:Nat}{a b:Aj}(h:UC k w u a b p r o)(j:Nat)(x:J):UC k w (Aa u ⟨(w:Nat)+1,j,M⟩ x) a b p (r.set j x) o:=⟨lI h.par (by simp[Value.ownBlock]<;>omega) x,(h.ik.stored j x).1,lI h.loc (by simp[Value.ownBlock]) x,h.ej.setCell sP x,by have:=h.iB;simpa using this⟩
structure VL where
 b:J
 k:J
def MK(w:Y)(v:VL)(m:ML):Prop:=UH w (m,v.b,v.k)
def ML.small(m:ML):Prop:=m.back.length<=1048576/\m.a8.length<=1048576
def ML.fits(m:ML):Prop:=m.back.length<=9223372036854775807/\m.a8.length<=9223372036854775807
def ML.wf(m:ML):Prop:=Dv m.head
theorem MK.a7{c:Y}{v:VL}{m:ML}(h:MK w v m){B:Nat}(b:Ah B w c)(a: ↑w<=B):MK c v m:=⟨Rd.a7 h.1 b a,Rd.a7 h.2 b a⟩
def Pv(xs:List MI)(a:List MB):Prop:=(¬AZ xs/\a=[])\/AZ xs/\a=AL xs
theorem Pv.one{c d:List MB}(h:Pv xs c)(e:Pv xs d):c=d:=by
 rcases h with⟨a,rfl⟩|⟨a,rfl⟩<;>rcases e with⟨b,rfl⟩|⟨b,rfl⟩
 . rfl
 . exact absurd b a
 . exact absurd a b
 rfl
theorem Pv.small{b:List MB}(h:Pv xs b):b.length<=1048576/\∀f∈b,f.small:=by
 rcases h with⟨c,rfl⟩|⟨c,rfl⟩
 . exact⟨sP, λf a=>(by cases a)⟩
 refine⟨?_,?_⟩
 . unfold AL;rw[mD,BW];have:=nP (BL xs xs) (List.range xs);have d:=c.2.1;simp only[m8]at this;exact lQ this oM
 intro f a;unfold AL at a;obtain⟨m,_,rfl⟩:=mG.1 a;show(Fb xs m).next.length<=1048576;simp only[Fb,Ea];split<;>split<;>simp
theorem Hg.rd(h:Hg w base V F):I4 w V (F.map Prod.fst):=by refine⟨F,rfl,?_, λx a=>Rd.ij (h.io.own (x.2,x.1.next) (by unfold DK;exact oe (f:= λx=>(x.2,x.1.next)) a))⟩;rw[mD];exact Rd.ij h.row
theorem Hg.a7{w b:Y}(h:Hg w base V F)(a:Ah w w b):Hg b base V F:=⟨Aw h.row a lR,h.io.a7 a⟩
end Go.Proofs.YtadcneiiokbofaaGreat
