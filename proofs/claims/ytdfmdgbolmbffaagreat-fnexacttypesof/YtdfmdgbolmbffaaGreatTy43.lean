import Derived.Test.YtdfmdgbolmbffaaGreatTy27
import Derived.Test.YtdfmdgbolmbffaaGreatTy6
import Derived.Test.YtdfmdgbolmbffaaGreatTy15
import Derived.Test.YtdfmdgbolmbffaaGreatTy31
import Derived.Test.YtdfmdgbolmbffaaGreatTy3
namespace Go.Proofs.YtdfmdgbolmbffaaGreat
open Go.ChangeShapes Go.WideShapes Go.ChangeAt Go.RowKit
set_option linter.unusedVariables false
end Go.Proofs.YtdfmdgbolmbffaaGreat
namespace Go.Proofs.YtdfmdgbolmbffaaGreat
open Go.ChangeShapes Go.WideShapes Go.ChangeAt Go.RowKit
set_option linter.unusedVariables false
theorem blk3{w:World}{b:Nat}{t:TypeId}{a0 a1 a2:Value}(h:Blk w b #[a0,a1,a2] t):w.cell? ⟨b,0,none⟩=some a0/\w.cell? ⟨b,1,none⟩=some a1/\w.cell? ⟨b,2,none⟩=some a2:=⟨h.cell 0,h.cell 1,h.cell 2⟩
theorem two_new(w:World)(A B:Array Value)(s t:TypeId):Blk ((w.alloc (.cells A s)).alloc (.cells B t)) w.heap.size A s/\Blk ((w.alloc (.cells A s)).alloc (.cells B t)) (w.heap.size+1) B t/\Below w.heap.size w ((w.alloc (.cells A s)).alloc (.cells B t)):=by
  have b1:=below_alloc w (.cells A s)
  have b2:=below_alloc (w.alloc (.cells A s)) (.cells B t)
  refine⟨(Blk.new w _ _).keep b2,?_,below_on b1 (Nat.le_refl _) b2⟩
  have k2:=Blk.new (w.alloc (.cells A s)) B t
  have e1:(w.alloc (.cells A s)).heap.size=w.heap.size+1:=by simp
  rw[e1]at k2
  exact k2
end Go.Proofs.YtdfmdgbolmbffaaGreat
