/- DrawRow: a slice of bytes that came in is a code. -/
import Derived.Test.YtkblcoiiloiohaaDoorDraw3
namespace Go.Proofs.YtkblcoiiloiohaaDoor
open Go.ChangeShapes Go.WideShapes Go.ChangeAt Go.RowKit
set_option linter.unusedVariables false
theorem codeAt_of_row {w : World} {a : Option Addr} {len cap : Nat} {zs : List Int}
    (h : (a = none ∧ len = 0 ∧ cap = 0 ∧ zs = []) ∨ ∃ x, a = some x ∧ len ≤ cap ∧ cap ≤ maxLen ∧ zs.length = cap ∧ (∀ i, i < zs.length → w.cell? (x.add i) = some (.int .u8 (zs.getD i 0))) ∧ ∀ n ∈ zs, (Lit.int .u8 n).wf = true) :
    CodeAt w w.heap.size a len := by
  rcases h with ⟨_, h, _⟩ | ⟨x, rfl, h1, h2, h3, h4, h5⟩
  · exact .inl h
  · by_cases h0 : len = 0
    · exact .inl h0
    · obtain ⟨b, off, spot⟩ := x
      have hspot : spot = none := by simpa [Addr.add] using World.cell?_spot (h4 0 (by omega))
      subst hspot
      have hadd : ∀ i, (⟨b, off, none⟩ : Addr).add i = ⟨b, off + i, none⟩ := fun i => by unfold Addr.add; split <;> simp_all
      refine .inr ⟨b, off, rfl, ?_, fun i hi => ?_⟩
      · have := h4 0 (by omega)
        rw [hadd] at this
        exact block_lt_of_cell this
      · have hc := h4 i (by omega)
        rw [hadd] at hc
        refine ⟨_, ?_, ?_, hc⟩
        all_goals
          have hw := h5 (zs.getD i 0) (by
            rw [List.getD_eq_getElem?_getD, List.getElem?_eq_getElem (show i < zs.length by omega)]
            exact List.getElem_mem _)
          have hb : 0 ≤ zs.getD i 0 ∧ zs.getD i 0 ≤ 255 := by simpa [Lit.wf, IntKind.min, IntKind.max, IntKind.signed, IntKind.bits] using hw
          omega
theorem hstep {w0 w1 w2 : World} (H : Hid (Below w0.heap.size w0 w1)) (h : Below w1.heap.size w1 w2) : Hid (Below w0.heap.size w0 w2) := H.out.trans (h.mono H.out.size)
end Go.Proofs.YtkblcoiiloiohaaDoor
