/- Enc0: rows of bytes that grow beside rows of other types: told apart by their blocks' types. -/
import Derived.Test.YtmhggeljphfjfaaGreatDoorSame9
import Derived.Test.YtmhggeljphfjfaaGreatDoorSPutNumber
namespace Go.Proofs.YtmhggeljphfjfaaGreatDoor
open Go.ChangeShapes Go.WideShapes Go.ChangeAt Go.RowKit
set_option linter.unusedVariables false
/-- The row of bytes 'v' alone has been written on, or new blocks were made. -/
theorem own_grown {w w' : World} {base B : Nat} {e e' : TypeId} {s v : Value} {k k' n m : Nat} {xs bs : List Value} (h : w.ownsRow base e k s n xs) (hg : w.grownBy w' v.ownBlock) (ho : w.ownsRow B e' k' v m bs) (hne : e ≠ e') : w'.ownsRow base e k s n xs := by
  refine ⟨h.1, ?_⟩
  rcases h.2 with h | ⟨g, cap, cur, e1, hb1, hgg, hr⟩
  · exact .inl h
  · refine .inr ⟨g, cap, cur, e1, hb1, ?_, hr⟩
    rw [hg.block g (Array.getElem?_eq_some_iff.1 hgg).1 ?_]
    · exact hgg
    · intro hv
      rcases ho.2 with ⟨rfl, _⟩ | ⟨g', cap', cur', rfl, _, hg', _⟩
      · cases hv
      · simp only [Value.ownBlock, Option.some.injEq] at hv
        subst hv
        rw [hgg] at hg'
        simp only [Option.some.injEq, Obj.cells.injEq] at hg'
        exact hne hg'.2.1
theorem OwnF.grown {w w' : World} {base B : Nat} {v : VF} {f : MF} {e' : TypeId} {b : Value} {k' m : Nat} {bs : List Value} (h : OwnF w base v f) (hg : w.grownBy w' b.ownBlock) (ho : w.ownsRow B e' k' b m bs) (h1 : 2 ≠ e') (h2 : 64 ≠ e') : OwnF w' base v f := ⟨own_grown h.1 hg ho h1, own_grown h.2.1 hg ho h1, own_grown h.2.2 hg ho h2⟩
theorem OwnFs.grown {w w' : World} {base B : Nat} {s : Value} {fs : List MF} {b : Value} {k' m : Nat} {bs : List Value} (h : OwnFs w base s fs) (hg : w.grownBy w' b.ownBlock) (ho : w.ownsRow B 5 k' b m bs) : OwnFs w' base s fs := by
  obtain ⟨xs, h1, h2, h3⟩ := h
  exact ⟨xs, h1, own_grown h2 hg ho (by decide), fun x hx => (h3 x hx).grown hg ho (by decide) (by decide)⟩
theorem OwnR.grown {w w' : World} {base B : Nat} {s : Value} {rs : List (List Int)} {b : Value} {k' m : Nat} {bs : List Value} (h : OwnR w base s rs) (hg : w.grownBy w' b.ownBlock) (ho : w.ownsRow B 5 k' b m bs) : OwnR w' base s rs := by
  obtain ⟨xs, h1, h2, h3⟩ := h
  exact ⟨xs, h1, own_grown h2 hg ho (by decide), fun x hx => own_grown (h3 x hx) hg ho (by decide)⟩
theorem OwnP.grown {w w' : World} {base B : Nat} {v : VP} {p : MP} {b : Value} {k' m : Nat} {bs : List Value} (h : OwnP w base v p) (hg : w.grownBy w' b.ownBlock) (ho : w.ownsRow B 5 k' b m bs) : OwnP w' base v p :=
  ⟨h.regions.grown hg ho, own_grown h.consts hg ho (by decide), h.funcs.grown hg ho, own_grown h.certs hg ho (by decide)⟩
/-- What Below tells, as growth beside a row. -/
theorem grown_of_below {w w' : World} (h : Below w.heap.size w w') (row : Option Nat) : w.grownBy w' row := ⟨h.os, h.tape, h.output, h.size, fun k hk _ => h.block k hk⟩
/-- The bytes of a list of numbers, n each. -/
def numsL (n : Nat) (ys : List Int) : List Value := ys.flatMap fun y => numL y n
theorem numsL_length (n : Nat) (ys : List Int) : (numsL n ys).length = ys.length * n := flat_length (fun y => numL y n) n (fun y => numL_length y n) ys
theorem numsL_next (n : Nat) (ys : List Int) (k : Nat) (x : Int) (h : ys[k]? = some x) : numsL n (ys.take (k + 1)) = numsL n (ys.take k) ++ numL x n := by
  obtain ⟨hlt, rfl⟩ := List.getElem?_eq_some_iff.1 h
  unfold numsL
  rw [List.take_succ_eq_append_getElem hlt, List.flatMap_append]
  simp
theorem numL_oneCell (v : Int) (n : Nat) : ∀ u ∈ numL v n, u.oneCell' = true := by
  intro u hu
  unfold numL at hu
  obtain ⟨i, _, rfl⟩ := List.mem_map.1 hu
  rfl
end Go.Proofs.YtmhggeljphfjfaaGreatDoor
