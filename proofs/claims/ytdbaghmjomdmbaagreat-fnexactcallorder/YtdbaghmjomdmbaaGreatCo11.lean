import Derived.Test.YtdbaghmjomdmbaaGreatCo10
namespace Go.Proofs.YtdbaghmjomdmbaaGreat
open Go.ChangeShapes Go.WideShapes Go.ChangeAt Go.RowKit
set_option linter.unusedVariables false
/-- The type of a local; 0: there is none. -/
def localOf (f : MF) (k : Int) : Int := if k < 0 then 0 else (f.params ++ f.locals).getD k.toNat 0
theorem localOf_neg {f : MF} {k : Int} (h : k < 0) : localOf f k = 0 := if_pos h
theorem localOf_par {f : MF} {k : Nat} {x : Int} (h : f.params[k]? = some x) : localOf f k = x := by
  obtain ⟨hlt, rfl⟩ := List.getElem?_eq_some_iff.1 h
  unfold localOf
  rw [if_neg (by omega), List.getD_eq_getElem?_getD, Int.toNat_natCast, List.getElem?_append_left hlt, List.getElem?_eq_getElem hlt]
  rfl
theorem localOf_loc {f : MF} {k : Nat} {x : Int} (h : f.locals[k]? = some x) : localOf f ((f.params.length : Int) + k) = x := by
  obtain ⟨hlt, rfl⟩ := List.getElem?_eq_some_iff.1 h
  unfold localOf
  have e : ((f.params.length : Int) + k).toNat = f.params.length + k := by omega
  rw [if_neg (by omega), List.getD_eq_getElem?_getD, e, List.getElem?_append_right (by omega), Nat.add_sub_cancel_left, List.getElem?_eq_getElem hlt]
  rfl
theorem localOf_out {f : MF} {k : Int} (h : (f.params.length : Int) + f.locals.length ≤ k) : localOf f k = 0 := by
  unfold localOf
  rw [if_neg (by omega), List.getD_eq_getElem?_getD, List.getElem?_eq_none (by rw [List.length_append]; omega)]
  rfl
set_option maxHeartbeats 2000000 in
set_option maxRecDepth 100000 in
theorem l3Local_any (v : VF) (f : MF) (k : Int) (w : World) (hs : f.small) (hk : W64 k) (h : RdF w v f) :
    Calls Tryz.prog 58 #[.agg #[v.p, .int .i64 f.result, v.l, v.c], .int .i64 k] w fun e w' => e = .returned (.int .i64 (localOf f k)) ∧ Below w.heap.size w w' := by
  have hk' : -9223372036854775808 ≤ k ∧ k ≤ 9223372036854775807 := by simpa [W64, Lit.wf, IntKind.min, IntKind.max, IntKind.signed, IntKind.bits] using hk
  obtain ⟨k0, k1⟩ := hk'
  obtain ⟨s1, s2, s3⟩ := hs
  have H1 : Hid (RdF w v f) := h
  obtain ⟨a1, c1, e1⟩ := h.1.is_slice
  obtain ⟨a2, c2, e2⟩ := h.2.1.is_slice
  obtain ⟨vp, vl, vc⟩ := v
  simp only [] at e1 e2
  subst e1
  subst e2
  clear h hk s3
  have F0 := Fr1.of w 50 #[.slice a1 f.params.length c1, .int .i64 f.result, .slice a2 f.locals.length c2, vc] rfl
  have HB : Hid _ := F0.bel
  clear F0
  generalize hn1 : f.params.length = n1 at *
  generalize hn2 : f.locals.length = n2 at *
  have HN : Hid (f.params.length = n1 ∧ f.locals.length = n2) := ⟨hn1, hn2⟩
  clear hn1 hn2
  by_cases q0 : k < 0
  · rw [localOf_neg q0]
    go_enter Tryz.func58, Tryz.ntmps58
    go_wp2
    go_ret
    exact ⟨rfl, HB.out⟩
  · obtain ⟨j, rfl⟩ := Int.eq_ofNat_of_zero_le (show 0 ≤ k by omega)
    by_cases q1 : j < n1
    · obtain ⟨x, hx⟩ : ∃ x, f.params[j]? = some x := ⟨_, List.getElem?_eq_getElem (by rw [HN.out.1]; exact q1)⟩
      rw [localOf_par hx]
      rcases H1.out.1.2 with ⟨e0, _⟩ | ⟨g, o, c, e1, hc1⟩
      · rw [HN.out.1] at e0
        omega
      · simp only [Value.slice.injEq] at e1
        obtain ⟨rfl, hh, rfl⟩ := e1; clear hh
        have i0 := Rd.elem intCell_length hc1 j x hx 0 _ rfl
        rw [Nat.mul_one, Nat.add_zero] at i0
        have i1 := (HB.out.cell (block_lt_of_cell i0)).trans i0
        clear hc1 hx i0
        go_enter Tryz.func58, Tryz.ntmps58
        go_wp2
        go_ret
        exact ⟨rfl, HB.out⟩
    · by_cases q2 : j < n1 + n2
      · obtain ⟨x, hx⟩ : ∃ x, f.locals[j - n1]? = some x := ⟨_, List.getElem?_eq_getElem (by rw [HN.out.2]; omega)⟩
        have hl := localOf_loc hx
        rw [HN.out.1] at hl
        have ej : ((n1 : Int) + ((j - n1 : Nat) : Int)) = (j : Int) := by omega
        rw [ej] at hl
        rw [hl]
        rcases H1.out.2.1.2 with ⟨e0, _⟩ | ⟨g, o, c, e1, hc1⟩
        · rw [HN.out.2] at e0
          omega
        · simp only [Value.slice.injEq] at e1
          obtain ⟨rfl, hh, rfl⟩ := e1; clear hh
          have i0 := Rd.elem intCell_length hc1 (j - n1) x hx 0 _ rfl
          rw [Nat.mul_one, Nat.add_zero] at i0
          have i1 := (HB.out.cell (block_lt_of_cell i0)).trans i0
          clear hc1 hx i0 hl ej
          go_enter Tryz.func58, Tryz.ntmps58
          go_wp2
          go_ret
          exact ⟨rfl, HB.out⟩
      · rw [localOf_out (by rw [HN.out.1, HN.out.2]; omega)]
        go_enter Tryz.func58, Tryz.ntmps58
        go_wp2
        go_ret
        exact ⟨rfl, HB.out⟩
end Go.Proofs.YtdbaghmjomdmbaaGreat
