import Derived.Test.YtalkpddhpmjgcaaGreatCm16
namespace Go.Proofs.YtalkpddhpmjgcaaGreat
open Go.ChangeShapes Go.WideShapes Go.ChangeAt Go.RowKit
set_option linter.unusedVariables false
/-- The type of a local; 0: there is none. -/
def localOf (f : MF) (k : Int) : Int := if k < 0 then 0 else (f.params ++ f.locals).getD k.toNat 0
theorem localOf_neg {f : MF} {k : Int} (h : k < 0) : localOf f k = 0 := if_pos h
theorem localOf_par {f : MF} {k : Nat} {x : Int} (h : f.params[k]? = some x) : localOf f k = x := by
  obtain ⟨hlt, rfl⟩ := List.getElem?_eq_some_iff.1 h
  unfold localOf
  rw [if_neg (by omega), List.getD_eq_getElem?_getD, Int.toNat_natCast, List.getElem?_append_left hlt, List.getElem?_eq_getElem hlt]
  rfl
theorem localOf_loc {f : MF} {k : Nat} {x : Int} (h : f.locals[k]? = some x) : localOf f ((f.params.length : Int) + k) = x := by
  obtain ⟨hlt, rfl⟩ := List.getElem?_eq_some_iff.1 h
  unfold localOf
  have e : ((f.params.length : Int) + k).toNat = f.params.length + k := by omega
  rw [if_neg (by omega), List.getD_eq_getElem?_getD, e, List.getElem?_append_right (by omega), Nat.add_sub_cancel_left, List.getElem?_eq_getElem hlt]
  rfl
theorem localOf_out {f : MF} {k : Int} (h : (f.params.length : Int) + f.locals.length ≤ k) : localOf f k = 0 := by
  unfold localOf
  rw [if_neg (by omega), List.getD_eq_getElem?_getD, List.getElem?_eq_none (by rw [List.length_append]; omega)]
  rfl
set_option maxHeartbeats 2000000 in
set_option maxRecDepth 100000 in
theorem l3Local_any (v : VF) (f : MF) (k : Int) (w : World) (hs : f.small) (hk : W64 k) (h : RdF w v f) :
    Calls Tryz.prog 72 #[.agg #[v.p, .int .i64 f.result, v.l, v.c], .int .i64 k] w fun e w' => e = .returned (.int .i64 (localOf f k)) ∧ Below w.heap.size w w' := by
  have hk' : -9223372036854775808 ≤ k ∧ k ≤ 9223372036854775807 := by simpa [W64, Lit.wf, IntKind.min, IntKind.max, IntKind.signed, IntKind.bits] using hk
  obtain ⟨k0, k1⟩ := hk'
  obtain ⟨s1, s2, s3⟩ := hs
  have H1 : Hid (RdF w v f) := h
  obtain ⟨a1, c1, e1⟩ := h.1.is_slice
  obtain ⟨a2, c2, e2⟩ := h.2.1.is_slice
  obtain ⟨vp, vl, vc⟩ := v
  simp only [] at e1 e2
  subst e1
  subst e2
  clear h hk s3
  have F0 := Fr1.of w 86 #[.slice a1 f.params.length c1, .int .i64 f.result, .slice a2 f.locals.length c2, vc] rfl
  have HB : Hid _ := F0.bel
  clear F0
  generalize hn1 : f.params.length = n1 at *
  generalize hn2 : f.locals.length = n2 at *
  have HN : Hid (f.params.length = n1 ∧ f.locals.length = n2) := ⟨hn1, hn2⟩
  clear hn1 hn2
  by_cases q0 : k < 0
  · rw [localOf_neg q0]
    go_enter Tryz.func72, Tryz.ntmps72
    go_wp2
    go_ret
    exact ⟨rfl, HB.out⟩
  · obtain ⟨j, rfl⟩ := Int.eq_ofNat_of_zero_le (show 0 ≤ k by omega)
    by_cases q1 : j < n1
    · obtain ⟨x, hx⟩ : ∃ x, f.params[j]? = some x := ⟨_, List.getElem?_eq_getElem (by rw [HN.out.1]; exact q1)⟩
      rw [localOf_par hx]
      rcases H1.out.1.2 with ⟨e0, _⟩ | ⟨g, o, c, e1, hc1⟩
      · rw [HN.out.1] at e0
        omega
      · simp only [Value.slice.injEq] at e1
        obtain ⟨rfl, hh, rfl⟩ := e1; clear hh
        have i0 := Rd.elem intCell_length hc1 j x hx 0 _ rfl
        rw [Nat.mul_one, Nat.add_zero] at i0
        have i1 := (HB.out.cell (block_lt_of_cell i0)).trans i0
        clear hc1 hx i0
        go_enter Tryz.func72, Tryz.ntmps72
        go_wp2
        go_ret
        exact ⟨rfl, HB.out⟩
    · by_cases q2 : j < n1 + n2
      · obtain ⟨x, hx⟩ : ∃ x, f.locals[j - n1]? = some x := ⟨_, List.getElem?_eq_getElem (by rw [HN.out.2]; omega)⟩
        have hl := localOf_loc hx
        rw [HN.out.1] at hl
        have ej : ((n1 : Int) + ((j - n1 : Nat) : Int)) = (j : Int) := by omega
        rw [ej] at hl
        rw [hl]
        rcases H1.out.2.1.2 with ⟨e0, _⟩ | ⟨g, o, c, e1, hc1⟩
        · rw [HN.out.2] at e0
          omega
        · simp only [Value.slice.injEq] at e1
          obtain ⟨rfl, hh, rfl⟩ := e1; clear hh
          have i0 := Rd.elem intCell_length hc1 (j - n1) x hx 0 _ rfl
          rw [Nat.mul_one, Nat.add_zero] at i0
          have i1 := (HB.out.cell (block_lt_of_cell i0)).trans i0
          clear hc1 hx i0 hl ej
          go_enter Tryz.func72, Tryz.ntmps72
          go_wp2
          go_ret
          exact ⟨rfl, HB.out⟩
      · rw [localOf_out (by rw [HN.out.1, HN.out.2]; omega)]
        go_enter Tryz.func72, Tryz.ntmps72
        go_wp2
        go_ret
        exact ⟨rfl, HB.out⟩
end Go.Proofs.YtalkpddhpmjgcaaGreat
namespace Go.Proofs.YtalkpddhpmjgcaaGreat
open Go.ChangeShapes Go.WideShapes Go.ChangeAt Go.RowKit
set_option linter.unusedVariables false
/-- The type of a cell; 0: there is none. -/
def cellOf (p : MP) (r c : Int) : Int := if r < 0 ∨ 2 < r ∨ c < 0 then 0 else (p.regions.getD r.toNat []).getD c.toNat 0
theorem cellOf_bad {p : MP} {r c : Int} (h : r < 0 ∨ 2 < r ∨ c < 0) : cellOf p r c = 0 := if_pos h
theorem cellOf_in {p : MP} {r c : Nat} (h : r ≤ 2) {l : List Int} (hl : p.regions[r]? = some l) : cellOf p r c = l.getD c 0 := by
  unfold cellOf
  have e : p.regions.getD r [] = l := by rw [List.getD_eq_getElem?_getD, hl]; rfl
  rw [if_neg (by omega), Int.toNat_natCast, Int.toNat_natCast, e]
set_option maxHeartbeats 2000000 in
set_option maxRecDepth 100000 in
theorem l3Cell_any (v : VP) (p : MP) (r c : Int) (w : World) (hs : p.small) (h3 : p.regions.length = 3) (hr : W64 r) (hc : W64 c) (h : RdP w v p) :
    Calls Tryz.prog 73 #[.agg #[v.r, v.k, v.f, v.t], .int .i64 r, .int .i64 c] w fun e w' => e = .returned (.int .i64 (cellOf p r c)) ∧ Below w.heap.size w w' := by
  have hr' : -9223372036854775808 ≤ r ∧ r ≤ 9223372036854775807 := by simpa [W64, Lit.wf, IntKind.min, IntKind.max, IntKind.signed, IntKind.bits] using hr
  have hc' : -9223372036854775808 ≤ c ∧ c ≤ 9223372036854775807 := by simpa [W64, Lit.wf, IntKind.min, IntKind.max, IntKind.signed, IntKind.bits] using hc
  obtain ⟨r0, r1⟩ := hr'
  obtain ⟨c0, c1⟩ := hc'
  clear hr hc
  obtain ⟨vr, vk, vf, vt⟩ := v
  obtain ⟨xs, hxs, hrd, hel⟩ := h.regions
  simp only [] at hrd
  rw [h3] at hrd
  have hxl : xs.length = 3 := by rw [← h3, ← hxs]; simp
  have H1 : Hid (Rd w 1 vr 3 (xs.flatMap rCells) ∧ xs.map Prod.fst = p.regions ∧ (∀ x ∈ xs, Rd w 1 x.2 x.1.length (x.1.flatMap intCell)) ∧ (∀ l ∈ p.regions, l.length ≤ 1048576) ∧ xs.length = 3) := ⟨hrd, hxs, hel, hs.region, hxl⟩
  clear hrd hxs hel hxl hs h h3
  have HB : Hid _ := (Fr1.of w 31 #[vr, vk, vf, vt] rfl).bel
  by_cases q0 : r < 0
  · rw [cellOf_bad (.inl q0)]
    go_enter Tryz.func73, Tryz.ntmps73
    go_wp2
    go_ret
    exact ⟨rfl, HB.out⟩
  by_cases q1 : 2 < r
  · rw [cellOf_bad (.inr (.inl q1))]
    go_enter Tryz.func73, Tryz.ntmps73
    go_wp2
    go_ret
    exact ⟨rfl, HB.out⟩
  by_cases q2 : c < 0
  · rw [cellOf_bad (.inr (.inr q2))]
    go_enter Tryz.func73, Tryz.ntmps73
    go_wp2
    go_ret
    exact ⟨rfl, HB.out⟩
  obtain ⟨i, rfl⟩ := Int.eq_ofNat_of_zero_le (show 0 ≤ r by omega)
  obtain ⟨j, rfl⟩ := Int.eq_ofNat_of_zero_le (show 0 ≤ c by omega)
  obtain ⟨⟨l, y⟩, hx⟩ : ∃ x, xs[i]? = some x := ⟨_, List.getElem?_eq_getElem (by rw [H1.out.2.2.2.2]; omega)⟩
  have e1 := fst_at H1.out.2.1 hx
  have hy := H1.out.2.2.1 _ (List.mem_of_getElem? hx)
  have hll := H1.out.2.2.2.1 _ (List.mem_of_getElem? e1)
  simp only [] at e1 hy hll
  rw [cellOf_in (by omega) e1]
  rcases H1.out.1.2 with ⟨e0, _⟩ | ⟨g, o, cc, e2, hc1⟩
  · omega
  subst e2
  have a0 := Rd.elem rCells_length hc1 i _ hx 0 _ rfl
  rw [Nat.mul_one, Nat.add_zero] at a0
  simp only [] at a0
  clear hc1 hx e1
  obtain ⟨ay, cy, rfl⟩ := hy.is_slice
  have a1 := (HB.out.cell (block_lt_of_cell a0)).trans a0
  by_cases q3 : j < l.length
  · obtain ⟨z, hz⟩ : ∃ z, l[j]? = some z := ⟨_, List.getElem?_eq_getElem q3⟩
    have ez : l.getD j 0 = z := by rw [List.getD_eq_getElem?_getD, hz]; rfl
    rw [ez]
    rcases hy.2 with ⟨e0, _⟩ | ⟨g2, o2, c2, e3, hc2⟩
    · omega
    simp only [Value.slice.injEq, true_and] at e3
    obtain ⟨rfl, rfl⟩ := e3
    have b0 := Rd.elem intCell_length hc2 j z hz 0 _ rfl
    rw [Nat.mul_one, Nat.add_zero] at b0
    have b1 := (HB.out.cell (block_lt_of_cell b0)).trans b0
    clear hc2 hz b0 a0 ez
    have HY : Hid _ := hy
    clear hy
    generalize l.length = n at *
    go_enter Tryz.func73, Tryz.ntmps73
    go_wp2
    go_ret
    exact ⟨rfl, HB.out⟩
  · have ez : l.getD j 0 = 0 := by rw [List.getD_eq_getElem?_getD, List.getElem?_eq_none (by omega)]; rfl
    rw [ez]
    clear ez a0 hy
    generalize l.length = n at *
    go_enter Tryz.func73, Tryz.ntmps73
    go_wp2
    go_ret
    exact ⟨rfl, HB.out⟩
end Go.Proofs.YtalkpddhpmjgcaaGreat
