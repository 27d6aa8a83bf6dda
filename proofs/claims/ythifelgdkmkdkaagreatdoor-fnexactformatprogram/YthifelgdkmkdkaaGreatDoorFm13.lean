import Derived.Test.YthifelgdkmkdkaaGreatDoorFm12
import Derived.Test.YthifelgdkmkdkaaGreatDoorFm9
namespace Go.Proofs.YthifelgdkmkdkaaGreatDoor
open Go.ChangeShapes Go.WideShapes Go.ChangeAt Go.RowKit
set_option linter.unusedVariables false
/-- The type of a cell; 0: there is none. -/
def cellOf (p : MP) (r c : Int) : Int := if r < 0 ∨ 2 < r ∨ c < 0 then 0 else (p.regions.getD r.toNat []).getD c.toNat 0
theorem cellOf_bad {p : MP} {r c : Int} (h : r < 0 ∨ 2 < r ∨ c < 0) : cellOf p r c = 0 := if_pos h
theorem cellOf_in {p : MP} {r c : Nat} (h : r ≤ 2) {l : List Int} (hl : p.regions[r]? = some l) : cellOf p r c = l.getD c 0 := by
  unfold cellOf
  have e : p.regions.getD r [] = l := by rw [List.getD_eq_getElem?_getD, hl]; rfl
  rw [if_neg (by omega), Int.toNat_natCast, Int.toNat_natCast, e]
set_option maxHeartbeats 2000000 in
set_option maxRecDepth 100000 in
theorem l3Cell_any (v : VP) (p : MP) (r c : Int) (w : World) (hs : p.small) (h3 : p.regions.length = 3) (hr : W64 r) (hc : W64 c) (h : RdP w v p) :
    Calls Tryz.prog 61 #[.agg #[v.r, v.k, v.f, v.t], .int .i64 r, .int .i64 c] w fun e w' => e = .returned (.int .i64 (cellOf p r c)) ∧ Below w.heap.size w w' := by
  have hr' : -9223372036854775808 ≤ r ∧ r ≤ 9223372036854775807 := by simpa [W64, Lit.wf, IntKind.min, IntKind.max, IntKind.signed, IntKind.bits] using hr
  have hc' : -9223372036854775808 ≤ c ∧ c ≤ 9223372036854775807 := by simpa [W64, Lit.wf, IntKind.min, IntKind.max, IntKind.signed, IntKind.bits] using hc
  obtain ⟨r0, r1⟩ := hr'
  obtain ⟨c0, c1⟩ := hc'
  clear hr hc
  obtain ⟨vr, vk, vf, vt⟩ := v
  obtain ⟨xs, hxs, hrd, hel⟩ := h.regions
  simp only [] at hrd
  rw [h3] at hrd
  have hxl : xs.length = 3 := by rw [← h3, ← hxs]; simp
  have H1 : Hid (Rd w 1 vr 3 (xs.flatMap rCells) ∧ xs.map Prod.fst = p.regions ∧ (∀ x ∈ xs, Rd w 1 x.2 x.1.length (x.1.flatMap intCell)) ∧ (∀ l ∈ p.regions, l.length ≤ 1048576) ∧ xs.length = 3) := ⟨hrd, hxs, hel, hs.region, hxl⟩
  clear hrd hxs hel hxl hs h h3
  have HB : Hid _ := (Fr1.of w 34 #[vr, vk, vf, vt] rfl).bel
  by_cases q0 : r < 0
  · rw [cellOf_bad (.inl q0)]
    go_enter Tryz.func61, Tryz.ntmps61
    go_wp2
    go_ret
    exact ⟨rfl, HB.out⟩
  by_cases q1 : 2 < r
  · rw [cellOf_bad (.inr (.inl q1))]
    go_enter Tryz.func61, Tryz.ntmps61
    go_wp2
    go_ret
    exact ⟨rfl, HB.out⟩
  by_cases q2 : c < 0
  · rw [cellOf_bad (.inr (.inr q2))]
    go_enter Tryz.func61, Tryz.ntmps61
    go_wp2
    go_ret
    exact ⟨rfl, HB.out⟩
  obtain ⟨i, rfl⟩ := Int.eq_ofNat_of_zero_le (show 0 ≤ r by omega)
  obtain ⟨j, rfl⟩ := Int.eq_ofNat_of_zero_le (show 0 ≤ c by omega)
  obtain ⟨⟨l, y⟩, hx⟩ : ∃ x, xs[i]? = some x := ⟨_, List.getElem?_eq_getElem (by rw [H1.out.2.2.2.2]; omega)⟩
  have e1 := fst_at H1.out.2.1 hx
  have hy := H1.out.2.2.1 _ (List.mem_of_getElem? hx)
  have hll := H1.out.2.2.2.1 _ (List.mem_of_getElem? e1)
  simp only [] at e1 hy hll
  rw [cellOf_in (by omega) e1]
  rcases H1.out.1.2 with ⟨e0, _⟩ | ⟨g, o, cc, e2, hc1⟩
  · omega
  subst e2
  have a0 := Rd.elem rCells_length hc1 i _ hx 0 _ rfl
  rw [Nat.mul_one, Nat.add_zero] at a0
  simp only [] at a0
  clear hc1 hx e1
  obtain ⟨ay, cy, rfl⟩ := hy.is_slice
  have a1 := (HB.out.cell (block_lt_of_cell a0)).trans a0
  by_cases q3 : j < l.length
  · obtain ⟨z, hz⟩ : ∃ z, l[j]? = some z := ⟨_, List.getElem?_eq_getElem q3⟩
    have ez : l.getD j 0 = z := by rw [List.getD_eq_getElem?_getD, hz]; rfl
    rw [ez]
    rcases hy.2 with ⟨e0, _⟩ | ⟨g2, o2, c2, e3, hc2⟩
    · omega
    simp only [Value.slice.injEq, true_and] at e3
    obtain ⟨rfl, rfl⟩ := e3
    have b0 := Rd.elem intCell_length hc2 j z hz 0 _ rfl
    rw [Nat.mul_one, Nat.add_zero] at b0
    have b1 := (HB.out.cell (block_lt_of_cell b0)).trans b0
    clear hc2 hz b0 a0 ez
    have HY : Hid _ := hy
    clear hy
    generalize l.length = n at *
    go_enter Tryz.func61, Tryz.ntmps61
    go_wp2
    go_ret
    exact ⟨rfl, HB.out⟩
  · have ez : l.getD j 0 = 0 := by rw [List.getD_eq_getElem?_getD, List.getElem?_eq_none (by omega)]; rfl
    rw [ez]
    clear ez a0 hy
    generalize l.length = n at *
    go_enter Tryz.func61, Tryz.ntmps61
    go_wp2
    go_ret
    exact ⟨rfl, HB.out⟩
end Go.Proofs.YthifelgdkmkdkaaGreatDoor
namespace Go.Proofs.YthifelgdkmkdkaaGreatDoor
open Go.ChangeShapes Go.WideShapes Go.ChangeAt Go.RowKit
set_option linter.unusedVariables false
/-- It returns a bool, which is true just if q. -/
def SaysIff (e : Ending) (q : Prop) : Prop := ∃ b, e = .returned (.bool b) ∧ (b = true ↔ q)
theorem SaysIff.yes {q : Prop} (h : q) : SaysIff (.returned (.bool true)) q := ⟨_, rfl, by simp [h]⟩
theorem SaysIff.no {q : Prop} (h : ¬ q) : SaysIff (.returned (.bool false)) q := ⟨_, rfl, by simp [h]⟩
theorem SaysIff.of {q : Prop} {b : Bool} (h : b = true ↔ q) : SaysIff (.returned (.bool b)) q := ⟨_, rfl, h⟩
theorem SaysIff.iff {e : Ending} {q q' : Prop} (h : SaysIff e q) (hq : q ↔ q') : SaysIff e q' := by
  obtain ⟨b, rfl, hb⟩ := h
  exact ⟨b, rfl, hb.trans hq⟩
end Go.Proofs.YthifelgdkmkdkaaGreatDoor
