import Derived.Test.YtalkpddhpmjgcaaGreatCm35
namespace Go.Proofs.YtalkpddhpmjgcaaGreat
open Go.ChangeShapes Go.WideShapes Go.ChangeAt Go.RowKit
set_option linter.unusedVariables false
set_option maxHeartbeats 1000000 in
theorem isOneOf_any (n : Int) (c : Int) (w : World) :
    Calls Tryz.prog 94 #[.int .i64 n, .int .i64 c] w fun e w' => e = .returned (.bool (decide (0 ≤ n ∧ n < c))) ∧ w' = w := by
  by_cases q0 : n < 0
  · rw [decide_eq_false (by omega : ¬ (0 ≤ n ∧ n < c))]
    have q0' : ¬ 0 ≤ n := by omega
    go_enter Tryz.func94, Tryz.ntmps94
    go_wp2
    go_ret
    exact ⟨rfl, rfl⟩
  have q0' : 0 ≤ n := by omega
  by_cases q1 : n < c
  · rw [decide_eq_true (by omega : 0 ≤ n ∧ n < c)]
    go_enter Tryz.func94, Tryz.ntmps94
    go_wp2
    go_ret
    exact ⟨rfl, rfl⟩
  · rw [decide_eq_false (by omega : ¬ (0 ≤ n ∧ n < c))]
    go_enter Tryz.func94, Tryz.ntmps94
    go_wp2
    go_ret
    exact ⟨rfl, rfl⟩
set_option maxHeartbeats 1000000 in
theorem formTakes_any (F t : Int) (w : World) (hF : F = 5 ∨ F = 6 ∨ F = 7) : Calls Tryz.prog 99 #[.int .i64 F, .int .i64 t] w fun e w' => SaysIff e (takes F t) ∧ w' = w := by
  rcases hF with rfl | rfl | rfl
  · go_enter Tryz.func99, Tryz.ntmps99
    go_wp2
    all_goals (go_ret; refine ⟨SaysIff.of ?_, rfl⟩; go_light; simp_all [takes])
  · go_enter Tryz.func99, Tryz.ntmps99
    go_wp2
    all_goals (go_ret; refine ⟨SaysIff.of ?_, rfl⟩; go_light; simp_all [takes])
  · go_enter Tryz.func99, Tryz.ntmps99
    go_wp2_with fail
    refine (isType_any t _).mono ?_
    rintro e u ⟨rfl, rfl⟩
    go_wp2
    all_goals (go_ret; refine ⟨SaysIff.of ?_, rfl⟩; go_light; simp_all [takes])
/-- Eight cells of a block. -/
structure At8 (w : World) (b : Nat) (x0 x1 x2 x3 x4 x5 x6 x7 : Value) : Prop where
  c0 : w.cell? ⟨b, 0, none⟩ = some x0
  c1 : w.cell? ⟨b, 1, none⟩ = some x1
  c2 : w.cell? ⟨b, 2, none⟩ = some x2
  c3 : w.cell? ⟨b, 3, none⟩ = some x3
  c4 : w.cell? ⟨b, 4, none⟩ = some x4
  c5 : w.cell? ⟨b, 5, none⟩ = some x5
  c6 : w.cell? ⟨b, 6, none⟩ = some x6
  c7 : w.cell? ⟨b, 7, none⟩ = some x7
theorem At8.lt {w : World} {b : Nat} {x0 x1 x2 x3 x4 x5 x6 x7 : Value} (h : At8 w b x0 x1 x2 x3 x4 x5 x6 x7) : b < w.heap.size := block_lt_of_cell h.c0
theorem At8.keep {w w' : World} {b : Nat} {x0 x1 x2 x3 x4 x5 x6 x7 : Value} (h : At8 w b x0 x1 x2 x3 x4 x5 x6 x7) (hb : Below w.heap.size w w') : At8 w' b x0 x1 x2 x3 x4 x5 x6 x7 :=
  ⟨by rw [hb.cell h.lt]; exact h.c0, by rw [hb.cell h.lt]; exact h.c1, by rw [hb.cell h.lt]; exact h.c2, by rw [hb.cell h.lt]; exact h.c3, by rw [hb.cell h.lt]; exact h.c4, by rw [hb.cell h.lt]; exact h.c5, by rw [hb.cell h.lt]; exact h.c6, by rw [hb.cell h.lt]; exact h.c7⟩
theorem At8.new (w : World) (x0 x1 x2 x3 x4 x5 x6 x7 : Value) (ty : TypeId) : At8 (w.alloc (.cells #[x0, x1, x2, x3, x4, x5, x6, x7] ty)) w.heap.size x0 x1 x2 x3 x4 x5 x6 x7 := by
  have h := World.ownsRow_lit (base := w.heap.size) (e := ty) (size := 8) w #[x0, x1, x2, x3, x4, x5, x6, x7] 1 (Nat.le_refl _) (by unfold maxLen; omega) (by simp)
  exact ⟨h.cellAt 0 (by omega), h.cellAt 1 (by omega), h.cellAt 2 (by omega), h.cellAt 3 (by omega), h.cellAt 4 (by omega), h.cellAt 5 (by omega), h.cellAt 6 (by omega), h.cellAt 7 (by omega)⟩
theorem At8.alloc {w : World} {b : Nat} {x0 x1 x2 x3 x4 x5 x6 x7 : Value} (h : At8 w b x0 x1 x2 x3 x4 x5 x6 x7) (o : Obj) : At8 (w.alloc o) b x0 x1 x2 x3 x4 x5 x6 x7 := h.keep (below_alloc _ _)
/-- A number of a local. -/
def HasLocal (f : MF) (n : Int) : Prop := 0 ≤ n ∧ n < (f.params.length : Int) + (f.locals.length : Int)
set_option maxHeartbeats 1000000 in
theorem hasLocal_any (x0 x1 x2 x3 : Value) (g : VF) (f : MF) (n : Int) (w : World) (hs : f.small) (h : RdF w g f) :
    Calls Tryz.prog 96 #[.agg #[x0, x1, x2, x3, g.p, .int .i64 f.result, g.l, g.c], .int .i64 n] w fun e w' => SaysIff e (HasLocal f n) ∧ Below w.heap.size w w' := by
  obtain ⟨a1, c1, e1⟩ := h.1.is_slice
  obtain ⟨a2, c2, e2⟩ := h.2.1.is_slice
  obtain ⟨vp, vl, vc⟩ := g
  obtain ⟨s1, s2, s3⟩ := hs
  simp only [] at e1 e2
  subst e1 e2
  clear h
  go_enter Tryz.func96, Tryz.ntmps96
  go_wp2_with fail
  refine (isOneOf_any n ((f.params.length : Int) + (f.locals.length : Int)) _).mono ?_
  rintro e u ⟨rfl, rfl⟩
  go_wp2
  go_ret
  exact ⟨.of (by unfold HasLocal; simp), below_alloc _ _⟩
/-- An instruction of a cell names one that is there, and is none of the inputs where it writes. -/
def CellHolds (p : MP) (op a b : Int) : Prop := ∃ l, 0 ≤ a ∧ p.regions[a.toNat]? = some l ∧ 0 ≤ b ∧ b < (l.length : Int) ∧ ¬ ((op = 5 ∨ op = 7) ∧ a = 0)
set_option maxHeartbeats 2000000 in
set_option maxRecDepth 100000 in
theorem cellHolds_any (v : VP) (p : MP) (x4 x5 x6 x7 : Value) (op a b c : Int) (w : World) (hs : p.small) (h3 : p.regions.length = 3) (h : RdP w v p) :
    Calls Tryz.prog 97 #[.agg #[v.r, v.k, v.f, v.t, x4, x5, x6, x7], .agg #[.int .i64 op, .int .i64 a, .int .i64 b, .int .i64 c]] w fun e w' => SaysIff e (CellHolds p op a b) ∧ Below w.heap.size w w' := by
  obtain ⟨vr, vk, vf, vt⟩ := v
  obtain ⟨xs, hxs, hrd, hel⟩ := h.regions
  simp only [] at hrd
  rw [h3] at hrd
  have hxl : xs.length = 3 := by rw [← h3, ← hxs]; simp
  have H1 : Hid (Rd w 1 vr 3 (xs.flatMap rCells) ∧ xs.map Prod.fst = p.regions ∧ (∀ x ∈ xs, Rd w 1 x.2 x.1.length (x.1.flatMap intCell)) ∧ (∀ l ∈ p.regions, l.length ≤ 1048576) ∧ xs.length = 3 ∧ p.regions.length = 3) := ⟨hrd, hxs, hel, hs.region, hxl, h3⟩
  clear hrd hxs hel hxl hs h h3
  have HB : Hid (Below w.heap.size w ((w.alloc (.cells #[vr, vk, vf, vt, x4, x5, x6, x7] 144)).alloc (.cells #[.int .i64 op, .int .i64 a, .int .i64 b, .int .i64 c] 92))) := below_on (below_alloc _ _) (Nat.le_refl _) (below_alloc _ _)
  by_cases q0 : 0 ≤ a ∧ a < 3
  · obtain ⟨i, rfl⟩ := Int.eq_ofNat_of_zero_le q0.1
    have hi : i < 3 := by omega
    obtain ⟨⟨l, y⟩, hx⟩ : ∃ x, xs[i]? = some x := ⟨_, List.getElem?_eq_getElem (by rw [H1.out.2.2.2.2.1]; omega)⟩
    have e1 := fst_at H1.out.2.1 hx
    have hy := H1.out.2.2.1 _ (List.mem_of_getElem? hx)
    have hll := H1.out.2.2.2.1 _ (List.mem_of_getElem? e1)
    simp only [] at e1 hy hll
    rcases H1.out.1.2 with ⟨e0, _⟩ | ⟨g, o, cc, e2, hc1⟩
    · omega
    subst e2
    have a0 := Rd.elem rCells_length hc1 i _ hx 0 _ rfl
    rw [Nat.mul_one, Nat.add_zero] at a0
    simp only [] at a0
    clear hc1 hx
    have HX : Hid (p.regions[i]? = some l) := e1
    clear e1
    obtain ⟨ay, cy, rfl⟩ := hy.is_slice
    clear hy
    have a1 := (HB.out.cell (block_lt_of_cell a0)).trans a0
    have ga : ¬ g = w.heap.size := Nat.ne_of_lt (block_lt_of_cell a0)
    have HC : Hid (CellHolds p op (i : Int) b ↔ ¬ ((op = 5 ∨ op = 7) ∧ (i : Int) = 0) ∧ 0 ≤ b ∧ b < (l.length : Int)) := by
      show _ ↔ _
      constructor
      · rintro ⟨l', h1, h2, h3, h4, h5⟩
        rw [Int.toNat_natCast, HX.out] at h2
        obtain rfl := Option.some.inj h2
        exact ⟨h5, h3, h4⟩
      · rintro ⟨h5, h3, h4⟩
        exact ⟨l, by omega, by rw [Int.toNat_natCast]; exact HX.out, h3, h4, h5⟩
    by_cases q1 : (op = 5 ∨ op = 7) ∧ (i : Int) = 0
    · have HN : Hid (¬ CellHolds p op (i : Int) b) := fun e => (HC.out.1 e).1 q1
      obtain ⟨q1, q2⟩ := q1
      obtain rfl : i = 0 := by omega
      rcases q1 with rfl | rfl
      · go_enter Tryz.func97, Tryz.ntmps97
        go_wp2_with fail
        refine (isOneOf_any 0 3 _).mono ?_
        rintro e u ⟨rfl, rfl⟩
        go_wp2
        go_ret
        exact ⟨.no HN.out, HB.out⟩
      · go_enter Tryz.func97, Tryz.ntmps97
        go_wp2_with fail
        refine (isOneOf_any 0 3 _).mono ?_
        rintro e u ⟨rfl, rfl⟩
        go_wp2
        go_ret
        exact ⟨.no HN.out, HB.out⟩
    · have hiz : ((i : Int) == 0) = decide (i = 0) := by
        by_cases e : i = 0
        · subst e
          rfl
        · rw [decide_eq_false e]
          simpa using e
      have hit : decide (0 ≤ (i : Int) ∧ (i : Int) < 3) = true := decide_eq_true (by omega)
      have HD : Hid (decide (0 ≤ b ∧ b < (l.length : Int)) = true ↔ CellHolds p op (i : Int) b) := by
        show _ ↔ _
        rw [HC.out, decide_eq_true_eq]
        exact ⟨fun e => ⟨q1, e⟩, fun e => e.2⟩
      by_cases w5 : op = 5
      · subst w5
        have hi0 : ((i : Int) == 0) = false := by
          have : ¬ i = 0 := fun e => q1 ⟨.inl rfl, by omega⟩
          rw [hiz, decide_eq_false this]
        clear q1 HC hiz
        go_enter Tryz.func97, Tryz.ntmps97
        go_wp2_with fail
        refine (isOneOf_any (i : Int) 3 _).mono ?_
        rintro e u ⟨rfl, rfl⟩
        rw [hit]
        go_wp2_with fail
        go_quiet ((go_at_call 94; exact Calls.quiet_of_same (isOneOf_any b (l.length : Int) _)))
        go_wp2
        go_ret
        exact ⟨.of HD.out, HB.out.trans (below_drewN _ _ _)⟩
      · by_cases w7 : op = 7
        · subst w7
          have hi0 : ((i : Int) == 0) = false := by
            have : ¬ i = 0 := fun e => q1 ⟨.inr rfl, by omega⟩
            rw [hiz, decide_eq_false this]
          clear q1 HC hiz w5
          go_enter Tryz.func97, Tryz.ntmps97
          go_wp2_with fail
          refine (isOneOf_any (i : Int) 3 _).mono ?_
          rintro e u ⟨rfl, rfl⟩
          rw [hit]
          go_wp2_with fail
          go_quiet ((go_at_call 94; exact Calls.quiet_of_same (isOneOf_any b (l.length : Int) _)))
          go_wp2
          go_ret
          exact ⟨.of HD.out, HB.out.trans (below_drewN _ _ _)⟩
        · have w5' : (op == 5) = false := by simpa using w5
          have w7' : (op == 7) = false := by simpa using w7
          clear q1 HC hiz w5 w7
          go_enter Tryz.func97, Tryz.ntmps97
          go_wp2_with fail
          refine (isOneOf_any (i : Int) 3 _).mono ?_
          rintro e u ⟨rfl, rfl⟩
          rw [hit]
          go_wp2_with fail
          go_quiet ((go_at_call 94; exact Calls.quiet_of_same (isOneOf_any b (l.length : Int) _)))
          go_wp2
          go_ret
          exact ⟨.of HD.out, HB.out.trans (below_drewN _ _ _)⟩
  · have HN : Hid (¬ CellHolds p op a b) := fun ⟨l, h1, h2, _⟩ => q0 ⟨h1, by have := (List.getElem?_eq_some_iff.1 h2).1; rw [H1.out.2.2.2.2.2] at this; omega⟩
    have hit : decide (0 ≤ a ∧ a < 3) = false := decide_eq_false q0
    clear H1
    by_cases w5 : op = 5
    · subst w5
      go_enter Tryz.func97, Tryz.ntmps97
      go_wp2_with fail
      refine (isOneOf_any a 3 _).mono ?_
      rintro e u ⟨rfl, rfl⟩
      rw [hit]
      go_wp2
      go_ret
      exact ⟨.no HN.out, HB.out⟩
    · have w5' : (op == 5) = false := by simpa using w5
      go_enter Tryz.func97, Tryz.ntmps97
      go_wp2_with fail
      refine (isOneOf_any a 3 _).mono ?_
      rintro e u ⟨rfl, rfl⟩
      rw [hit]
      go_wp2
      go_ret
      exact ⟨.no HN.out, HB.out⟩
end Go.Proofs.YtalkpddhpmjgcaaGreat
namespace Go.Proofs.YtalkpddhpmjgcaaGreat
open Go.ChangeShapes Go.WideShapes Go.ChangeAt Go.RowKit
set_option linter.unusedVariables false
/-- A mask that may choose among the first of these cells. -/
structure MaskIn (xs : List Int) (c : Int) : Prop where
  low : 0 ≤ c
  high : c < (xs.length : Int)
  mask : bits .and .i64 c (c + 1) = 0
  one : ∀ j : Nat, (j : Int) ≤ c → xs[j]? = xs[0]?
set_option maxHeartbeats 2000000 in
set_option maxRecDepth 100000 in
theorem maskHolds_any (a1 : Option Addr) (c1 : Nat) (xs : List Int) (c : Int) (w : World) (hn : xs.length ≤ 1048576) (hcap : xs.length ≤ c1) (h : Rd w 1 (.slice a1 xs.length c1) xs.length (xs.flatMap intCell)) :
    Calls Tryz.prog 98 #[.slice a1 xs.length c1, .int .i64 c] w fun e w' => SaysIff e (MaskIn xs c) ∧ Below w.heap.size w w' := by
  have H1 : Hid (Rd w 1 (.slice a1 xs.length c1) xs.length (xs.flatMap intCell)) := h
  clear h
  generalize hLL : xs.length = n at hn hcap H1
  have HL : Hid (xs.length = n) := hLL
  clear hLL
  by_cases q0 : 0 ≤ c ∧ c < (n : Int)
  · have hit : decide (0 ≤ c ∧ c < (n : Int)) = true := decide_eq_true q0
    obtain ⟨c, rfl⟩ := Int.eq_ofNat_of_zero_le q0.1
    have hcn : c < n := by omega
    clear q0
    by_cases q1 : bits .and .i64 (c : Int) ((c : Int) + 1) = 0
    · have HM : Hid (bits .and .i64 (c : Int) ((c : Int) + 1) = 0) := q1
      obtain ⟨y, hy⟩ : ∃ y, xs[0]? = some y := ⟨_, List.getElem?_eq_getElem (by rw [HL.out]; omega)⟩
      rcases H1.out.2 with ⟨e0, _⟩ | ⟨g, o, cc, e1, hc1⟩
      · omega
      simp only [Value.slice.injEq, true_and] at e1
      obtain ⟨rfl, rfl⟩ := e1
      have j0 := Rd.elem intCell_length hc1 0 y hy 0 _ rfl
      simp only [Nat.zero_mul, Nat.add_zero] at j0
      have HC : Hid (∀ j u, (xs.flatMap intCell)[j]? = some u → w.cell? ⟨g, o + j, none⟩ = some u) := hc1
      have HY : Hid (xs[0]? = some y) := hy
      clear hc1 hy
      go_enter Tryz.func98, Tryz.ntmps98
      go_wp2_with fail
      refine (isOneOf_any (c : Int) (n : Int) _).mono ?_
      rintro e u ⟨rfl, rfl⟩
      rw [hit]
      have k1 : (c : Int) + 1 ≤ (c1 : Int) := by omega
      have k2 : (0 : Int) ≤ (c : Int) + 1 := by omega
      have k3 : (0 : Int) < (n : Int) := by omega
      have k4 : ((c : Int) + 1).toNat = c + 1 := by omega
      go_wp2
      clear k1 k2 hit q1
      go_loopw [24] (fun i wr => ∃ k : Nat, k ≤ c + 1 ∧ i = .int .i64 k ∧ Hid (∀ j, j < k → xs[j]? = some y) ∧ ∃ m, wr = u.drewN m) (fun i _ => c + 1 - (intOf i).toNat)
      case atStart => exact ⟨0, by omega, rfl, fun j hj => by omega, 0, rfl⟩
      case round =>
        obtain ⟨k, hk, rfl, HT, m, rfl⟩ := hrel
        by_cases hlt : k < c + 1
        · obtain ⟨x, hx⟩ : ∃ x, xs[k]? = some x := ⟨_, List.getElem?_eq_getElem (by rw [HL.out]; omega)⟩
          have i0 := Rd.elem intCell_length HC.out k x hx 0 _ rfl
          rw [Nat.mul_one, Nat.add_zero] at i0
          have HX : Hid (xs[k]? = some x) := hx
          clear hx
          have hlt' : (k : Int) < (c : Int) + 1 := by omega
          by_cases hxy : x = y
          · subst hxy
            have HT2 : Hid (∀ j, j < k + 1 → xs[j]? = some x) := fun j hj => by
              by_cases e : j = k
              · rw [e]; exact HX.out
              · exact HT.out j (by omega)
            go_wp2
            go_roundw
            case rel => exact ⟨k + 1, by omega, by go_num, HT2, _, rfl⟩
            case measure => simp [intOf]; omega
          · have HN : Hid (¬ MaskIn xs c) := fun e => by
              have := e.one k (by omega)
              rw [HX.out, HY.out] at this
              exact hxy (Option.some.inj this)
            have hxy' : (x == y) = false := by simpa using hxy
            have hxy'' : (x != y) = true := by simpa using hxy
            go_wp2
            go_ret
            exact ⟨.no HN.out, below_drewN _ _ _⟩
        · have hkn : k = c + 1 := by omega
          subst hkn
          have HY2 : Hid (MaskIn xs c) := ⟨by omega, by rw [HL.out]; omega, HM.out, fun j hj => by rw [HY.out]; exact HT.out j (by omega)⟩
          go_wp2
          go_ret
          exact ⟨.yes HY2.out, below_drewN _ _ _⟩
    · have HN : Hid (¬ MaskIn xs c) := fun e => q1 e.mask
      have q1' : (bits .and .i64 (c : Int) ((c : Int) + 1) == 0) = false := by simpa using q1
      clear H1
      go_enter Tryz.func98, Tryz.ntmps98
      go_wp2_with fail
      refine (isOneOf_any (c : Int) (n : Int) _).mono ?_
      rintro e u ⟨rfl, rfl⟩
      rw [hit]
      go_wp2
      go_ret
      exact ⟨.no HN.out, Below.refl _ _⟩
  · have HN : Hid (¬ MaskIn xs c) := fun e => q0 ⟨e.low, by have := e.high; rw [HL.out] at this; exact this⟩
    have hit : decide (0 ≤ c ∧ c < (n : Int)) = false := decide_eq_false q0
    clear H1
    go_enter Tryz.func98, Tryz.ntmps98
    go_wp2_with fail
    refine (isOneOf_any c (n : Int) _).mono ?_
    rintro e u ⟨rfl, rfl⟩
    rw [hit]
    go_wp2
    go_ret
    exact ⟨.no HN.out, Below.refl _ _⟩
end Go.Proofs.YtalkpddhpmjgcaaGreat
namespace Go.Proofs.YtalkpddhpmjgcaaGreat
open Go.ChangeShapes Go.WideShapes Go.ChangeAt Go.RowKit
set_option linter.unusedVariables false
theorem isT_ne {t : Int} (h : isT t = true) : ¬ t = 0 := by
  unfold isT at h
  simp at h
  omega
theorem all_at {xs : List Int} (h : xs.all isT = true) {k : Nat} {x : Int} (hk : xs[k]? = some x) : isT x = true := List.all_eq_true.1 h x (List.mem_of_getElem? hk)
theorem hasLocal_iff {f : MF} (hf : FuncOk f) (n : Int) : HasLocal f n ↔ ¬ localOf f n = 0 := by
  constructor
  · rintro ⟨h0, h1⟩
    obtain ⟨k, rfl⟩ := Int.eq_ofNat_of_zero_le h0
    by_cases q : k < f.params.length
    · rw [localOf_par (List.getElem?_eq_getElem q)]
      exact isT_ne (all_at hf.pt (List.getElem?_eq_getElem q))
    · have q2 : k - f.params.length < f.locals.length := by omega
      have e := localOf_loc (f := f) (List.getElem?_eq_getElem q2)
      have ej : ((f.params.length : Int) + ((k - f.params.length : Nat) : Int)) = (k : Int) := by omega
      rw [ej] at e
      rw [e]
      exact isT_ne (all_at hf.lt (List.getElem?_eq_getElem q2))
  · intro h
    by_cases q0 : n < 0
    · exact absurd (localOf_neg q0) h
    by_cases q1 : (f.params.length : Int) + f.locals.length ≤ n
    · exact absurd (localOf_out q1) h
    · exact ⟨by omega, by omega⟩
/-- A cell that is there, by its list. -/
theorem cellOf_some {p : MP} {a b : Nat} {l : List Int} (h3 : p.regions.length = 3) (hl : p.regions[a]? = some l) : cellOf p a b = l.getD b 0 := cellOf_in (by have := (List.getElem?_eq_some_iff.1 hl).1; omega) hl
theorem cellOf_iff {p : MP} (hp : RegionsOk p.regions) (a b : Int) : ¬ cellOf p a b = 0 ↔ ∃ l, 0 ≤ a ∧ p.regions[a.toNat]? = some l ∧ 0 ≤ b ∧ b < (l.length : Int) := by
  constructor
  · intro h
    have hq : ¬ (a < 0 ∨ 2 < a ∨ b < 0) := fun e => h (cellOf_bad e)
    obtain ⟨i, rfl⟩ := Int.eq_ofNat_of_zero_le (show 0 ≤ a by omega)
    obtain ⟨j, rfl⟩ := Int.eq_ofNat_of_zero_le (show 0 ≤ b by omega)
    have hi : i < p.regions.length := by have := hp.1; omega
    rw [cellOf_some hp.1 (List.getElem?_eq_getElem hi)] at h
    refine ⟨p.regions[i], by omega, by rw [Int.toNat_natCast]; exact List.getElem?_eq_getElem hi, by omega, ?_⟩
    by_cases hj : j < p.regions[i].length
    · omega
    · exact absurd (by rw [List.getD_eq_getElem?_getD, List.getElem?_eq_none (by omega)]; rfl) h
  · rintro ⟨l, h0, hl, h1, h2⟩
    obtain ⟨i, rfl⟩ := Int.eq_ofNat_of_zero_le h0
    obtain ⟨j, rfl⟩ := Int.eq_ofNat_of_zero_le h1
    rw [Int.toNat_natCast] at hl
    rw [cellOf_some hp.1 hl]
    have hj : j < l.length := by omega
    have e : l.getD j 0 = l[j] := by rw [List.getD_eq_getElem?_getD, List.getElem?_eq_getElem hj]; rfl
    rw [e]
    have hr := hp.2 i (List.getElem?_eq_some_iff.1 hl).1 l hl
    exact isT_ne (all_at hr.2 (List.getElem?_eq_getElem hj))
theorem cellHolds_iff {p : MP} (hp : RegionsOk p.regions) (op a b : Int) (ho : op = 4 ∨ op = 5 ∨ op = 6 ∨ op = 7) : CellHolds p op a b ↔ ¬ cellOf p a b = 0 ∧ ((op = 4 ∨ op = 6) ∨ ¬ a = 0) := by
  rw [cellOf_iff hp]
  constructor
  · rintro ⟨l, h1, h2, h3, h4, h5⟩
    refine ⟨⟨l, h1, h2, h3, h4⟩, ?_⟩
    by_cases q : a = 0
    · left
      by_cases q5 : op = 5 ∨ op = 7
      · exact absurd ⟨q5, q⟩ h5
      · omega
    · exact .inr q
  · rintro ⟨⟨l, h1, h2, h3, h4⟩, h5⟩
    exact ⟨l, h1, h2, h3, h4, fun ⟨e1, e2⟩ => by omega⟩
theorem maskIn_iff {p : MP} (hp : RegionsOk p.regions) {a b : Nat} {l : List Int} (hl : p.regions[a]? = some l) (hb : b < l.length) (c : Int) : MaskIn (l.drop b) c ↔ MaskOk p a b c := by
  have hr := hp.2 a (List.getElem?_eq_some_iff.1 hl).1 l hl
  have cell : ∀ j : Nat, cellOf p (a : Int) ((b : Int) + (j : Int)) = l.getD (b + j) 0 := fun j => by
    have := cellOf_some (b := b + j) hp.1 hl
    rw [Int.natCast_add] at this
    exact this
  have cell0 : cellOf p (a : Int) (b : Int) = l.getD b 0 := cellOf_some hp.1 hl
  have dr : ∀ j : Nat, (l.drop b)[j]? = l[b + j]? := fun j => by rw [List.getElem?_drop]
  constructor
  · intro h
    have hh := h.high
    rw [List.length_drop] at hh
    have h0 := h.low
    have hlen := hr.1
    refine ⟨h.low, by omega, h.mask, ?_, fun j hj => ?_⟩
    · rw [cellOf_iff hp]
      exact ⟨l, by omega, by rw [Int.toNat_natCast]; exact hl, by omega, by omega⟩
    · have := h.one j hj
      rw [dr, dr] at this
      rw [cell, cell0, List.getD_eq_getElem?_getD, List.getD_eq_getElem?_getD, this]
      rfl
  · intro h
    have key : ∀ j : Nat, (j : Int) ≤ c → b + j < l.length := fun j hj => by
      have e := h.one j hj
      have hne := h.there
      rw [← e, cell] at hne
      by_cases q : b + j < l.length
      · exact q
      · exact absurd (by rw [List.getD_eq_getElem?_getD, List.getElem?_eq_none (by omega)]; rfl) hne
    obtain ⟨k, rfl⟩ := Int.eq_ofNat_of_zero_le h.low
    have hk := key k (by omega)
    refine ⟨h.low, by rw [List.length_drop]; omega, h.mask, fun j hj => ?_⟩
    have hj' := key j hj
    have e := h.one j hj
    rw [cell, cell0, List.getD_eq_getElem?_getD, List.getD_eq_getElem?_getD, List.getElem?_eq_getElem hj', List.getElem?_eq_getElem hb] at e
    rw [dr, dr, Nat.add_zero, List.getElem?_eq_getElem hj', List.getElem?_eq_getElem hb]
    simpa using e
end Go.Proofs.YtalkpddhpmjgcaaGreat
