import Derived.Test.YtalkpddhpmjgcaaGreatCm18
namespace Go.Proofs.YtalkpddhpmjgcaaGreat
open Go.ChangeShapes Go.WideShapes Go.ChangeAt Go.RowKit
set_option linter.unusedVariables false
/-- A constant without a fault. -/
def ConstOk (c : MC) : Prop := isT c.type = true ∧ (c.type = 1 → c.word ≤ 1)
def ConstsOk (cs : List MC) : Prop := cs.length ≤ 64 ∧ ∀ j, j < cs.length → ∀ c, cs[j]? = some c → ConstOk c
theorem upto_next {α : Type} {q : α → Prop} {xs : List α} {k : Nat} {x : α} (h1 : xs[k]? = some x) (hx : q x) (h : ∀ j, j < k → ∀ c, xs[j]? = some c → q c) : ∀ j, j < k + 1 → ∀ c, xs[j]? = some c → q c := by
  intro j hj c hc
  by_cases e : j = k
  · subst e
    rw [h1] at hc
    exact (Option.some.inj hc) ▸ hx
  · exact h j (by omega) c hc
set_option maxHeartbeats 2000000 in
set_option maxRecDepth 100000 in
theorem l3Consts_any (v : VP) (p : MP) (w : World) (hs : p.small) (h : RdP w v p) :
    Calls Tryz.prog 45 #[.agg #[v.r, v.k, v.f, v.t]] w fun e w' => SaysIff e (ConstsOk p.consts) ∧ Below w.heap.size w w' := by
  have H1 : Hid (Rd w 2 v.k p.consts.length (p.consts.flatMap MC.cells)) := h.consts
  have hn := hs.consts
  obtain ⟨vr, vk, vf, vt⟩ := v
  obtain ⟨a1, c1, e1⟩ : ∃ a c, vk = .slice a p.consts.length c := h.consts.is_slice
  subst e1
  clear h hs
  have HW : Hid (Below w.heap.size w (w.alloc (.cells #[vr, .slice a1 p.consts.length c1, vf, vt] 31)) ∧ At4 (w.alloc (.cells #[vr, .slice a1 p.consts.length c1, vf, vt] 31)) w.heap.size vr (.slice a1 p.consts.length c1) vf vt) := ⟨below_alloc _ _, At4.new _ _ _ _ _ _⟩
  generalize hcs : p.consts = cs at *
  clear hcs
  generalize hLL : cs.length = n at hn H1 HW
  have HL : Hid (cs.length = n) := hLL
  clear hLL
  go_enter Tryz.func45, Tryz.ntmps45
  go_wp2
  go_loopw [3] (fun i wr => ∃ k : Nat, k ≤ n ∧ i = .int .i64 k ∧ Hid (∀ j, j < k → ∀ c, cs[j]? = some c → ConstOk c) ∧ Hid (Below w.heap.size w wr ∧ At4 wr w.heap.size vr (.slice a1 n c1) vf vt)) (fun i _ => n - (intOf i).toNat)
  case atStart => exact ⟨0, by omega, rfl, fun j hj => by omega, HW⟩
  case round =>
    clear HW
    obtain ⟨k, hk, rfl, HT, HW⟩ := hrel
    obtain ⟨p0, p1, p2, p3⟩ := HW.out.2
    by_cases hlt : k < n
    · obtain ⟨x, hx⟩ : ∃ x, cs[k]? = some x := ⟨_, List.getElem?_eq_getElem (by rw [HL.out]; exact hlt)⟩
      rcases H1.out.2 with ⟨e0, _⟩ | ⟨b, o, c, e1, hc1⟩
      · omega
      · simp only [Value.slice.injEq, true_and] at e1
        obtain ⟨rfl, rfl⟩ := e1
        have i0 := Rd.elem MC.cells_length hc1 k x hx 0 _ rfl
        have i1 := Rd.elem MC.cells_length hc1 k x hx 1 _ rfl
        rw [← HW.out.1.cell (block_lt_of_cell i0), Nat.add_zero] at i0
        rw [← HW.out.1.cell (block_lt_of_cell i1)] at i1
        have HX : Hid (cs[k]? = some x) := hx
        clear hc1 hx
        have nb : ¬ b = wr.heap.size := Nat.ne_of_lt (block_lt_of_cell i0)
        have mb : b < wr.heap.size := block_lt_of_cell i0
        have HW2 : Hid (Below w.heap.size w (wr.alloc (.cells #[.int .i64 x.type, .int .u32 x.word] 108)) ∧ At4 (wr.alloc (.cells #[.int .i64 x.type, .int .u32 x.word] 108)) w.heap.size vr (.slice (some ⟨b, o, none⟩) n c1) vf vt) := ⟨below_on HW.out.1 (Nat.le_refl _) (below_alloc _ _), HW.out.2.alloc _⟩
        go_wp2_with fail
        refine (l2Type_any x.type _).mono ?_
        rintro e u ⟨rfl, rfl⟩
        clear i0 i1 nb mb p0 p1 p2 p3
        cases t1 : isT x.type
        · have HN : Hid (¬ ConstsOk cs) := fun e => by have := (e.2 k (by rw [HL.out]; exact hlt) x HX.out).1; simp [t1] at this
          clear t1
          go_wp2
          go_ret
          exact ⟨.no HN.out, HW2.out.1⟩
        · have HT1 : Hid (isT x.type = true) := t1
          clear t1
          by_cases q1 : x.type = 1
          · rw [q1] at HW2
            by_cases q2 : 1 < x.word
            · have HN : Hid (¬ ConstsOk cs) := fun e => by have := (e.2 k (by rw [HL.out]; exact hlt) x HX.out).2 q1; omega
              go_wp2
              go_ret
              exact ⟨.no HN.out, HW2.out.1⟩
            · have HC : Hid (ConstOk x) := ⟨HT1.out, fun _ => by omega⟩
              go_wp2
              go_roundw
              case rel => exact ⟨k + 1, by omega, by go_num, upto_next HX.out HC.out HT.out, HW2⟩
              case measure => simp [intOf]; omega
          · have q1' : (x.type == 1) = false := by simpa using q1
            have HC : Hid (ConstOk x) := ⟨HT1.out, fun e => absurd e q1⟩
            go_wp2
            go_roundw
            case rel => exact ⟨k + 1, by omega, by go_num, upto_next HX.out HC.out HT.out, HW2⟩
            case measure => simp [intOf]; omega
    · have hkn : n = k := by omega
      subst hkn
      have HY : Hid (decide ((n : Int) ≤ 64) = true ↔ ConstsOk cs) := by
        show _ ↔ _
        rw [decide_eq_true_eq]
        exact ⟨fun e => ⟨by rw [HL.out]; omega, by rw [HL.out]; exact HT.out⟩, fun e => by have := e.1; rw [HL.out] at this; omega⟩
      go_wp2
      go_ret
      exact ⟨.of HY.out, HW.out.1⟩
end Go.Proofs.YtalkpddhpmjgcaaGreat
namespace Go.Proofs.YtalkpddhpmjgcaaGreat
open Go.ChangeShapes Go.WideShapes Go.ChangeAt Go.RowKit
set_option linter.unusedVariables false
/-- A mask that may choose among cells. -/
structure MaskOk (p : MP) (a b c : Int) : Prop where
  low : 0 ≤ c
  high : c < 256
  mask : bits .and .i64 c (c + 1) = 0
  there : ¬ cellOf p a b = 0
  one : ∀ j : Nat, (j : Int) ≤ c → cellOf p a (b + j) = cellOf p a b
theorem cellOf_ne {p : MP} {r c : Int} (hs : ∀ l ∈ p.regions, l.length ≤ 1048576) (h : ¬ cellOf p r c = 0) : 0 ≤ c ∧ c < 1048576 := by
  unfold cellOf at h
  split at h
  · exact absurd rfl h
  · rename_i hq
    refine ⟨by omega, ?_⟩
    by_cases hr : r.toNat < p.regions.length
    · have hm := hs _ (List.getElem_mem hr)
      have e : p.regions.getD r.toNat [] = p.regions[r.toNat] := by rw [List.getD_eq_getElem?_getD, List.getElem?_eq_getElem hr]; rfl
      rw [e] at h
      by_cases hc : c.toNat < p.regions[r.toNat].length
      · omega
      · exact absurd (by rw [List.getD_eq_getElem?_getD, List.getElem?_eq_none (by omega)]; rfl) h
    · have e : p.regions.getD r.toNat [] = [] := by rw [List.getD_eq_getElem?_getD, List.getElem?_eq_none (by omega)]; rfl
      rw [e] at h
      exact absurd rfl h
theorem W64_of {z : Int} (h0 : -9223372036854775808 ≤ z) (h1 : z ≤ 9223372036854775807) : W64 z := by simp [W64, Lit.wf, IntKind.min, IntKind.max, IntKind.signed, IntKind.bits]; omega
theorem W64_in {z : Int} (h : W64 z) : -9223372036854775808 ≤ z ∧ z ≤ 9223372036854775807 := by simpa [W64, Lit.wf, IntKind.min, IntKind.max, IntKind.signed, IntKind.bits] using h
set_option maxHeartbeats 2000000 in
set_option maxRecDepth 100000 in
theorem l3Mask_any (v : VP) (p : MP) (op a b c : Int) (w : World) (hs : p.small) (h3 : p.regions.length = 3) (ha : W64 a) (hb : W64 b) (hc : W64 c) (h : RdP w v p) :
    Calls Tryz.prog 74 #[.agg #[v.r, v.k, v.f, v.t], .agg #[.int .i64 op, .int .i64 a, .int .i64 b, .int .i64 c]] w fun e w' => SaysIff e (MaskOk p a b c) ∧ Below w.heap.size w w' := by
  have HB : Hid (Below w.heap.size w ((w.alloc (.cells #[v.r, v.k, v.f, v.t] 31)).alloc (.cells #[.int .i64 op, .int .i64 a, .int .i64 b, .int .i64 c] 92))) := below_on (below_alloc _ _) (Nat.le_refl _) (below_alloc _ _)
  have HP : Hid (At4 ((w.alloc (.cells #[v.r, v.k, v.f, v.t] 31)).alloc (.cells #[.int .i64 op, .int .i64 a, .int .i64 b, .int .i64 c] 92)) w.heap.size v.r v.k v.f v.t) := (At4.new w _ _ _ _ _).alloc _
  have HX : Hid (At4 ((w.alloc (.cells #[v.r, v.k, v.f, v.t] 31)).alloc (.cells #[.int .i64 op, .int .i64 a, .int .i64 b, .int .i64 c] 92)) (w.heap.size + 1) (.int .i64 op) (.int .i64 a) (.int .i64 b) (.int .i64 c)) := by
    have := At4.new (w.alloc (.cells #[v.r, v.k, v.f, v.t] 31)) (.int .i64 op) (.int .i64 a) (.int .i64 b) (.int .i64 c) 92
    simpa [Hid] using this
  have H : Hid (p.small ∧ p.regions.length = 3 ∧ W64 a ∧ W64 b ∧ RdP w v p) := ⟨hs, h3, ha, hb, h⟩
  obtain ⟨c0, c1⟩ := W64_in hc
  clear hs h3 ha hb h hc
  by_cases q0 : c < 0
  · have HN : Hid (¬ MaskOk p a b c) := fun e => absurd e.low (by omega)
    clear H HP HX
    go_enter Tryz.func74, Tryz.ntmps74
    go_wp2
    go_ret
    exact ⟨.no HN.out, HB.out⟩
  by_cases q1 : 256 ≤ c
  · have HN : Hid (¬ MaskOk p a b c) := fun e => absurd e.high (by omega)
    clear H HP HX
    go_enter Tryz.func74, Tryz.ntmps74
    go_wp2
    go_ret
    exact ⟨.no HN.out, HB.out⟩
  obtain ⟨c, rfl⟩ := Int.eq_ofNat_of_zero_le (show 0 ≤ c by omega)
  have hcn : c < 256 := by omega
  clear c0 c1 q0 q1
  have q0 : ¬ (c : Int) < 0 := by omega
  have q1 : ¬ (256 : Int) ≤ (c : Int) := by omega
  by_cases q2 : bits .and .i64 (c : Int) ((c : Int) + 1) = 0
  · have HM : Hid (bits .and .i64 (c : Int) ((c : Int) + 1) = 0) := q2
    go_enter Tryz.func74, Tryz.ntmps74
    go_wp2_with fail
    clear q2 q0 q1
    refine (l3Cell_any v p a b _ H.out.1 H.out.2.1 H.out.2.2.1 H.out.2.2.2.1 (H.out.2.2.2.2.keep HB.out (Nat.le_refl _))).mono ?_
    rintro e u0 ⟨rfl, bl0⟩
    have HB1 : Hid (Below w.heap.size w u0 ∧ At4 u0 w.heap.size v.r v.k v.f v.t ∧ At4 u0 (w.heap.size + 1) (.int .i64 op) (.int .i64 a) (.int .i64 b) (.int .i64 (c : Int))) := ⟨below_on HB.out (Nat.le_refl _) bl0, HP.out.keep bl0, HX.out.keep bl0⟩
    clear bl0 HB HP HX
    generalize hT : cellOf p a b = T
    have HT : Hid (cellOf p a b = T) := hT
    clear hT
    go_wp2
    go_loopw [6] (fun i wr => ∃ k : Nat, k ≤ c + 1 ∧ i = .int .i64 k ∧ Hid ((0 < k → ¬ T = 0) ∧ ∀ j : Nat, j < k → cellOf p a (b + j) = T) ∧ Hid (Below w.heap.size w wr ∧ At4 wr w.heap.size v.r v.k v.f v.t ∧ At4 wr (w.heap.size + 1) (.int .i64 op) (.int .i64 a) (.int .i64 b) (.int .i64 (c : Int)))) (fun i _ => c + 1 - (intOf i).toNat)
    case atStart => exact ⟨0, by omega, rfl, ⟨fun h => by omega, fun j hj => by omega⟩, HB1⟩
    case round =>
      clear HB1
      obtain ⟨k, hk, rfl, HI, HW⟩ := hrel
      obtain ⟨p0, p1, p2, p3⟩ := HW.out.2.1
      obtain ⟨i0, i1, i2, i3⟩ := HW.out.2.2
      by_cases hlt : k < c + 1
      · have hlt' : (k : Int) ≤ (c : Int) := by omega
        by_cases q3 : T = 0
        · have q3' : (T == 0) = true := by simpa using q3
          have HN : Hid (¬ MaskOk p a b c) := fun e => e.there (HT.out.trans q3)
          clear q3
          go_wp2
          go_ret
          exact ⟨.no HN.out, HW.out.1⟩
        · have q3' : (T == 0) = false := by simpa using q3
          have hbb := cellOf_ne H.out.1.region (by rw [HT.out]; exact q3)
          obtain ⟨b0, b1⟩ := hbb
          have HQ3 : Hid (¬ T = 0) := q3
          clear q3
          go_wp2_with fail
          refine (l3Cell_any v p a (b + k) _ H.out.1 H.out.2.1 H.out.2.2.1 (W64_of (by omega) (by omega)) (H.out.2.2.2.2.keep HW.out.1 (Nat.le_refl _))).mono ?_
          rintro e u1 ⟨rfl, bl1⟩
          have HW2 : Hid (Below w.heap.size w u1 ∧ At4 u1 w.heap.size v.r v.k v.f v.t ∧ At4 u1 (w.heap.size + 1) (.int .i64 op) (.int .i64 a) (.int .i64 b) (.int .i64 (c : Int))) := ⟨below_on HW.out.1 (Nat.le_refl _) bl1, HW.out.2.1.keep bl1, HW.out.2.2.keep bl1⟩
          clear bl1 HW p0 p1 p2 p3 i0 i1 i2 i3
          by_cases q4 : cellOf p a (b + k) = T
          · rw [q4]
            have HI2 : Hid ((0 < k + 1 → ¬ T = 0) ∧ ∀ j : Nat, j < k + 1 → cellOf p a (b + j) = T) := ⟨fun _ => HQ3.out, fun j hj => by
              by_cases e : j = k
              · rw [e]; exact q4
              · exact HI.out.2 j (by omega)⟩
            clear q4
            go_wp2
            go_roundw
            case rel => exact ⟨k + 1, by omega, by go_num, HI2, HW2⟩
            case measure => simp [intOf]; omega
          · have HN : Hid (¬ MaskOk p a b c) := fun e => q4 ((e.one k hlt').trans HT.out)
            have q4' : (cellOf p a (b + k) == T) = false := by simpa using q4
            have q4'' : (cellOf p a (b + k) != T) = true := by simpa using q4
            go_wp2
            go_ret
            exact ⟨.no HN.out, HW2.out.1⟩
      · have hkn : k = c + 1 := by omega
        subst hkn
        have HY : Hid (MaskOk p a b c) := ⟨by omega, by omega, HM.out, by rw [HT.out]; exact HI.out.1 (by omega), fun j hj => by rw [HT.out]; exact HI.out.2 j (by omega)⟩
        have hle : ¬ ((c : Int) + 1) ≤ (c : Int) := by omega
        go_wp2
        go_ret
        exact ⟨.yes HY.out, HW.out.1⟩
  · have HN : Hid (¬ MaskOk p a b c) := fun e => q2 e.mask
    have q2' : (bits .and .i64 (c : Int) ((c : Int) + 1) == 0) = false := by simpa using q2
    clear H HP HX
    go_enter Tryz.func74, Tryz.ntmps74
    go_wp2
    go_ret
    exact ⟨.no HN.out, HB.out⟩
end Go.Proofs.YtalkpddhpmjgcaaGreat
