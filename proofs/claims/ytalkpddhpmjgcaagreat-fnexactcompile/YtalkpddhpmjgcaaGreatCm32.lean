import Derived.Test.YtalkpddhpmjgcaaGreatCm19
import Derived.Laws.StructEq
namespace Go.Proofs.YtalkpddhpmjgcaaGreat
open Go.ChangeShapes Go.WideShapes Go.ChangeAt Go.RowKit
set_option linter.unusedVariables false
set_option maxHeartbeats 1000000 in
theorem allTypes_any (s : Value) (ys : List Int) (w : World) (hn : ys.length ≤ 1048576) (h : Rd w 1 s ys.length (ys.flatMap intCell)) :
    Calls Tryz.prog 81 #[s] w fun e w' => e = .returned (.bool (ys.all isT)) ∧ w' = w := by
  have H1 : Hid (Rd w 1 s ys.length (ys.flatMap intCell)) := h
  obtain ⟨a1, c1, rfl⟩ := h.is_slice
  clear h
  generalize hLL : ys.length = n at hn H1
  have HL : Hid (ys.length = n) := hLL
  clear hLL
  generalize hR : ys.all isT = R
  have HR : Hid (ys.all isT = R) := hR
  clear hR
  go_enter Tryz.func81, Tryz.ntmps81
  go_wp2
  go_loopw [7] (fun i wr => ∃ k : Nat, k ≤ n ∧ i = .int .i64 k ∧ Hid ((ys.take k).all isT = true) ∧ wr = w) (fun i _ => n - (intOf i).toNat)
  case atStart => exact ⟨0, by omega, rfl, by simp [Hid], rfl⟩
  case round =>
    obtain ⟨k, hk, rfl, HT, rfl⟩ := hrel
    by_cases hlt : k < n
    · obtain ⟨x, hx⟩ : ∃ x, ys[k]? = some x := ⟨_, List.getElem?_eq_getElem (by rw [HL.out]; exact hlt)⟩
      rcases H1.out.2 with ⟨e0, _⟩ | ⟨g, o, c, e1, hc1⟩
      · omega
      · simp only [Value.slice.injEq, true_and] at e1
        obtain ⟨rfl, rfl⟩ := e1
        have i0 := Rd.elem intCell_length hc1 k x hx 0 _ rfl
        rw [Nat.mul_one, Nat.add_zero] at i0
        have HX : Hid (ys[k]? = some x) := hx
        clear hc1 hx
        go_wp2_with fail
        refine (isType_any x wr).mono ?_
        rintro e u ⟨rfl, rfl⟩
        cases hq : isT x with
        | false =>
          have hR : R = false := by
            rw [← HR.out]
            exact all_not _ _ _ (List.mem_of_getElem? HX.out) hq
          subst hR
          clear hq
          go_wp2
          go_ret
          exact ⟨rfl, rfl⟩
        | true =>
          have HN : Hid ((ys.take (k + 1)).all isT = true) := by
            show _ = _
            rw [all_next _ _ _ _ HX.out HT.out]
            exact hq
          clear hq
          go_wp2
          go_roundw
          case rel => exact ⟨k + 1, by omega, by go_num, HN, by trivial⟩
          case measure => simp [intOf]; omega
    · have hkn : k = n := by omega
      subst hkn
      have hR : R = true := by
        rw [← HR.out, ← HT.out, ← HL.out, List.take_length]
      subst hR
      go_wp2
      go_ret
      exact ⟨rfl, rfl⟩
/-- The regions are without a fault. -/
def RegionOk (r : List Int) : Prop := r.length ≤ 256 ∧ r.all isT = true
def RegionsOk (rs : List (List Int)) : Prop := rs.length = 3 ∧ ∀ j, j < rs.length → ∀ r, rs[j]? = some r → RegionOk r
set_option maxHeartbeats 2000000 in
set_option maxRecDepth 100000 in
theorem regionsHold_any (s : Value) (fs : List (List Int)) (w : World) (hL : fs.length ≤ 1048576) (hs : ∀ f ∈ fs, f.length ≤ 1048576) (h : RdR w s fs) :
    Calls Tryz.prog 56 #[s] w fun e w' => SaysIff e (RegionsOk fs) ∧ w' = w := by
  obtain ⟨xs, hxs, hrd, hel⟩ := h
  have hxl : xs.length = fs.length := by rw [← hxs]; simp
  have H1 : Hid (Rd w 1 s fs.length (xs.flatMap rCells) ∧ xs.map Prod.fst = fs ∧ (∀ x ∈ xs, Rd w 1 x.2 x.1.length (x.1.flatMap intCell)) ∧ (∀ f ∈ fs, f.length ≤ 1048576) ∧ xs.length = fs.length) := ⟨hrd, hxs, hel, hs, hxl⟩
  obtain ⟨a1, c1, rfl⟩ := hrd.is_slice
  clear hrd hxs hel hs hxl
  generalize hLL : fs.length = n at hL H1
  have HL : Hid (fs.length = n) := hLL
  clear hLL
  by_cases q0 : n = 3
  · subst q0
    go_enter Tryz.func56, Tryz.ntmps56
    go_wp2
    go_loopw [10] (fun i wr => ∃ k : Nat, k ≤ 3 ∧ i = .int .i64 k ∧ Hid (∀ j, j < k → ∀ r, fs[j]? = some r → RegionOk r) ∧ wr = w) (fun i _ => 3 - (intOf i).toNat)
    case atStart => exact ⟨0, by omega, rfl, fun j hj => by omega, rfl⟩
    case round =>
      obtain ⟨k, hk, rfl, HT, rfl⟩ := hrel
      by_cases hlt : k < 3
      · obtain ⟨⟨f, v⟩, hx⟩ : ∃ x, xs[k]? = some x := ⟨_, List.getElem?_eq_getElem (by rw [H1.out.2.2.2.2]; exact hlt)⟩
        have e1 := fst_at H1.out.2.1 hx
        have hf := H1.out.2.2.1 _ (List.mem_of_getElem? hx)
        have HX : Hid (Rd wr 1 v f.length (f.flatMap intCell) ∧ f.length ≤ 1048576 ∧ fs[k]? = some f) := ⟨hf, H1.out.2.2.2.1 _ (List.mem_of_getElem? e1), e1⟩
        clear e1
        rcases H1.out.1.2 with ⟨e0, _⟩ | ⟨b, o, c, e1, hc1⟩
        · omega
        · simp only [Value.slice.injEq, true_and] at e1
          obtain ⟨rfl, rfl⟩ := e1
          have i0 := Rd.elem rCells_length hc1 k _ hx 0 _ rfl
          rw [Nat.mul_one, Nat.add_zero] at i0
          clear hc1 hx
          simp only [] at i0 hf
          obtain ⟨av, cv, ev⟩ := hf.is_slice
          subst ev
          clear hf
          have hz := HX.out.2.1
          by_cases q1 : 256 < f.length
          · have HN : Hid (¬ RegionsOk fs) := fun e => absurd (e.2 k (by rw [HL.out]; exact hlt) f HX.out.2.2).1 (by omega)
            generalize f.length = m at *
            go_wp2
            go_ret
            exact ⟨.no HN.out, rfl⟩
          · go_wp2_with fail
            refine (allTypes_any _ f _ HX.out.2.1 HX.out.1).mono ?_
            rintro e u ⟨rfl, rfl⟩
            cases t1 : f.all isT
            · have HN : Hid (¬ RegionsOk fs) := fun e => by have := (e.2 k (by rw [HL.out]; exact hlt) f HX.out.2.2).2; simp [t1] at this
              clear t1
              go_wp2
              go_ret
              exact ⟨.no HN.out, rfl⟩
            · have HN : Hid (RegionOk f) := ⟨by omega, t1⟩
              clear t1
              go_wp2
              go_roundw
              case rel => exact ⟨k + 1, by omega, by go_num, upto_next HX.out.2.2 HN.out HT.out, by trivial⟩
              case measure => simp [intOf]; omega
      · have hkn : k = 3 := by omega
        subst hkn
        have HY : Hid (RegionsOk fs) := ⟨HL.out, by rw [HL.out]; exact HT.out⟩
        go_wp2
        go_ret
        exact ⟨.yes HY.out, rfl⟩
  · have HN : Hid (¬ RegionsOk fs) := fun e => q0 (by rw [← HL.out]; exact e.1)
    have hi : ¬ (n : Int) = 3 := by omega
    clear H1
    go_enter Tryz.func56, Tryz.ntmps56
    go_wp2
    go_ret
    exact ⟨.no HN.out, rfl⟩
end Go.Proofs.YtalkpddhpmjgcaaGreat
namespace Go.Proofs.YtalkpddhpmjgcaaGreat
open Go.ChangeShapes Go.WideShapes Go.ChangeAt Go.RowKit
set_option linter.unusedVariables false
theorem W32_range {z : Int} (h : W32 z) : 0 ≤ z ∧ z ≤ 4294967295 := by simpa [W32, Lit.wf, IntKind.min, IntKind.max, IntKind.signed, IntKind.bits] using h
theorem value_eql (a b a' b' : Int) (w : World) : (binOp .eql 141 (.agg #[.int .i64 a, .int .u32 b]) (.agg #[.int .i64 a', .int .u32 b'])).run Tryz.prog w = .ok (.bool (decide (a = a' ∧ b = b'))) w := by
  have u64 := Tryz.underlying2
  have a64 := Tryz.isAgg2
  have z64 := Tryz.sizeOf2
  have u32 := Tryz.underlying106
  have a32 := Tryz.isAgg106
  have z32 := Tryz.sizeOf106
  have hS : Tryz.prog.underlying 141 = some (.struct (Tryz.prog.fieldsOf 141)) := by kernel_rfl
  have hp : Tryz.prog.stoodInHeld 141 = false := by kernel_rfl
  rw [run_eql_struct, show (10000 : Nat) = 9999 + 1 from rfl, run_equalIn_agg w 9999 141 _ _ hS hp]
  simp only [Program.fieldsOf, Tryz.underlying141]
  go_simp
  by_cases h1 : a = a'
  · by_cases h2 : b = b' <;> simp [*]
  · simp [*]
set_option maxHeartbeats 1000000 in
set_option maxRecDepth 100000 in
theorem isValue_any (t x : Int) (w : World) (hx : 0 ≤ x) :
    Calls Tryz.prog 82 #[.agg #[.int .i64 t, .int .u32 x]] w fun e w' => SaysIff e (ConstOk ⟨t, x⟩) ∧ Below w.heap.size w w' := by
  by_cases h1 : t = 1
  · subst h1
    have e0 : ∀ w, (binOp .eql 141 (.agg #[.int .i64 1, .int .u32 x]) (.agg #[.int .i64 1, .int .u32 0])).run Tryz.prog w = .ok (.bool (decide (1 = (1 : Int) ∧ x = 0))) w := value_eql 1 x 1 0
    have e1 : ∀ w, (binOp .eql 141 (.agg #[.int .i64 1, .int .u32 x]) (.agg #[.int .i64 1, .int .u32 1])).run Tryz.prog w = .ok (.bool (decide (1 = (1 : Int) ∧ x = 1))) w := value_eql 1 x 1 1
    by_cases h2 : x = 0
    · have e2 : decide (1 = (1 : Int) ∧ x = 0) = true := by simp [h2]
      have HY : Hid (ConstOk ⟨1, x⟩) := ⟨rfl, fun _ => by simp only []; omega⟩
      rw [e2] at e0
      clear h2 e2 e1 hx
      go_enter Tryz.func82, Tryz.ntmps82
      go_wp2
      go_ret
      exact ⟨.yes HY.out, below_alloc _ _⟩
    · have e2 : decide (1 = (1 : Int) ∧ x = 0) = false := by simp [h2]
      rw [e2] at e0
      by_cases h3 : x = 1
      · have e3 : decide (1 = (1 : Int) ∧ x = 1) = true := by simp [h3]
        have HY : Hid (ConstOk ⟨1, x⟩) := ⟨rfl, fun _ => by simp only []; omega⟩
        rw [e3] at e1
        clear h2 e2 h3 e3 hx
        go_enter Tryz.func82, Tryz.ntmps82
        go_wp2
        go_ret
        exact ⟨.yes HY.out, below_alloc _ _⟩
      · have e3 : decide (1 = (1 : Int) ∧ x = 1) = false := by simp [h3]
        have HN : Hid (¬ ConstOk ⟨1, x⟩) := fun e => by have := e.2 rfl; simp only [] at this; omega
        rw [e3] at e1
        clear h2 e2 h3 e3 hx
        go_enter Tryz.func82, Tryz.ntmps82
        go_wp2
        go_ret
        exact ⟨.no HN.out, below_alloc _ _⟩
  · have h1' : (t == 1) = false := by simpa using h1
    have HI : Hid (isT t = true ↔ ConstOk ⟨t, x⟩) := ⟨fun e => ⟨e, fun e => absurd e h1⟩, fun e => e.1⟩
    go_enter Tryz.func82, Tryz.ntmps82
    go_wp2_with fail
    refine (isType_any t _).mono ?_
    rintro e u ⟨rfl, rfl⟩
    go_wp2
    go_ret
    exact ⟨.of HI.out, below_alloc _ _⟩
end Go.Proofs.YtalkpddhpmjgcaaGreat
