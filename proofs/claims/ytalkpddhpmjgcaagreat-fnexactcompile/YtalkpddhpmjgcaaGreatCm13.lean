import Derived.Test.YtalkpddhpmjgcaaGreatCm12
import Derived.Test.YtalkpddhpmjgcaaGreatCm3
import Derived.Test.YtalkpddhpmjgcaaGreatCm5
namespace Go.Proofs.YtalkpddhpmjgcaaGreat
open Go.ChangeShapes Go.WideShapes Go.ChangeAt Go.RowKit
set_option linter.unusedVariables false
/-- What marking leaves of n things of q cells each, from k on. -/
def mkRow {α : Type} (mk : Int → α) (q : Nat) (k : Int) (n : Nat) : List α := (List.range n).map fun (i : Nat) => mk (k + (q : Int) * (i : Int))
theorem mkRow_length {α : Type} (mk : Int → α) (q : Nat) (k : Int) (n : Nat) : (mkRow mk q k n).length = n := by simp [mkRow]
theorem mkRow_succ {α : Type} (mk : Int → α) (q : Nat) (k : Int) (n : Nat) : mkRow mk q k (n + 1) = mkRow mk q k n ++ [mk (k + (q : Int) * (n : Int))] := by simp [mkRow, List.range_succ]
theorem mkRow_at {α : Type} (mk : Int → α) (q : Nat) (k : Int) (n i : Nat) (h : i < n) : (mkRow mk q k n)[i]? = some (mk (k + (q : Int) * (i : Int))) := by simp [mkRow, h]
/-- Marked up to j. -/
def mkTo {α : Type} (mk : Int → α) (q : Nat) (k : Int) (cs : List α) (j : Nat) : List α := mkRow mk q k j ++ cs.drop j
theorem mkTo_zero {α : Type} (mk : Int → α) (q : Nat) (k : Int) (cs : List α) : mkTo mk q k cs 0 = cs := by simp [mkTo, mkRow]
theorem mkTo_all {α : Type} (mk : Int → α) (q : Nat) (k : Int) (cs : List α) (n : Nat) (h : cs.length = n) : mkTo mk q k cs n = mkRow mk q k n := by simp [mkTo, ← h]
theorem mkTo_parts {α : Type} (mk : Int → α) (q : Nat) (k : Int) (f : α → List Value) (cs : List α) (j : Nat) (x : α) (h : cs[j]? = some x) : (mkTo mk q k cs j).flatMap f = (mkRow mk q k j).flatMap f ++ (f x ++ (cs.drop (j + 1)).flatMap f) := by
  obtain ⟨hlt, rfl⟩ := List.getElem?_eq_some_iff.1 h
  unfold mkTo
  rw [List.flatMap_append, List.drop_eq_getElem_cons hlt, List.flatMap_cons]
theorem mkTo_next {α : Type} (mk : Int → α) (q : Nat) (k : Int) (f : α → List Value) (cs : List α) (j : Nat) : (mkTo mk q k cs (j + 1)).flatMap f = (mkRow mk q k j).flatMap f ++ (f (mk (k + (q : Int) * (j : Int))) ++ (cs.drop (j + 1)).flatMap f) := by
  unfold mkTo
  rw [mkRow_succ, List.flatMap_append, List.flatMap_append, List.append_assoc]
  simp
def mkC (k : Int) : MC := ⟨k, (k + 1) % 4294967296⟩
def mkI (k : Int) : MI := ⟨k, k + 1, k + 1 + 1, k + 1 + 1 + 1⟩
def mkT (k : Int) : MT := ⟨k, k + 1, k + 1 + 1, (k + 1 + 1 + 1) % 4294967296⟩
set_option maxHeartbeats 2000000 in
set_option maxRecDepth 100000 in
theorem markConstS_ex (base : Nat) (s : Value) (cs : List MC) (k0 : Int) (w : World) (hn : cs.length ≤ 1048576) (h0 : 0 ≤ k0) (h1 : k0 ≤ 1152921504606846976) (h : w.ownsRow base 108 2 s cs.length (cs.flatMap MC.cells)) :
    Calls Tryz.prog 33 #[s, .int .i64 k0] w fun e w' => e = .returned (.int .i64 (k0 + 2 * (cs.length : Int))) ∧ w'.ownsRow base 108 2 s cs.length ((mkRow mkC 2 k0 cs.length).flatMap MC.cells) ∧ w.grownBy w' s.ownBlock := by
  have H : Hid (w.ownsRow base 108 2 s cs.length ((mkTo mkC 2 k0 cs 0).flatMap MC.cells)) := by show World.ownsRow _ _ _ _ _ _ _; rw [mkTo_zero]; exact h
  rcases own_row h with ⟨rfl, hz⟩ | ⟨g, c, rfl⟩
  · clear h
    rw [hz] at H ⊢
    have hfin : Hid (w.ownsRow base 108 2 (.slice none 0 0) 0 ((mkRow mkC 2 k0 0).flatMap MC.cells)) := World.ownsRow_nil _ _ _ _
    go_enter Tryz.func33, Tryz.ntmps33
    go_wp2
    go_loopw [1, 5] (fun q i wr => q = .int .i64 k0 ∧ i = .int .i64 0 ∧ wr = w) (fun _ _ _ => 0)
    case atStart => exact ⟨rfl, rfl, rfl⟩
    case round =>
      obtain ⟨rfl, rfl, rfl⟩ := hrel
      go_wp2
      go_ret
      exact ⟨by simp, hfin.out, ⟨rfl, rfl, rfl, Nat.le_refl _, fun _ _ _ => rfl⟩⟩
  · clear h
    generalize hLL : cs.length = n at hn H ⊢
    have HL : Hid (cs.length = n) := hLL
    clear hLL
    go_enter Tryz.func33, Tryz.ntmps33
    go_wp2
    go_loopw [1, 5] (fun q i wr => ∃ k : Nat, k ≤ n ∧ q = .int .i64 (k0 + 2 * k) ∧ i = .int .i64 k ∧ Hid (wr.ownsRow base 108 2 (.slice (some ⟨g, 0, none⟩) n c) n ((mkTo mkC 2 k0 cs k).flatMap MC.cells) ∧ w.grownBy wr (some g))) (fun _ i _ => n - (intOf i).toNat)
    case atStart => exact ⟨0, by omega, by simp, rfl, H.out, ⟨rfl, rfl, rfl, Nat.le_refl _, fun _ _ _ => rfl⟩⟩
    case round =>
      obtain ⟨k, hk, rfl, rfl, HM⟩ := hrel
      by_cases hlt : k < n
      · obtain ⟨x, hx⟩ : ∃ x, cs[k]? = some x := ⟨_, List.getElem?_eq_getElem (by rw [HL.out]; exact hlt)⟩
        have hA : ((mkRow mkC 2 k0 k).flatMap MC.cells).length = k * 2 := by rw [flat_length MC.cells 2 MC.cells_length, mkRow_length]
        have O0 := HM.out.1
        rw [mkTo_parts mkC 2 k0 MC.cells cs k x hx] at O0
        have HX : Hid ((mkTo mkC 2 k0 cs (k + 1)).flatMap MC.cells = (mkRow mkC 2 k0 k).flatMap MC.cells ++ (MC.cells (mkC (k0 + 2 * (k : Int))) ++ (cs.drop (k + 1)).flatMap MC.cells)) := mkTo_next mkC 2 k0 MC.cells cs k
        generalize (mkRow mkC 2 k0 k).flatMap MC.cells = A at O0 hA HX
        generalize (cs.drop (k + 1)).flatMap MC.cells = R at O0 HX
        clear hx
        have d0 := O0.cellAt (k * 2) (by omega)
        have z0 := O0.frozenAt (k * 2)
        have O1 := (O0.stored (k * 2) (.int .i64 (k0 + 2 * k))).1
        have d1 := O1.cellAt (k * 2 + 1) (by omega)
        have z1 := O1.frozenAt (k * 2 + 1)
        have O2 := (O1.stored (k * 2 + 1) (.int .u32 ((k0 + 2 * k + 1) % 4294967296))).1
        rw [List.getElem?_append_right (by omega), hA, Nat.sub_self] at d0
        rw [List.getElem?_set_ne (by omega), List.getElem?_append_right (by omega), hA, Nat.add_sub_cancel_left] at d1
        simp only [MC.cells, List.cons_append, List.getElem?_cons_zero, List.getElem?_cons_succ] at d0 d1
        have HN : Hid ((((wr).setCell ⟨g, k * 2, none⟩ (.int .i64 (k0 + 2 * k))).setCell ⟨g, k * 2 + 1, none⟩ (.int .u32 ((k0 + 2 * k + 1) % 4294967296))).ownsRow base 108 2 (.slice (some ⟨g, 0, none⟩) n c) n ((mkTo mkC 2 k0 cs (k + 1)).flatMap MC.cells) ∧ w.grownBy (((wr).setCell ⟨g, k * 2, none⟩ (.int .i64 (k0 + 2 * k))).setCell ⟨g, k * 2 + 1, none⟩ (.int .u32 ((k0 + 2 * k + 1) % 4294967296))) (some g)) := by
          refine ⟨?_, grown_set' (grown_set' (HM.out.2) _ _) _ _⟩
          have s1 := O2
          rw [show MC.cells x = [.int .i64 x.type, .int .u32 x.word] from rfl, set2 A R _ _ _ _ (k * 2) hA] at s1
          rw [HX.out]
          exact s1
        clear HX hA O0 O1 O2
        go_wp2
        go_roundw
        case rel => exact ⟨k + 1, by omega, by go_num, by go_num, HN⟩
        case measure => simp [intOf]; omega
      · have hkn : k = n := by omega
        subst hkn
        have HE : Hid (wr.ownsRow base 108 2 (.slice (some ⟨g, 0, none⟩) k c) k ((mkRow mkC 2 k0 k).flatMap MC.cells) ∧ w.grownBy wr (some g)) := by
          have := HM.out
          rw [mkTo_all mkC 2 k0 cs k HL.out] at this
          exact this
        go_wp2
        go_ret
        exact ⟨rfl, HE.out.1, HE.out.2⟩
set_option maxHeartbeats 1000000 in
theorem heldConstS_ex (s : Value) (n : Nat) (k0 : Int) (w : World) (hn : n ≤ 1048576) (h0 : 0 ≤ k0) (h1 : k0 ≤ 1152921504606846976) (h : Rd w 2 s n ((mkRow mkC 2 k0 n).flatMap MC.cells)) :
    Calls Tryz.prog 37 #[s, .int .i64 k0] w fun e w' => e = .returned (.int .i64 (k0 + 2 * (n : Int))) ∧ w' = w := by
  have H1 : Hid (Rd w 2 s n ((mkRow mkC 2 k0 n).flatMap MC.cells)) := h
  obtain ⟨a1, c1, rfl⟩ := h.is_slice
  clear h
  go_enter Tryz.func37, Tryz.ntmps37
  go_wp2
  go_loopw [1, 5] (fun q i wr => ∃ k : Nat, k ≤ n ∧ q = .int .i64 (k0 + 2 * k) ∧ i = .int .i64 k ∧ wr = w) (fun _ i _ => n - (intOf i).toNat)
  case atStart => exact ⟨0, by omega, by simp, rfl, rfl⟩
  case round =>
    obtain ⟨k, hk, rfl, rfl, rfl⟩ := hrel
    by_cases hlt : k < n
    · have hz := mkRow_at mkC 2 k0 n k hlt
      rcases H1.out.2 with ⟨e0, _⟩ | ⟨g, o, c, e1, hc1⟩
      · omega
      simp only [Value.slice.injEq, true_and] at e1
      obtain ⟨rfl, rfl⟩ := e1
      have j0 := Rd.elem MC.cells_length hc1 k _ hz 0 _ rfl
      have j1 := Rd.elem MC.cells_length hc1 k _ hz 1 _ rfl
      simp only [mkC, Nat.add_zero] at j0 j1
      clear hc1 hz
      go_wp2
      go_roundw
      case rel => exact ⟨k + 1, by omega, by go_num, by go_num, by trivial⟩
      case measure => simp [intOf]; omega
    · have hkn : k = n := by omega
      subst hkn
      go_wp2
      go_ret
      exact ⟨rfl, rfl⟩
set_option maxHeartbeats 2000000 in
set_option maxRecDepth 100000 in
theorem markInstrS_ex (base : Nat) (s : Value) (cs : List MI) (k0 : Int) (w : World) (hn : cs.length ≤ 1048576) (h0 : 0 ≤ k0) (h1 : k0 ≤ 1152921504606846976) (h : w.ownsRow base 92 4 s cs.length (cs.flatMap MI.cells)) :
    Calls Tryz.prog 66 #[s, .int .i64 k0] w fun e w' => e = .returned (.int .i64 (k0 + 4 * (cs.length : Int))) ∧ w'.ownsRow base 92 4 s cs.length ((mkRow mkI 4 k0 cs.length).flatMap MI.cells) ∧ w.grownBy w' s.ownBlock := by
  have H : Hid (w.ownsRow base 92 4 s cs.length ((mkTo mkI 4 k0 cs 0).flatMap MI.cells)) := by show World.ownsRow _ _ _ _ _ _ _; rw [mkTo_zero]; exact h
  rcases own_row h with ⟨rfl, hz⟩ | ⟨g, c, rfl⟩
  · clear h
    rw [hz] at H ⊢
    have hfin : Hid (w.ownsRow base 92 4 (.slice none 0 0) 0 ((mkRow mkI 4 k0 0).flatMap MI.cells)) := World.ownsRow_nil _ _ _ _
    go_enter Tryz.func66, Tryz.ntmps66
    go_wp2
    go_loopw [1, 5] (fun q i wr => q = .int .i64 k0 ∧ i = .int .i64 0 ∧ wr = w) (fun _ _ _ => 0)
    case atStart => exact ⟨rfl, rfl, rfl⟩
    case round =>
      obtain ⟨rfl, rfl, rfl⟩ := hrel
      go_wp2
      go_ret
      exact ⟨by simp, hfin.out, ⟨rfl, rfl, rfl, Nat.le_refl _, fun _ _ _ => rfl⟩⟩
  · clear h
    generalize hLL : cs.length = n at hn H ⊢
    have HL : Hid (cs.length = n) := hLL
    clear hLL
    go_enter Tryz.func66, Tryz.ntmps66
    go_wp2
    go_loopw [1, 5] (fun q i wr => ∃ k : Nat, k ≤ n ∧ q = .int .i64 (k0 + 4 * k) ∧ i = .int .i64 k ∧ Hid (wr.ownsRow base 92 4 (.slice (some ⟨g, 0, none⟩) n c) n ((mkTo mkI 4 k0 cs k).flatMap MI.cells) ∧ w.grownBy wr (some g))) (fun _ i _ => n - (intOf i).toNat)
    case atStart => exact ⟨0, by omega, by simp, rfl, H.out, ⟨rfl, rfl, rfl, Nat.le_refl _, fun _ _ _ => rfl⟩⟩
    case round =>
      obtain ⟨k, hk, rfl, rfl, HM⟩ := hrel
      by_cases hlt : k < n
      · obtain ⟨x, hx⟩ : ∃ x, cs[k]? = some x := ⟨_, List.getElem?_eq_getElem (by rw [HL.out]; exact hlt)⟩
        have hA : ((mkRow mkI 4 k0 k).flatMap MI.cells).length = k * 4 := by rw [flat_length MI.cells 4 MI.cells_length, mkRow_length]
        have O0 := HM.out.1
        rw [mkTo_parts mkI 4 k0 MI.cells cs k x hx] at O0
        have HX : Hid ((mkTo mkI 4 k0 cs (k + 1)).flatMap MI.cells = (mkRow mkI 4 k0 k).flatMap MI.cells ++ (MI.cells (mkI (k0 + 4 * (k : Int))) ++ (cs.drop (k + 1)).flatMap MI.cells)) := mkTo_next mkI 4 k0 MI.cells cs k
        generalize (mkRow mkI 4 k0 k).flatMap MI.cells = A at O0 hA HX
        generalize (cs.drop (k + 1)).flatMap MI.cells = R at O0 HX
        clear hx
        have d0 := O0.cellAt (k * 4) (by omega)
        have z0 := O0.frozenAt (k * 4)
        have O1 := (O0.stored (k * 4) (.int .i64 (k0 + 4 * k))).1
        have d1 := O1.cellAt (k * 4 + 1) (by omega)
        have z1 := O1.frozenAt (k * 4 + 1)
        have O2 := (O1.stored (k * 4 + 1) (.int .i64 (k0 + 4 * k + 1))).1
        have d2 := O2.cellAt (k * 4 + 2) (by omega)
        have z2 := O2.frozenAt (k * 4 + 2)
        have O3 := (O2.stored (k * 4 + 2) (.int .i64 (k0 + 4 * k + 1 + 1))).1
        have d3 := O3.cellAt (k * 4 + 3) (by omega)
        have z3 := O3.frozenAt (k * 4 + 3)
        have O4 := (O3.stored (k * 4 + 3) (.int .i64 (k0 + 4 * k + 1 + 1 + 1))).1
        rw [List.getElem?_append_right (by omega), hA, Nat.sub_self] at d0
        rw [List.getElem?_set_ne (by omega), List.getElem?_append_right (by omega), hA, Nat.add_sub_cancel_left] at d1
        rw [List.getElem?_set_ne (by omega), List.getElem?_set_ne (by omega), List.getElem?_append_right (by omega), hA, Nat.add_sub_cancel_left] at d2
        rw [List.getElem?_set_ne (by omega), List.getElem?_set_ne (by omega), List.getElem?_set_ne (by omega), List.getElem?_append_right (by omega), hA, Nat.add_sub_cancel_left] at d3
        simp only [MI.cells, List.cons_append, List.getElem?_cons_zero, List.getElem?_cons_succ] at d0 d1 d2 d3
        have HN : Hid ((((((wr).setCell ⟨g, k * 4, none⟩ (.int .i64 (k0 + 4 * k))).setCell ⟨g, k * 4 + 1, none⟩ (.int .i64 (k0 + 4 * k + 1))).setCell ⟨g, k * 4 + 2, none⟩ (.int .i64 (k0 + 4 * k + 1 + 1))).setCell ⟨g, k * 4 + 3, none⟩ (.int .i64 (k0 + 4 * k + 1 + 1 + 1))).ownsRow base 92 4 (.slice (some ⟨g, 0, none⟩) n c) n ((mkTo mkI 4 k0 cs (k + 1)).flatMap MI.cells) ∧ w.grownBy (((((wr).setCell ⟨g, k * 4, none⟩ (.int .i64 (k0 + 4 * k))).setCell ⟨g, k * 4 + 1, none⟩ (.int .i64 (k0 + 4 * k + 1))).setCell ⟨g, k * 4 + 2, none⟩ (.int .i64 (k0 + 4 * k + 1 + 1))).setCell ⟨g, k * 4 + 3, none⟩ (.int .i64 (k0 + 4 * k + 1 + 1 + 1))) (some g)) := by
          refine ⟨?_, grown_set' (grown_set' (grown_set' (grown_set' (HM.out.2) _ _) _ _) _ _) _ _⟩
          have s1 := O4
          rw [show MI.cells x = [.int .i64 x.op, .int .i64 x.a, .int .i64 x.b, .int .i64 x.c] from rfl, set4 A R _ _ _ _ _ _ _ _ (k * 4) hA] at s1
          rw [HX.out]
          exact s1
        clear HX hA O0 O1 O2 O3 O4
        go_wp2
        go_roundw
        case rel => exact ⟨k + 1, by omega, by go_num, by go_num, HN⟩
        case measure => simp [intOf]; omega
      · have hkn : k = n := by omega
        subst hkn
        have HE : Hid (wr.ownsRow base 92 4 (.slice (some ⟨g, 0, none⟩) k c) k ((mkRow mkI 4 k0 k).flatMap MI.cells) ∧ w.grownBy wr (some g)) := by
          have := HM.out
          rw [mkTo_all mkI 4 k0 cs k HL.out] at this
          exact this
        go_wp2
        go_ret
        exact ⟨rfl, HE.out.1, HE.out.2⟩
set_option maxHeartbeats 1000000 in
theorem heldInstrS_ex (s : Value) (n : Nat) (k0 : Int) (w : World) (hn : n ≤ 1048576) (h0 : 0 ≤ k0) (h1 : k0 ≤ 1152921504606846976) (h : Rd w 4 s n ((mkRow mkI 4 k0 n).flatMap MI.cells)) :
    Calls Tryz.prog 68 #[s, .int .i64 k0] w fun e w' => e = .returned (.int .i64 (k0 + 4 * (n : Int))) ∧ w' = w := by
  have H1 : Hid (Rd w 4 s n ((mkRow mkI 4 k0 n).flatMap MI.cells)) := h
  obtain ⟨a1, c1, rfl⟩ := h.is_slice
  clear h
  go_enter Tryz.func68, Tryz.ntmps68
  go_wp2
  go_loopw [1, 5] (fun q i wr => ∃ k : Nat, k ≤ n ∧ q = .int .i64 (k0 + 4 * k) ∧ i = .int .i64 k ∧ wr = w) (fun _ i _ => n - (intOf i).toNat)
  case atStart => exact ⟨0, by omega, by simp, rfl, rfl⟩
  case round =>
    obtain ⟨k, hk, rfl, rfl, rfl⟩ := hrel
    by_cases hlt : k < n
    · have hz := mkRow_at mkI 4 k0 n k hlt
      rcases H1.out.2 with ⟨e0, _⟩ | ⟨g, o, c, e1, hc1⟩
      · omega
      simp only [Value.slice.injEq, true_and] at e1
      obtain ⟨rfl, rfl⟩ := e1
      have j0 := Rd.elem MI.cells_length hc1 k _ hz 0 _ rfl
      have j1 := Rd.elem MI.cells_length hc1 k _ hz 1 _ rfl
      have j2 := Rd.elem MI.cells_length hc1 k _ hz 2 _ rfl
      have j3 := Rd.elem MI.cells_length hc1 k _ hz 3 _ rfl
      simp only [mkI, Nat.add_zero] at j0 j1 j2 j3
      clear hc1 hz
      go_wp2
      go_roundw
      case rel => exact ⟨k + 1, by omega, by go_num, by go_num, by trivial⟩
      case measure => simp [intOf]; omega
    · have hkn : k = n := by omega
      subst hkn
      go_wp2
      go_ret
      exact ⟨rfl, rfl⟩
set_option maxHeartbeats 2000000 in
set_option maxRecDepth 100000 in
theorem markCertS_ex (base : Nat) (s : Value) (cs : List MT) (k0 : Int) (w : World) (hn : cs.length ≤ 1048576) (h0 : 0 ≤ k0) (h1 : k0 ≤ 1152921504606846976) (h : w.ownsRow base 112 4 s cs.length (cs.flatMap MT.cells)) :
    Calls Tryz.prog 35 #[s, .int .i64 k0] w fun e w' => e = .returned (.int .i64 (k0 + 4 * (cs.length : Int))) ∧ w'.ownsRow base 112 4 s cs.length ((mkRow mkT 4 k0 cs.length).flatMap MT.cells) ∧ w.grownBy w' s.ownBlock := by
  have H : Hid (w.ownsRow base 112 4 s cs.length ((mkTo mkT 4 k0 cs 0).flatMap MT.cells)) := by show World.ownsRow _ _ _ _ _ _ _; rw [mkTo_zero]; exact h
  rcases own_row h with ⟨rfl, hz⟩ | ⟨g, c, rfl⟩
  · clear h
    rw [hz] at H ⊢
    have hfin : Hid (w.ownsRow base 112 4 (.slice none 0 0) 0 ((mkRow mkT 4 k0 0).flatMap MT.cells)) := World.ownsRow_nil _ _ _ _
    go_enter Tryz.func35, Tryz.ntmps35
    go_wp2
    go_loopw [1, 5] (fun q i wr => q = .int .i64 k0 ∧ i = .int .i64 0 ∧ wr = w) (fun _ _ _ => 0)
    case atStart => exact ⟨rfl, rfl, rfl⟩
    case round =>
      obtain ⟨rfl, rfl, rfl⟩ := hrel
      go_wp2
      go_ret
      exact ⟨by simp, hfin.out, ⟨rfl, rfl, rfl, Nat.le_refl _, fun _ _ _ => rfl⟩⟩
  · clear h
    generalize hLL : cs.length = n at hn H ⊢
    have HL : Hid (cs.length = n) := hLL
    clear hLL
    go_enter Tryz.func35, Tryz.ntmps35
    go_wp2
    go_loopw [1, 5] (fun q i wr => ∃ k : Nat, k ≤ n ∧ q = .int .i64 (k0 + 4 * k) ∧ i = .int .i64 k ∧ Hid (wr.ownsRow base 112 4 (.slice (some ⟨g, 0, none⟩) n c) n ((mkTo mkT 4 k0 cs k).flatMap MT.cells) ∧ w.grownBy wr (some g))) (fun _ i _ => n - (intOf i).toNat)
    case atStart => exact ⟨0, by omega, by simp, rfl, H.out, ⟨rfl, rfl, rfl, Nat.le_refl _, fun _ _ _ => rfl⟩⟩
    case round =>
      obtain ⟨k, hk, rfl, rfl, HM⟩ := hrel
      by_cases hlt : k < n
      · obtain ⟨x, hx⟩ : ∃ x, cs[k]? = some x := ⟨_, List.getElem?_eq_getElem (by rw [HL.out]; exact hlt)⟩
        have hA : ((mkRow mkT 4 k0 k).flatMap MT.cells).length = k * 4 := by rw [flat_length MT.cells 4 MT.cells_length, mkRow_length]
        have O0 := HM.out.1
        rw [mkTo_parts mkT 4 k0 MT.cells cs k x hx] at O0
        have HX : Hid ((mkTo mkT 4 k0 cs (k + 1)).flatMap MT.cells = (mkRow mkT 4 k0 k).flatMap MT.cells ++ (MT.cells (mkT (k0 + 4 * (k : Int))) ++ (cs.drop (k + 1)).flatMap MT.cells)) := mkTo_next mkT 4 k0 MT.cells cs k
        generalize (mkRow mkT 4 k0 k).flatMap MT.cells = A at O0 hA HX
        generalize (cs.drop (k + 1)).flatMap MT.cells = R at O0 HX
        clear hx
        have d0 := O0.cellAt (k * 4) (by omega)
        have z0 := O0.frozenAt (k * 4)
        have O1 := (O0.stored (k * 4) (.int .i64 (k0 + 4 * k))).1
        have d1 := O1.cellAt (k * 4 + 1) (by omega)
        have z1 := O1.frozenAt (k * 4 + 1)
        have O2 := (O1.stored (k * 4 + 1) (.int .i64 (k0 + 4 * k + 1))).1
        have d2 := O2.cellAt (k * 4 + 2) (by omega)
        have z2 := O2.frozenAt (k * 4 + 2)
        have O3 := (O2.stored (k * 4 + 2) (.int .i64 (k0 + 4 * k + 1 + 1))).1
        have d3 := O3.cellAt (k * 4 + 3) (by omega)
        have z3 := O3.frozenAt (k * 4 + 3)
        have O4 := (O3.stored (k * 4 + 3) (.int .u32 ((k0 + 4 * k + 1 + 1 + 1) % 4294967296))).1
        rw [List.getElem?_append_right (by omega), hA, Nat.sub_self] at d0
        rw [List.getElem?_set_ne (by omega), List.getElem?_append_right (by omega), hA, Nat.add_sub_cancel_left] at d1
        rw [List.getElem?_set_ne (by omega), List.getElem?_set_ne (by omega), List.getElem?_append_right (by omega), hA, Nat.add_sub_cancel_left] at d2
        rw [List.getElem?_set_ne (by omega), List.getElem?_set_ne (by omega), List.getElem?_set_ne (by omega), List.getElem?_append_right (by omega), hA, Nat.add_sub_cancel_left] at d3
        simp only [MT.cells, List.cons_append, List.getElem?_cons_zero, List.getElem?_cons_succ] at d0 d1 d2 d3
        have HN : Hid ((((((wr).setCell ⟨g, k * 4, none⟩ (.int .i64 (k0 + 4 * k))).setCell ⟨g, k * 4 + 1, none⟩ (.int .i64 (k0 + 4 * k + 1))).setCell ⟨g, k * 4 + 2, none⟩ (.int .i64 (k0 + 4 * k + 1 + 1))).setCell ⟨g, k * 4 + 3, none⟩ (.int .u32 ((k0 + 4 * k + 1 + 1 + 1) % 4294967296))).ownsRow base 112 4 (.slice (some ⟨g, 0, none⟩) n c) n ((mkTo mkT 4 k0 cs (k + 1)).flatMap MT.cells) ∧ w.grownBy (((((wr).setCell ⟨g, k * 4, none⟩ (.int .i64 (k0 + 4 * k))).setCell ⟨g, k * 4 + 1, none⟩ (.int .i64 (k0 + 4 * k + 1))).setCell ⟨g, k * 4 + 2, none⟩ (.int .i64 (k0 + 4 * k + 1 + 1))).setCell ⟨g, k * 4 + 3, none⟩ (.int .u32 ((k0 + 4 * k + 1 + 1 + 1) % 4294967296))) (some g)) := by
          refine ⟨?_, grown_set' (grown_set' (grown_set' (grown_set' (HM.out.2) _ _) _ _) _ _) _ _⟩
          have s1 := O4
          rw [show MT.cells x = [.int .i64 x.func, .int .i64 x.head, .int .i64 x.counter, .int .u32 x.init] from rfl, set4 A R _ _ _ _ _ _ _ _ (k * 4) hA] at s1
          rw [HX.out]
          exact s1
        clear HX hA O0 O1 O2 O3 O4
        go_wp2
        go_roundw
        case rel => exact ⟨k + 1, by omega, by go_num, by go_num, HN⟩
        case measure => simp [intOf]; omega
      · have hkn : k = n := by omega
        subst hkn
        have HE : Hid (wr.ownsRow base 112 4 (.slice (some ⟨g, 0, none⟩) k c) k ((mkRow mkT 4 k0 k).flatMap MT.cells) ∧ w.grownBy wr (some g)) := by
          have := HM.out
          rw [mkTo_all mkT 4 k0 cs k HL.out] at this
          exact this
        go_wp2
        go_ret
        exact ⟨rfl, HE.out.1, HE.out.2⟩
set_option maxHeartbeats 1000000 in
theorem heldCertS_ex (s : Value) (n : Nat) (k0 : Int) (w : World) (hn : n ≤ 1048576) (h0 : 0 ≤ k0) (h1 : k0 ≤ 1152921504606846976) (h : Rd w 4 s n ((mkRow mkT 4 k0 n).flatMap MT.cells)) :
    Calls Tryz.prog 39 #[s, .int .i64 k0] w fun e w' => e = .returned (.int .i64 (k0 + 4 * (n : Int))) ∧ w' = w := by
  have H1 : Hid (Rd w 4 s n ((mkRow mkT 4 k0 n).flatMap MT.cells)) := h
  obtain ⟨a1, c1, rfl⟩ := h.is_slice
  clear h
  go_enter Tryz.func39, Tryz.ntmps39
  go_wp2
  go_loopw [1, 5] (fun q i wr => ∃ k : Nat, k ≤ n ∧ q = .int .i64 (k0 + 4 * k) ∧ i = .int .i64 k ∧ wr = w) (fun _ i _ => n - (intOf i).toNat)
  case atStart => exact ⟨0, by omega, by simp, rfl, rfl⟩
  case round =>
    obtain ⟨k, hk, rfl, rfl, rfl⟩ := hrel
    by_cases hlt : k < n
    · have hz := mkRow_at mkT 4 k0 n k hlt
      rcases H1.out.2 with ⟨e0, _⟩ | ⟨g, o, c, e1, hc1⟩
      · omega
      simp only [Value.slice.injEq, true_and] at e1
      obtain ⟨rfl, rfl⟩ := e1
      have j0 := Rd.elem MT.cells_length hc1 k _ hz 0 _ rfl
      have j1 := Rd.elem MT.cells_length hc1 k _ hz 1 _ rfl
      have j2 := Rd.elem MT.cells_length hc1 k _ hz 2 _ rfl
      have j3 := Rd.elem MT.cells_length hc1 k _ hz 3 _ rfl
      simp only [mkT, Nat.add_zero] at j0 j1 j2 j3
      clear hc1 hz
      go_wp2
      go_roundw
      case rel => exact ⟨k + 1, by omega, by go_num, by go_num, by trivial⟩
      case measure => simp [intOf]; omega
    · have hkn : k = n := by omega
      subst hkn
      go_wp2
      go_ret
      exact ⟨rfl, rfl⟩
end Go.Proofs.YtalkpddhpmjgcaaGreat
namespace Go.Proofs.YtalkpddhpmjgcaaGreat
open Go.ChangeShapes Go.WideShapes Go.ChangeAt Go.RowKit
set_option linter.unusedVariables false
/-- A row: its type, how many cells a thing has, its slice, how many things there are, the cells. -/
structure RowI where
  e : TypeId
  k : Nat
  v : Value
  n : Nat
  xs : List Value
def RowI.own (w : World) (base : Nat) (r : RowI) : Prop := w.ownsRow base r.e r.k r.v r.n r.xs
def Off (a b : RowI) : Prop := ∀ g, a.v.ownBlock = some g → b.v.ownBlock ≠ some g
structure Sep (w : World) (base : Nat) (L : List RowI) : Prop where
  own : ∀ r ∈ L, r.own w base
  sep : L.Pairwise Off
theorem Sep.nil (w : World) (base : Nat) : Sep w base [] := ⟨fun r hr => (by cases hr), List.Pairwise.nil⟩
theorem Sep.keep {w w' : World} {base : Nat} {L : List RowI} (h : Sep w base L) (hb : Below w.heap.size w w') : Sep w' base L := ⟨fun r hr => own_keep (h.own r hr) hb (Nat.le_refl _), h.sep⟩
theorem Sep.base {w : World} {base base' : Nat} {L : List RowI} (h : Sep w base L) (hb : base' ≤ base) : Sep w base' L := ⟨fun r hr => own_base (h.own r hr) hb, h.sep⟩
/-- One row has turned, all else is as it was. -/
theorem Sep.put {w w' : World} {base : Nat} {A B : List RowI} {r : RowI} (h : Sep w base (A ++ r :: B)) (ys : List Value) (ho : w'.ownsRow base r.e r.k r.v r.n ys) (hg : w.grownBy w' r.v.ownBlock) : Sep w' base (A ++ { r with xs := ys } :: B) := by
  obtain ⟨pA, pB, pAB⟩ := List.pairwise_append.1 h.sep
  obtain ⟨pv, pB'⟩ := List.pairwise_cons.1 pB
  refine ⟨fun x hx => ?_, List.pairwise_append.2 ⟨pA, List.pairwise_cons.2 ⟨fun y hy => pv y hy, pB'⟩, fun a ha b hb => ?_⟩⟩
  · rcases List.mem_append.1 hx with hx | hx
    · exact own_apart' (h.own x (List.mem_append.2 (.inl hx))) hg (fun g hgx e => pAB x hx r (by simp) g hgx e.symm)
    · rcases List.mem_cons.1 hx with rfl | hx
      · exact ho
      · exact own_apart' (h.own x (List.mem_append.2 (.inr (List.mem_cons_of_mem _ hx)))) hg (fun g hgx e => pv x hx g e.symm hgx)
  · rcases List.mem_cons.1 hb with rfl | hb
    · exact fun g hga => pAB a ha r (by simp) g hga
    · exact pAB a ha b (List.mem_cons_of_mem _ hb)
/-- The same, the slice too may be a new one. -/
theorem Sep.grow {w w' : World} {base : Nat} {A B : List RowI} {r : RowI} (h : Sep w base (A ++ r :: B)) (r' : RowI) (ho : r'.own w' base) (hg : w.grownBy w' r.v.ownBlock) (hat : r'.v.ownBlock = r.v.ownBlock ∨ ∀ g, r'.v.ownBlock = some g → w.heap.size ≤ g) : Sep w' base (A ++ r' :: B) := by
  obtain ⟨pA, pB, pAB⟩ := List.pairwise_append.1 h.sep
  obtain ⟨pv, pB'⟩ := List.pairwise_cons.1 pB
  have lt : ∀ x ∈ A ++ r :: B, ∀ g, x.v.ownBlock = some g → g < w.heap.size := fun x hx g hg => ((h.own x hx).lt g hg).2
  refine ⟨fun x hx => ?_, List.pairwise_append.2 ⟨pA, List.pairwise_cons.2 ⟨fun y hy => ?_, pB'⟩, fun a ha b hb => ?_⟩⟩
  · rcases List.mem_append.1 hx with hx | hx
    · exact own_apart' (h.own x (List.mem_append.2 (.inl hx))) hg (fun g hgx e => pAB x hx r (by simp) g hgx e.symm)
    · rcases List.mem_cons.1 hx with rfl | hx
      · exact ho
      · exact own_apart' (h.own x (List.mem_append.2 (.inr (List.mem_cons_of_mem _ hx)))) hg (fun g hgx e => pv x hx g e.symm hgx)
  · intro g hg1 hg2
    rcases hat with e | e
    · exact pv y hy g (e ▸ hg1) hg2
    · have := lt y (List.mem_append.2 (.inr (List.mem_cons_of_mem _ hy))) g hg2
      have := e g hg1
      omega
  · rcases List.mem_cons.1 hb with rfl | hb
    · intro g hg1 hg2
      rcases hat with e | e
      · exact pAB a ha r (by simp) g hg1 (e ▸ hg2)
      · have := lt a (List.mem_append.2 (.inl ha)) g hg1
        have := e g hg2
        omega
    · exact pAB a ha b (List.mem_cons_of_mem _ hb)
/-- A new row behind the others. -/
theorem Sep.snoc {w : World} {base N : Nat} {L : List RowI} {r : RowI} (h : Sep w base L) (hlt : ∀ x ∈ L, ∀ g, x.v.ownBlock = some g → g < N) (ho : w.ownsRow N r.e r.k r.v r.n r.xs) (hN : base ≤ N) : Sep w base (L ++ [r]) := by
  refine ⟨fun x hx => ?_, List.pairwise_append.2 ⟨h.sep, List.pairwise_cons.2 ⟨fun y hy => (by cases hy), List.Pairwise.nil⟩, fun a ha b hb => ?_⟩⟩
  · rcases List.mem_append.1 hx with hx | hx
    · exact h.own x hx
    · rw [List.mem_singleton.1 hx]
      exact own_base ho hN
  · intro g hg1 hg2
    rw [List.mem_singleton.1 hb] at hg2
    have := hlt a ha g hg1
    have := (ho.lt g hg2).1
    omega
theorem Sep.lt {w : World} {base : Nat} {L : List RowI} (h : Sep w base L) : ∀ x ∈ L, ∀ g, x.v.ownBlock = some g → base ≤ g ∧ g < w.heap.size := fun x hx g hg => (h.own x hx).lt g hg
/-- Two families, the one ahead of the other. -/
theorem Sep.app {w : World} {base N : Nat} {L M : List RowI} (h : Sep w base L) (h' : Sep w N M) (hlt : ∀ x ∈ L, ∀ g, x.v.ownBlock = some g → g < N) (hN : base ≤ N) : Sep w base (L ++ M) := by
  refine ⟨fun x hx => ?_, List.pairwise_append.2 ⟨h.sep, h'.sep, fun a ha b hb => ?_⟩⟩
  · rcases List.mem_append.1 hx with hx | hx
    · exact h.own x hx
    · exact own_base (h'.own x hx) hN
  · intro g hg1 hg2
    have := hlt a ha g hg1
    have := (h'.lt b hb g hg2).1
    omega
theorem Off.symm {a b : RowI} (h : Off a b) : Off b a := fun g h1 h2 => h g h2 h1
theorem Sep.perm {w : World} {base : Nat} {L M : List RowI} (h : Sep w base L) (hp : L.Perm M) : Sep w base M := ⟨fun r hr => h.own r (hp.mem_iff.2 hr), hp.pairwise h.sep Off.symm⟩
theorem Sep.chg {R : Nat → Prop} {w w' : World} {base : Nat} {L : List RowI} (h : Sep w base L) (hc : Chg R w w') (hn : ∀ j, base ≤ j → ¬ R j) : Sep w' base L := ⟨fun r hr => hc.own (h.own r hr) (fun b hb => hn b ((h.own r hr).lt b hb).1), h.sep⟩
end Go.Proofs.YtalkpddhpmjgcaaGreat
