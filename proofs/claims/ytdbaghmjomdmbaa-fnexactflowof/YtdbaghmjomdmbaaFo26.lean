import Derived.Test.YtdbaghmjomdmbaaFo25
namespace Go.Proofs.Ytdbaghmjomdmbaa
open Go.ChangeShapes Go.WideShapes Go.ChangeAt Go.RowKit
set_option linter.unusedVariables false
def cntTo (D : Nat → Nat → Bool) (d j : Nat) : Nat := ((List.range j).filter fun k => D k d).length
theorem cntTo_succ (D : Nat → Nat → Bool) (d j : Nat) : cntTo D d (j + 1) = cntTo D d j + if D j d = true then 1 else 0 := by
  unfold cntTo
  rw [List.range_succ, List.filter_append, List.length_append]
  cases h : D j d <;> simp [h]
theorem cntTo_le (D : Nat → Nat → Bool) (d j : Nat) : cntTo D d j ≤ j := by
  have := List.length_filter_le (fun k => D k d) (List.range j)
  simpa [cntTo] using this
set_option maxHeartbeats 4000000 in
set_option maxRecDepth 100000 in
theorem l5Idom_any (gm cm n b : Nat) (D : Nat → Nat → Bool) (w : World) (hn : n ≤ 1048576) (hb : b < n) (h : MatAt w gm n (fun b d => D d b)) :
    Calls Try.prog 32 #[.slice (some ⟨gm, 0, none⟩) n cm, .int .i64 (b : Int)] w fun e w' => ∃ best most, e = .returned (.int .i64 best) ∧ BestTo D n b n best most ∧ w' = w := by
  have H : Hid (MatAt w gm n (fun b d => D d b)) := h
  obtain ⟨rb, r0, r1⟩ := h b hb
  have HR : Hid (∀ d, d < n → w.cell? ⟨rb, d, none⟩ = some (.bool (D d b))) := r1
  have hbI : (b : Int) < (n : Int) := by omega
  clear h r1
  go_enter Try.func32, Try.ntmps32
  go_wp2
  go_loopw [5, 6, 7] (fun x y i wr => ∃ (d : Nat) (best most : Int), d ≤ n ∧ x = .int .i64 best ∧ y = .int .i64 most ∧ i = .int .i64 d ∧ -1 ≤ most ∧ most ≤ 1048576 ∧ Hid (BestTo D n b d best most) ∧ wr = w) (fun _ _ i _ => n - (intOf i).toNat)
  case atStart => exact ⟨0, -1, -1, by omega, rfl, rfl, rfl, by omega, by omega, BestTo.start D n b, rfl⟩
  case round =>
    obtain ⟨d, best, most, hd, rfl, rfl, rfl, hm1, hm2, HB, rfl⟩ := hrel
    by_cases hlt : d < n
    · have hltI : (d : Int) < (n : Int) := by omega
      by_cases e : d = b
      · subst e
        have HN : Hid (BestTo D n d (d + 1) best most) := HB.out.skip (fun q => q.1 rfl)
        go_wp2
        go_roundw
        case rel => exact ⟨d + 1, best, most, by omega, by trivial, by trivial, by go_num, hm1, hm2, HN, by trivial⟩
        case measure => simp [intOf]; omega
      · have e' : ((d : Int) == (b : Int)) = false := by simp; omega
        have eI : ¬ (d : Int) = (b : Int) := by omega
        have c0 := HR.out d hlt
        cases hD : D d b
        · rw [hD] at c0
          have HN : Hid (BestTo D n b (d + 1) best most) := HB.out.skip (fun q => by rw [hD] at q; cases q.2)
          go_wp2
          go_roundw
          case rel => exact ⟨d + 1, best, most, by omega, by trivial, by trivial, by go_num, hm1, hm2, HN, by trivial⟩
          case measure => simp [intOf]; omega
        · rw [hD] at c0
          obtain ⟨rd, d0, d1⟩ := H.out d hlt
          have HD1 : Hid (∀ k, k < n → wr.cell? ⟨rd, k, none⟩ = some (.bool (D k d))) := d1
          clear d1
          go_wp2
          go_loopw [8, 9] (fun x i wr' => ∃ k : Nat, k ≤ n ∧ x = .int .i64 (cntTo D d k : Int) ∧ i = .int .i64 k ∧ wr' = wr) (fun _ i _ => n - (intOf i).toNat)
          case atStart => exact ⟨0, by omega, rfl, rfl, rfl⟩
          case round =>
            obtain ⟨k, hk, rfl, rfl, rfl⟩ := hrel
            have hle := cntTo_le D d k
            by_cases hlt2 : k < n
            · have hlt2I : (k : Int) < (n : Int) := by omega
              have c1 := HD1.out k hlt2
              have hs := cntTo_succ D d k
              cases hDk : D k d
              · rw [hDk] at c1 hs
                simp only [Bool.false_eq_true, if_false, Nat.add_zero] at hs
                go_wp2
                go_roundw
                case rel => exact ⟨k + 1, by omega, by rw [hs], by go_num, by trivial⟩
                case measure => simp [intOf]; omega
              · rw [hDk] at c1 hs
                simp only [if_true] at hs
                go_wp2
                go_roundw
                case rel => exact ⟨k + 1, by omega, by rw [hs]; go_num, by go_num, by trivial⟩
                case measure => simp [intOf]; omega
            · obtain rfl : k = n := by omega
              have hc : cntD D k d = cntTo D d k := rfl
              by_cases hg : most < (cntTo D d k : Int)
              · have HN : Hid (BestTo D k b (d + 1) (d : Int) (cntTo D d k : Int)) := HB.out.more e hD hg
                go_wp2
                go_roundw
                case rel => exact ⟨d + 1, _, _, by omega, rfl, rfl, by go_num, by omega, by omega, HN, by trivial⟩
                case measure => simp [intOf]; omega
              · have HN : Hid (BestTo D k b (d + 1) best most) := HB.out.less (by rw [hc]; omega)
                go_wp2
                go_roundw
                case rel => exact ⟨d + 1, best, most, by omega, by trivial, by trivial, by go_num, hm1, hm2, HN, by trivial⟩
                case measure => simp [intOf]; omega
    · obtain rfl : d = n := by omega
      go_wp2
      go_ret
      exact ⟨best, most, rfl, HB.out, rfl⟩
end Go.Proofs.Ytdbaghmjomdmbaa
