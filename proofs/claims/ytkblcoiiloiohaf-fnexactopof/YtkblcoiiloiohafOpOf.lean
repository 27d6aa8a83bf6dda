/- OpOf: both contracts. -/
import Derived.Test.YtkblcoiiloiohafOpNumbers
import Derived.Test.YtkblcoiiloiohafInfos
namespace Go.Proofs.Ytkblcoiiloiohaf
open Go.ChangeShapes Go.WideShapes Go.ChangeAt Go.RowKit Go.Maps Go.WideMaps Go.WideElems
set_option linter.unusedVariables false

theorem keyL_inj {s s' : ByteArray} (h : keyL s = keyL s') : s = s' := by
  unfold keyL at h
  injection h with h
  obtain ⟨d⟩ := s
  obtain ⟨d'⟩ := s'
  congr 1
  exact Array.ext' h
set_option maxRecDepth 100000 in
theorem names_apart : ∀ j, j < 30 → ∀ k, k < 30 → nameAt j = nameAt k → j = k := of_decide_eq_true (by kernel_rfl)
theorem isKeyL (s : ByteArray) : WideAt.IsKeyLit (keyL s) := by trivial
theorem mapTo_isMap : ∀ n, IsMap (mapTo n)
  | 0 => ⟨_, rfl⟩
  | n + 1 => by
    obtain ⟨es, h⟩ := mapTo_isMap n
    unfold mapTo
    rw [h]
    exact ⟨_, rfl⟩
theorem mapTo_no (s : ByteArray) : ∀ n, (∀ k, k < n → nameAt k ≠ s) → Maps.has (mapTo n) (keyL s) = false
  | 0, _ => rfl
  | n + 1, h => by
    unfold mapTo
    rw [has_put_other (fun e => h n (by omega) (keyL_inj e).symm)]
    exact mapTo_no s n fun k hk => h k (by omega)
theorem mapTo_yes (z : DataW Unit) : ∀ n, n ≤ 30 → ∀ k, k < n → Maps.has (mapTo n) (keyL (nameAt k)) = true ∧ (mapTo n).atKey (keyL (nameAt k)) z = .lit (.int .i64 k)
  | 0, _, k, hk => by omega
  | n + 1, hn, k, hk => by
    unfold mapTo
    by_cases e : k = n
    · subst e
      exact ⟨has_put_same (mapTo_isMap k) (isKeyL _) _, atKey_put_same (mapTo_isMap k) (isKeyL _) _ _⟩
    · have hne : keyL (nameAt k) ≠ keyL (nameAt n) := fun h => e (names_apart k (by omega) n (by omega) (keyL_inj h))
      rw [has_put_other hne, atKey_put_other hne]
      exact mapTo_yes z n (by omega) k (by omega)

theorem lit_inj {a b : Int} {D : DataW Unit} (h1 : D = .lit (.int .i64 a)) (h2 : D = .lit (.int .i64 b)) : a = b := by
  rw [h1] at h2
  injection h2 with h2
  injection h2
set_option maxHeartbeats 400000 in
theorem OpOf_no (s : ByteArray) (hs : s.size ≤ maxLen) (h : ∀ k, k < 30 → nameAt k ≠ s) (w : World) : Calls Try.prog 12 #[.string s] w fun e w' => e = .returned (.int .i64 (-1)) ∧ Below w.heap.size w w' := by
  have hh := mapTo_no s 30 h
  have hkey : keyOf Try.prog 9 (.string s) = some (keyL s) := keyOf_string_mk Try.underlying9 hs
  clear h
  go_enter Try.func12, Try.ntmps12
  go_wp2_with (first
    | (go_at_call 21; refine (opNumbers_any _).mono ?_; rintro e w1 ⟨rfl, hown, hb⟩)
    | (at_lookup; refine wpList_lookup_own_ok_int _ rfl _ _ 42 rfl 9 2 .i64 keyed Try.underlying42 Try.underlying2 (zero64 _) w.heap.size 30 _ rfl hown _ _ rfl hkey ?_; intro c hat hwc; rw [hh]))
  go_ret
  exact ⟨rfl, hb⟩
set_option maxHeartbeats 400000 in
theorem OpOf_yes (k : Nat) (hk : k < 30) (w : World) : Calls Try.prog 12 #[.string (nameAt k)] w fun e w' => e = .returned (.int .i64 k) ∧ Below w.heap.size w w' := by
  have hh := mapTo_yes (.lit (.int .i64 0)) 30 (Nat.le_refl _) k hk
  have hkey : keyOf Try.prog 9 (.string (nameAt k)) = some (keyL (nameAt k)) := keyOf_string_mk Try.underlying9 (nameAt_cell k hk).2
  have H : Hid (Maps.has (mapTo 30) (keyL (nameAt k)) = true ∧ (mapTo 30).atKey (keyL (nameAt k)) (.lit (.int .i64 0)) = .lit (.int .i64 k)) := hh
  clear hh
  go_enter Try.func12, Try.ntmps12
  go_wp2_with (first
    | (go_at_call 21; refine (opNumbers_any _).mono ?_; rintro e w1 ⟨rfl, hown, hb⟩)
    | (at_lookup; refine wpList_lookup_own_ok_int _ rfl _ _ 42 rfl 9 2 .i64 keyed Try.underlying42 Try.underlying2 (zero64 _) w.heap.size 30 _ rfl hown _ _ rfl hkey ?_; intro c hat hwc; have hc : Hid (c = (k : Int)) := lit_inj hat H.out.2; clear hat hwc; rw [H.out.1, hc.out]))
  go_ret
  exact ⟨rfl, hb⟩

set_option maxRecDepth 100000 in
theorem info_cell (k : Nat) (hk : k < 30) : infoCells[k * 3]? = some (.string (nameAt k)) := by
  have h : k = 0 ∨ k = 1 ∨ k = 2 ∨ k = 3 ∨ k = 4 ∨ k = 5 ∨ k = 6 ∨ k = 7 ∨ k = 8 ∨ k = 9 ∨ k = 10 ∨ k = 11 ∨ k = 12 ∨ k = 13 ∨ k = 14 ∨ k = 15 ∨ k = 16 ∨ k = 17 ∨ k = 18 ∨ k = 19 ∨ k = 20 ∨ k = 21 ∨ k = 22 ∨ k = 23 ∨ k = 24 ∨ k = 25 ∨ k = 26 ∨ k = 27 ∨ k = 28 ∨ k = 29 := by omega
  clear hk
  rcases h with rfl | rfl | rfl | rfl | rfl | rfl | rfl | rfl | rfl | rfl | rfl | rfl | rfl | rfl | rfl | rfl | rfl | rfl | rfl | rfl | rfl | rfl | rfl | rfl | rfl | rfl | rfl | rfl | rfl | rfl <;> rfl

set_option maxRecDepth 100000 in
set_option maxHeartbeats 1000000 in
theorem SOpOf_any (s : ByteArray) (w : World) : Calls Try.prog 11 #[.string s] w fun e w' => ((∃ k : Nat, k < 30 ∧ nameAt k = s ∧ e = .returned (.int .i64 k)) ∨ ((∀ k, k < 30 → nameAt k ≠ s) ∧ e = .returned (.int .i64 (-1)))) ∧ Below w.heap.size w w' := by
  go_enter Try.func11, Try.ntmps11
  go_wp2_with (go_at_call 19; refine (l2Infos_any _).mono ?_; rintro e w1 ⟨rfl, rfl⟩)
  go_loop [4] (fun i => ∃ k : Nat, k ≤ 30 ∧ i = .int .i64 k ∧ ∀ j, j < k → nameAt j ≠ s) (fun i => 30 - (intOf i).toNat)
  case atStart => exact ⟨0, by omega, rfl, fun j hj => by omega⟩
  case round =>
    obtain ⟨k, hk, rfl, hno⟩ := hrel
    by_cases hlt : k < 30
    · have hcell := info_cell k hlt
      have HN : Hid (∀ j, j < k → nameAt j ≠ s) := hno
      clear hno
      by_cases heq : nameAt k = s
      · go_wp2
        go_ret
        exact ⟨.inl ⟨k, hlt, heq, rfl⟩, (Below.refl _ _).alloc (Nat.le_refl _) _⟩
      · have hb : ((nameAt k).toList == s.toList) = false := by
          rw [beq_eq_false_iff_ne]
          intro e
          rw [ByteArray.toList_eq, ByteArray.toList_eq] at e
          exact heq (WideShapes.bytes_inj e)
        have HE : Hid (¬ nameAt k = s) := heq
        clear heq
        go_wp2
        go_round
        case rel => exact ⟨k + 1, by omega, by go_num, fun j hj => by
          by_cases e : j = k
          · rw [e]; exact HE.out
          · exact HN.out j (by omega)⟩
        case measure => simp [intOf]; omega
    · have hk30 : k = 30 := by omega
      subst hk30
      have HN : Hid (∀ j, j < 30 → nameAt j ≠ s) := hno
      clear hno
      go_wp2
      go_ret
      exact ⟨.inr ⟨HN.out, rfl⟩, (Below.refl _ _).alloc (Nat.le_refl _) _⟩

theorem SOpOf_yes (k : Nat) (hk : k < 30) (w : World) : Calls Try.prog 11 #[.string (nameAt k)] w fun e w' => e = .returned (.int .i64 k) ∧ Below w.heap.size w w' := by
  refine (SOpOf_any _ w).mono ?_
  rintro e w' ⟨h, hb⟩
  refine ⟨?_, hb⟩
  rcases h with ⟨j, hj, hn, rfl⟩ | ⟨hno, _⟩
  · rw [names_apart j hj k hk hn]
  · exact absurd rfl (hno k hk)
theorem SOpOf_no (s : ByteArray) (h : ∀ k, k < 30 → nameAt k ≠ s) (w : World) : Calls Try.prog 11 #[.string s] w fun e w' => e = .returned (.int .i64 (-1)) ∧ Below w.heap.size w w' := by
  refine (SOpOf_any _ w).mono ?_
  rintro e w' ⟨hh, hb⟩
  refine ⟨?_, hb⟩
  rcases hh with ⟨j, hj, hn, rfl⟩ | ⟨_, rfl⟩
  · exact absurd hn (h j hj)
  · rfl
end Go.Proofs.Ytkblcoiiloiohaf
