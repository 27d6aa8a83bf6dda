import Derived.Test.YthifelgdkmkdkaaGreatDoorFm27
namespace Go.Proofs.YthifelgdkmkdkaaGreatDoor
open Go.ChangeShapes Go.WideShapes Go.ChangeAt Go.RowKit
set_option linter.unusedVariables false
theorem str_append (a b : List UInt8) : (⟨a.toArray⟩ ++ ⟨b.toArray⟩ : ByteArray) = ⟨(a ++ b).toArray⟩ := by
  apply ByteArray.ext
  simp
theorem DecAt.length {v u : Nat} {out : List UInt8} (h : DecAt v u out) : out.length ≤ (Lib.decDigits v).length := by
  rcases h with ⟨_, h⟩ | ⟨_, h⟩
  · rw [h, List.length_append]; omega
  · rw [h]; exact Nat.le_refl _
set_option maxHeartbeats 2000000 in
set_option maxRecDepth 100000 in
theorem l11Dec_any (v : Int) (h0 : 0 ≤ v) (h1 : v ≤ 9223372036854775807) (w : World) : Calls Tryz.prog 16 #[.int .i64 v] w fun e w' => e = .returned (strV (decL v)) ∧ Below w.heap.size w w' := by
  obtain ⟨n, rfl⟩ := Int.eq_ofNat_of_zero_le h0
  by_cases hz : n = 0
  · subst hz
    go_enter Tryz.func16, Tryz.ntmps16
    go_wp2
    go_ret
    refine ⟨?_, Below.refl _ _⟩
    rw [decL, Lib.decDigits]
    rfl
  · have hz' : ((n : Int) == 0) = false := by simpa using hz
    have hn20 := dec_length n 18 (by omega)
    have hw : IntKind.u64.wrap (n : Int) = (n : Int) := by rw [IntKind.wrap_u64]; omega
    go_enter Tryz.func16, Tryz.ntmps16
    go_wp2
    go_loopw [3, 4] (fun o u wr => ∃ (out : List UInt8) (k : Nat), o = strV out ∧ u = .int .u64 (k : Int) ∧ k ≤ n ∧ Hid (DecAt n k out ∧ Below w.heap.size w wr)) (fun _ u _ => (intOf u).toNat)
    case atStart => exact ⟨[], n, rfl, rfl, Nat.le_refl _, .inl ⟨by omega, by simp⟩, Below.refl _ _⟩
    case round =>
      obtain ⟨out, k, rfl, rfl, hk, HR⟩ := hrel
      unfold strV
      by_cases hlt : k = 0
      · subst hlt
        have HE : Hid (out = Lib.decDigits n) := by
          rcases HR.out.1 with ⟨h, _⟩ | ⟨_, h⟩
          · omega
          · exact h
        go_wp2
        go_ret
        refine ⟨?_, HR.out.2⟩
        rw [HE.out, decL]
        rfl
      · have h2 : (0 : Int) < (k : Int) := by omega
        have HN : Hid (DecAt n (k / 10) (UInt8.ofNat (48 + k % 10) :: out)) := HR.out.1.next (by omega)
        have hl := HN.out.length
        have hl2 : out.length ≤ 40 := by simp at hl; omega
        have hcv := run_convert_bytes_back (P := Tryz.prog) (wr.alloc (Obj.cells #[Value.int IntKind.u8 (48 + (k : Int) % 10)] 5)) 43 9 5 ⟨wr.heap.size, 0, none⟩ 1 [UInt8.ofNat (48 + k % 10)] Tryz.underlying43 Tryz.underlying5 Tryz.underlying9 (fun j hj => by
          have hj0 : j = 0 := by simpa using hj
          subst hj0
          have e := World.cell?_alloc_mark wr #[Value.int IntKind.u8 (48 + (k : Int) % 10)] 5 (0, 0) 0
          show (wr.alloc (Obj.cells #[Value.int IntKind.u8 (48 + (k : Int) % 10)] 5)).cell? ⟨wr.heap.size, 0, none⟩ = _
          rw [e]
          have hm : k % 10 < 10 := Nat.mod_lt _ (by omega)
          simp
          omega)
        simp only [List.length_cons, List.length_nil, Nat.zero_add] at hcv
        go_wp2
        go_roundw
        case rel =>
          refine ⟨UInt8.ofNat (48 + k % 10) :: out, k / 10, ?_, by go_num, by omega, HN.out, below_on HR.out.2 (Nat.le_refl _) ((Below.refl _ _).alloc (Nat.le_refl _) _)⟩
          congr 1
          apply ByteArray.ext
          simp
        case measure => simp [intOf]; omega
end Go.Proofs.YthifelgdkmkdkaaGreatDoor
namespace Go.Proofs.YthifelgdkmkdkaaGreatDoor
open Go.ChangeShapes Go.WideShapes Go.ChangeAt Go.RowKit
set_option linter.unusedVariables false
set_option maxHeartbeats 1000000 in
set_option maxRecDepth 100000 in
theorem l11Types_any (s : Value) (ys : List Int) (w : World) (hn : ys.length ≤ 1048576) (h : Rd w 1 s ys.length (ys.flatMap intCell)) :
    Calls Tryz.prog 14 #[s] w fun e w' => e = .returned (strV (wordsT (ys.map tyName))) ∧ Below w.heap.size w w' := by
  have H1 : Hid (Rd w 1 s ys.length (ys.flatMap intCell)) := h
  obtain ⟨a1, c1, rfl⟩ := h.is_slice
  clear h
  generalize hLL : ys.length = n at hn H1
  have HL : Hid (ys.length = n) := hLL
  clear hLL
  go_enter Tryz.func14, Tryz.ntmps14
  go_wp2
  go_loopw [3, 4] (fun o i wr => ∃ (out : List UInt8) (k : Nat), o = strV out ∧ k ≤ n ∧ i = .int .i64 k ∧ Hid (out = wordsT ((ys.map tyName).take k)) ∧ Hid (Below w.heap.size w wr)) (fun _ i _ => n - (intOf i).toNat)
  case atStart => exact ⟨[], 0, rfl, by omega, rfl, rfl, Below.refl _ _⟩
  case round =>
    obtain ⟨out, k, rfl, hk, rfl, HO, HB⟩ := hrel
    unfold strV
    have hout : out.length ≤ 8388608 := by
      rw [HO.out]
      refine Nat.le_trans (words_length _ 4 ?_) ?_
      · intro x hx
        obtain ⟨y, _, rfl⟩ := List.mem_map.1 (List.mem_of_mem_take hx)
        exact tyName_length y
      · have : ((ys.map tyName).take k).length ≤ n := by rw [List.length_take]; omega
        omega
    by_cases hlt : k < n
    · obtain ⟨x, hx⟩ : ∃ x, ys[k]? = some x := ⟨_, List.getElem?_eq_getElem (by rw [HL.out]; exact hlt)⟩
      rcases H1.out.2 with ⟨e0, _⟩ | ⟨g, o, c, e1, hc1⟩
      · omega
      · simp only [Value.slice.injEq, true_and] at e1
        obtain ⟨rfl, rfl⟩ := e1
        have i0 := Rd.elem intCell_length hc1 k x hx 0 _ rfl
        rw [← HB.out.cell (block_lt_of_cell i0), Nat.mul_one, Nat.add_zero] at i0
        have HX : Hid (wordsT ((ys.map tyName).take (k + 1)) = out ++ 32 :: tyName x) := by
          show _ = _
          rw [wordsT_next _ k (tyName x) (by rw [List.getElem?_map, hx]; rfl), ← HO.out]
        clear hc1 hx
        have ht := tyName_length x
        go_wp2_with fail
        refine (STypeName_any x _).mono ?_
        rintro e u ⟨rfl, bl⟩
        unfold strV
        generalize tyName x = t at *
        have HB2 : Hid (Below w.heap.size w u) := below_on HB.out (Nat.le_refl _) bl
        clear bl i0 HB
        go_wp2
        go_roundw
        case rel =>
          refine ⟨out ++ 32 :: t, k + 1, ?_, by omega, by go_num, HX.out.symm, HB2.out⟩
          congr 1
          apply ByteArray.ext
          simp
        case measure => simp [intOf]; omega
    · have hkn : k = n := by omega
      subst hkn
      have HE : Hid (out = wordsT (ys.map tyName)) := by
        show _ = _
        rw [HO.out, List.take_of_length_le (by rw [List.length_map, HL.out]; exact Nat.le_refl _)]
      clear HO
      go_wp2
      go_ret
      refine ⟨?_, HB.out⟩
      rw [← HE.out]
      rfl
end Go.Proofs.YthifelgdkmkdkaaGreatDoor
