import Derived.Test.YthifelgdkmkdkaaGreatDoorFm27
import Derived.Test.YthifelgdkmkdkaaGreatDoorFm11
import Derived.Test.YthifelgdkmkdkaaGreatDoorFm28
namespace Go.Proofs.YthifelgdkmkdkaaGreatDoor
open Go.ChangeShapes Go.WideShapes Go.ChangeAt Go.RowKit
set_option linter.unusedVariables false
theorem W32_lo {z : Int} (h : W32 z) : 0 ≤ z ∧ z ≤ 4294967295 := by simpa [W32, Lit.wf, IntKind.min, IntKind.max, IntKind.signed, IntKind.bits] using h
theorem localOf_ge {f : MF} {a : Int} (h : ¬ localOf f a = 0) : 0 ≤ a := Int.not_lt.1 fun h' => h (localOf_neg h')
theorem cellOf_ge {p : MP} {a b : Int} (h : ¬ cellOf p a b = 0) : 0 ≤ a ∧ 0 ≤ b := by
  refine ⟨Int.not_lt.1 fun h' => h (cellOf_bad (.inl h')), Int.not_lt.1 fun h' => h (cellOf_bad (.inr (.inr h')))⟩
theorem isT_in {t : Int} (h : isT t = true) : 1 ≤ t ∧ t ≤ 3 := by simpa [isT] using h
/-- What an instruction of a sound program names is not below 0. -/
theorem InstrOk.ge {p : MP} {f : MF} {x : MI} (h : InstrOk p f x) : 0 ≤ x.a ∧ 0 ≤ x.b ∧ 0 ≤ x.c := by
  rcases h.2.2 with h | h | h | h | h | h | h | h | h | h
  · omega
  · omega
  · have := localOf_ge h.2.1
    omega
  · have := cellOf_ge h.2.1
    omega
  · have h1 := cellOf_ge h.2.1.there
    have h2 := h.2.1.low
    omega
  · rcases h.1 with ⟨_, h1⟩ | ⟨_, h1⟩ | ⟨_, h1⟩
    · omega
    · omega
    · have := isT_in h1
      omega
  · have h1 := isT_in h.2.1
    have h2 := isT_in h.2.2.1
    omega
  · omega
  · have := localOf_ge h.2.1
    omega
  · omega
theorem flat_take_le {α : Type} (f : α → List UInt8) (m : Nat) (xs : List α) (k : Nat) (h : ∀ x ∈ xs, (f x).length ≤ m) : ((xs.take k).flatMap f).length ≤ xs.length * m := by
  refine Nat.le_trans (flat_le f m _ fun x hx => h x (List.mem_of_mem_take hx)) (Nat.mul_le_mul_right m ?_)
  rw [List.length_take]
  omega
theorem types_le (ys : List Int) (n : Nat) (h : ys.length ≤ n) : (wordsT (ys.map tyName)).length ≤ n * 5 := by
  refine Nat.le_trans (words_length _ 4 ?_) ?_
  · intro x hx
    obtain ⟨y, _, rfl⟩ := List.mem_map.1 hx
    exact tyName_length y
  · rw [List.length_map]
    exact Nat.mul_le_mul_right 5 h
theorem regionL_le (r : List Int) (h : r.length ≤ 1048576) : (regionL r).length ≤ 8388608 := by
  have := types_le r _ h
  rw [regionL, lineT_length]
  simp
  omega
theorem constL_le (c : MC) (h : W32 c.word) : (constL c).length ≤ 64 := by
  have h1 := tyName_length c.type
  have h2 := decL_length c.word (by have := W32_lo h; omega)
  rw [constL, lineT_length]
  simp [wordsT]
  omega
theorem certL_le (c : MT) (h : c.wf) : (certL c).length ≤ 128 := by
  have h1 := decL_length c.func (W64_in h.1).2
  have h2 := decL_length c.head (W64_in h.2.1).2
  have h3 := decL_length c.counter (W64_in h.2.2.1).2
  have h4 := decL_length c.init (by have := W32_lo h.2.2.2; omega)
  rw [certL, lineT_length]
  simp [wordsT]
  omega
theorem instrW_le (F a b c : Int) (ha : a ≤ 9223372036854775807) (hb : b ≤ 9223372036854775807) (hc : c ≤ 9223372036854775807) : (wordsT (instrW F a b c)).length ≤ 60 := by
  have h1 : ∀ x ∈ namedL F a b c, x ≤ 9223372036854775807 := by
    intro x hx
    unfold namedL at hx
    repeat' split at hx
    all_goals (simp at hx)
    all_goals omega
  have h2 : (namedL F a b c).length ≤ 3 := by
    unfold namedL
    repeat' split
    all_goals simp
  refine Nat.le_trans (words_length _ 19 ?_) ?_
  · intro w hw
    unfold instrW at hw
    obtain ⟨y, hy, rfl⟩ := List.mem_map.1 hw
    split
    · have := tyName_length y
      omega
    · exact decL_length y (h1 y hy)
  · unfold instrW
    rw [List.length_map]
    omega
theorem instrL_le (x : MI) (h : x.wf) : (instrL x).length ≤ 128 := by
  have h1 := nameOf_le x.op
  have h2 := instrW_le (formOf x.op) x.a x.b x.c (W64_in h.2.1).2 (W64_in h.2.2.1).2 (W64_in h.2.2.2).2
  rw [instrL, lineT_length]
  omega
theorem resW_le (r : Int) : (resW r).length ≤ 4 := by
  unfold resW
  split
  · decide
  · exact tyName_length r
theorem funcH_le (f : MF) (h : f.small) : (lineT [102, 117, 110, 99] (funcW f)).length ≤ 16777216 := by
  have h1 := types_le f.params _ h.1
  have h2 := types_le f.locals _ h.2.1
  have h3 := resW_le f.result
  rw [lineT_length, funcW, wordsT_append, wordsT_append, wordsT_append]
  simp [wordsT] at *
  omega
theorem funcL_le (f : MF) (h : f.small) (hw : f.wf) : (funcL f).length ≤ 268435456 := by
  have h1 := funcH_le f h
  have h2 := flat_le instrL 128 f.code fun x hx => instrL_le x (hw.code x hx)
  have h3 := h.2.2
  rw [funcL, List.length_append]
  omega
end Go.Proofs.YthifelgdkmkdkaaGreatDoor
namespace Go.Proofs.YthifelgdkmkdkaaGreatDoor
open Go.ChangeShapes Go.WideShapes Go.ChangeAt Go.RowKit
set_option linter.unusedVariables false
theorem wordsT_le (ws : List (List UInt8)) (k : Nat) : (wordsT (ws.take k)).length ≤ (wordsT ws).length := by
  have h : wordsT ws = wordsT (ws.take k) ++ wordsT (ws.drop k) := by rw [← wordsT_append, List.take_append_drop]
  rw [h, List.length_append]
  omega
set_option maxHeartbeats 2000000 in
set_option maxRecDepth 100000 in
theorem line_any (B b : Nat) (l first : List UInt8) (V : Value) (ws : List (List UInt8)) (base : Nat) (w : World) (h : PAt B w b l) (hr : w.ownsRow base 9 1 V ws.length (ws.flatMap wordCell)) (hB : B ≤ w.heap.size) (hn : ws.length ≤ 4194304) (hlen : l.length + (lineT first ws).length ≤ 140737488355328) :
    Calls Tryz.prog 23 #[.pointer (some ⟨b, 0, none⟩), .string ⟨first.toArray⟩, V] w fun e w' => e = .returned (.tuple #[]) ∧ PAt B w' b (l ++ lineT first ws) ∧ Wg B w w' := by
  rw [lineT_length] at hlen
  have H : Hid (PAt B w b l ∧ w.ownsRow base 9 1 V ws.length (ws.flatMap wordCell) ∧ B ≤ w.heap.size ∧ l.length + (first.length + (wordsT ws).length + 1) ≤ 140737488355328) := ⟨h, hr, hB, hlen⟩
  obtain ⟨a1, c1, rfl⟩ := (Rd.of_own hr).is_slice
  clear h hr hB hlen
  generalize hL : ws.length = n at *
  have HL : Hid (ws.length = n) := hL
  clear hL
  go_enter Tryz.func23, Tryz.ntmps23
  go_wp2_with fail
  refine (writeString_any B b l first _ H.out.1 (by have := H.out.2.2.2; omega) H.out.2.2.1).mono ?_
  rintro e u1 ⟨rfl, hp, hg⟩
  have H1 : Hid (PAt B u1 b (l ++ first) ∧ Wg B w u1) := ⟨hp, hg⟩
  clear hp hg
  go_wp2
  go_loopw [15] (fun i wr => ∃ k : Nat, k ≤ n ∧ i = .int .i64 k ∧ Hid (PAt B wr b (l ++ first ++ wordsT (ws.take k)) ∧ Wg B w wr)) (fun i _ => n - (intOf i).toNat)
  case atStart => exact ⟨0, by omega, rfl, by simpa [Hid, wordsT] using H1.out⟩
  case round =>
    clear H1
    obtain ⟨k, hk, rfl, H1⟩ := hrel
    have hwl := wordsT_le ws k
    have hB1 : B ≤ wr.heap.size := Nat.le_trans H.out.2.2.1 H1.out.2.size
    by_cases hlt : k < n
    · obtain ⟨x, hx⟩ : ∃ x, ws[k]? = some x := ⟨_, List.getElem?_eq_getElem (by rw [HL.out]; exact hlt)⟩
      have HX : Hid (wordsT (ws.take (k + 1)) = wordsT (ws.take k) ++ 32 :: x) := wordsT_next ws k x hx
      have hwl2 := wordsT_le ws (k + 1)
      rw [HX.out] at hwl2
      simp only [List.length_append, List.length_cons] at hwl2
      rcases (Rd.of_own (H1.out.2.own H.out.2.1 (by decide) (by decide))).2 with ⟨e0, _⟩ | ⟨g, o, c, e1, hc1⟩
      · omega
      · simp only [Value.slice.injEq, true_and] at e1
        obtain ⟨rfl, rfl⟩ := e1
        have i0 := Rd.elem wordCell_length hc1 k x hx 0 _ rfl
        rw [Nat.mul_one, Nat.add_zero] at i0
        clear hc1 hx
        go_wp2_with fail
        refine (writeString_any B b _ [32] _ H1.out.1 (by have := H.out.2.2.2; simp; omega) hB1).mono ?_
        rintro e u2 ⟨rfl, hp, hg⟩
        have H2 : Hid (PAt B u2 b (l ++ first ++ wordsT (ws.take k) ++ [32]) ∧ Wg B w u2) := ⟨hp, H1.out.2.trans hg⟩
        have hB2 : B ≤ u2.heap.size := Nat.le_trans hB1 hg.size
        clear hp hg i0
        go_wp2_with fail
        refine (writeString_any B b _ x _ H2.out.1 (by have := H.out.2.2.2; simp; omega) hB2).mono ?_
        rintro e u3 ⟨rfl, hp, hg⟩
        have H3 : Hid (PAt B u3 b (l ++ first ++ wordsT (ws.take (k + 1))) ∧ Wg B w u3) := by
          refine ⟨?_, H2.out.2.trans hg⟩
          rw [HX.out]
          simpa using hp
        clear hp hg
        go_wp2
        go_roundw
        case rel => exact ⟨k + 1, by omega, by go_num, H3.out⟩
        case measure => simp [intOf]; omega
    · have hkn : n = k := by omega
      subst hkn
      have hB2 := hB1
      go_wp2_with fail
      refine (writeString_any B b _ [10] _ H1.out.1 (by have := H.out.2.2.2; simp; omega) hB1).mono ?_
      rintro e u2 ⟨rfl, hp, hg⟩
      have H2 : Hid (PAt B u2 b (l ++ lineT first ws) ∧ Wg B w u2) := by
        refine ⟨?_, H1.out.2.trans hg⟩
        rw [lineT]
        rw [List.take_of_length_le (by rw [HL.out]; exact Nat.le_refl _)] at hp
        simpa using hp
      clear hp hg
      go_wp2
      go_end0
      exact ⟨rfl, H2.out⟩
end Go.Proofs.YthifelgdkmkdkaaGreatDoor
