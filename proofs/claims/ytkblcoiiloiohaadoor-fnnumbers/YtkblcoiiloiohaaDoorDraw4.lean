/- Draw4: l1Bytes, lwAt. -/
import Derived.Test.YtkblcoiiloiohaaDoorDraw3
import Derived.Test.YtkblcoiiloiohaaDoorByteS
import Derived.Maps.AppendAt
import Derived.OwnWalk
namespace Go.Proofs.YtkblcoiiloiohaaDoor
open Go.ChangeShapes Go.WideShapes Go.ChangeAt Go.RowKit
set_option linter.unusedVariables false

theorem infoD8 : (Tryd.prog.info? 5).map (fun i => (i.zero, i.size, i.bytes)) = some (some (.int .u8 0), 1, 1) := by kernel_rfl
theorem Drawn.then {g : Nat} {w a b : World} (h : Drawn g w a) (k : Below w.heap.size a b) : Drawn g w b :=
  ⟨k.os.trans h.os, k.tape.trans h.tape, k.output.trans h.output, Nat.le_trans h.size k.size, fun i hi hg => (k.block i hi).trans (h.block i hi hg)⟩
theorem own_drawn {w w' : World} {base g : Nat} {e : TypeId} {s : Value} {n : Nat} {xs : List Value} (h : w.ownsRow base e 1 s n xs) (hd : Drawn g w w') (hg : g < base) : w'.ownsRow base e 1 s n xs := by
  obtain ⟨hl, h⟩ := h
  refine ⟨hl, ?_⟩
  rcases h with h | ⟨b, cap, cur, rfl, hb, hbl, hr⟩
  · exact .inl h
  · exact .inr ⟨b, cap, cur, rfl, hb, (hd.block b (Array.getElem?_eq_some_iff.1 hbl).1 (by omega)).trans hbl, hr⟩
theorem own_below {w w' : World} {base : Nat} {e : TypeId} {s : Value} {n : Nat} {xs : List Value} (h : w.ownsRow base e 1 s n xs) (hd : Below w.heap.size w w') : w'.ownsRow base e 1 s n xs := by
  obtain ⟨hl, h⟩ := h
  refine ⟨hl, ?_⟩
  rcases h with h | ⟨b, cap, cur, rfl, hb, hbl, hr⟩
  · exact .inl h
  · exact .inr ⟨b, cap, cur, rfl, hb, (hd.block b (Array.getElem?_eq_some_iff.1 hbl).1).trans hbl, hr⟩
/-- A list of bytes. -/
def AreBytes (zs : List Int) : Prop := ∀ z ∈ zs, 0 ≤ z ∧ z ≤ 255

set_option maxHeartbeats 2000000 in
theorem l1Bytes_any {w : World} {g : Nat} {a : Option Addr} {len cap : Nat} {p : Int} (n : Nat) (h : Src w g a len cap p) (hn : n ≤ 100000) (hp : p + n ≤ 1000000000000) :
    Calls Tryd.prog 18 #[.pointer (some ⟨g, 0, none⟩), .int .i64 n] w fun e w' => ∃ s zs, e = .returned s ∧ w'.ownsRow w.heap.size 5 1 s n (zs.map (Value.int .u8)) ∧ AreBytes zs ∧ Src w' g a len cap (p + n) ∧ Drawn g w w' := by
  obtain ⟨i0, hi, hz0, hz1, hz2⟩ := info_parts infoD8
  have H : Hid (Src w g a len cap p) := h
  have hgw : g < w.heap.size := h.lt
  have hlow := h.low
  clear h
  go_enter Tryd.func18, Tryd.ntmps18
  go_wp2
  go_loopw [5, 6] (fun s i wr => ∃ (k : Nat) (zs : List Int), k ≤ n ∧ i = .int .i64 k ∧ Hid (wr.ownsRow w.heap.size 5 1 s k (zs.map (Value.int .u8)) ∧ AreBytes zs ∧ Src wr g a len cap (p + k) ∧ Drawn g w wr)) (fun _ i _ => n - (intOf i).toNat)
  case atStart => exact ⟨0, [], by omega, rfl, ⟨⟨by simp, .inr ⟨w.heap.size, 0, #[], rfl, Nat.le_refl _, heap_alloc_new _ _, Nat.le_refl _, Nat.zero_le _, rfl, rfl⟩⟩, (fun z hz => by cases hz), (by simpa using H.out.alloc _), Drawn.alloc g w _⟩⟩
  case round =>
    obtain ⟨k, zs, hk, rfl, HH⟩ := hrel
    by_cases hlt : k < n
    · go_wp2_with fail
      refine (l1Next_any HH.out.2.2.1 (by omega) (by omega) (by omega)).mono ?_
      rintro e w1 ⟨r, hr0, hr1, rfl, hs1, hd1⟩
      have H1 : Hid (w1.ownsRow w.heap.size 5 1 u5 k (zs.map (Value.int .u8)) ∧ Src w1 g a len cap (p + k + 1) ∧ Drawn g w w1) := ⟨own_drawn HH.out.1 hd1 hgw, hs1, HH.out.2.2.2.trans hd1⟩
      clear hs1 hd1
      go_wp2_with (at_builtin; refine wpList_append_own _ rfl _ _ 22 rfl w.heap.size 5 i0 (.int .u8 0) 1 1 Tryd.underlying22 hi hz0 hz1 hz2 rfl (by decide) _ _ _ rfl (H1.out.1.alloc _) ⟨w1.heap.size, 0, none⟩ 1 1 [_] rfl rfl (cell_one_new _ _ _) (ints_oneCell .u8 [_]) (by unfold maxLen; omega) (by omega) (by have := H1.out.2.2.size; simp; omega) ?_; intro v' w2 hown' hgrow hnil)
      have hbel : Below w.heap.size (w1.alloc (.cells #[.int .u8 r] 5)) w2 := (Below.refl _ _).grown hgrow (by have := H1.out.2.2.size; simp; omega) (fun j hj => (H1.out.1.lt j hj).1)
      have H2 : Hid (w2.ownsRow w.heap.size 5 1 v' (k + 1) ((zs ++ [r]).map (Value.int .u8)) ∧ AreBytes (zs ++ [r]) ∧ Src w2 g a len cap (p + (k + 1 : Nat)) ∧ Drawn g w w2) := by
        refine ⟨by rw [List.map_append]; exact hown', ?_, ?_, (H1.out.2.2.trans (Drawn.alloc g w1 _)).then hbel⟩
        · intro z hz
          rcases List.mem_append.1 hz with hz | hz
          · exact HH.out.2.1 z hz
          · simp at hz; omega
        · have := (H1.out.2.1.alloc (.cells #[.int .u8 r] 5)).keep (w' := w2) fun j hj => hbel.block j (by omega)
          rw [show p + ((k + 1 : Nat) : Int) = p + k + 1 by omega]
          exact this
      clear hown' hgrow hnil hbel
      go_wp2
      go_roundw
      case rel => exact ⟨k + 1, zs ++ [r], by omega, by go_num, H2⟩
      case measure => simp [intOf]; omega
    · have hkn : k = n := by omega
      subst hkn
      go_wp2
      go_ret
      exact ⟨_, zs, rfl, HH.out.1, HH.out.2.1, HH.out.2.2.1, HH.out.2.2.2⟩

set_option maxHeartbeats 1000000 in
theorem lwAt_any (a : Option Addr) (len cap : Nat) (i n : Int) (g : Nat) (w : World) (hl : len ≤ 140737488355328) (hc : CodeAt w g a len) (hi0 : 0 ≤ i) (hi1 : i ≤ 1000000) (hn : n ≤ 1000000) :
    Calls Tryd.prog 6 #[.slice a len cap, .int .i64 i, .int .i64 n] w fun e w' => ∃ r : Int, 0 ≤ r ∧ (r < n ∨ r = 0 ∧ n ≤ 1) ∧ e = .returned (.int .i64 r) ∧ ∃ nq, w' = w.drewN nq := by
  by_cases h1 : n ≤ 1
  · go_enter Tryd.func6, Tryd.ntmps6
    go_wp2
    go_ret
    exact ⟨0, by omega, .inr ⟨rfl, h1⟩, rfl, 0, rfl⟩
  · rcases Nat.eq_zero_or_pos len with rfl | hlp
    · have hr0 := Int.emod_nonneg (i * 7) (show n ≠ 0 by omega)
      have hr1 := Int.emod_lt_of_pos (i * 7) (show 0 < n by omega)
      go_enter Tryd.func6, Tryd.ntmps6
      go_wp2
      go_ret
      exact ⟨_, hr0, .inl hr1, rfl, 0, rfl⟩
    · rcases hc with h0 | ⟨b, off, rfl, hb, hcc⟩
      · omega
      · have hm0 := Int.emod_nonneg i (show (len : Int) ≠ 0 by omega)
        have hm1 := Int.emod_lt_of_pos i (show 0 < (len : Int) by omega)
        obtain ⟨v, v0, v1, hcell⟩ := hcc (i % len).toNat (by omega)
        have hl0 : ((len : Int) == 0) = false := by simp; omega
        have hd0 : 0 ≤ i / (len : Int) := Int.ediv_nonneg hi0 (by omega)
        have hd1 : i / (len : Int) ≤ 1000000 := Int.le_trans (Int.ediv_le_self _ hi0) hi1
        have hx0 := Int.emod_nonneg (v + i / (len : Int) * 3) (show n ≠ 0 by omega)
        have hx1 := Int.emod_lt_of_pos (v + i / (len : Int) * 3) (show 0 < n by omega)
        clear hcc
        go_enter Tryd.func6, Tryd.ntmps6
        go_wp2
        go_quiet (fail)
        go_wp2
        go_ret
        exact ⟨_, hx0, .inl hx1, rfl, _, rfl⟩
end Go.Proofs.YtkblcoiiloiohaaDoor
