/- BMark1: what marking leaves of rows of numbers, to the letter; families of rows of numbers. -/
import Derived.Test.YtdbaghmjomdmbaaOwnRow
import Derived.Test.YtdbaghmjomdmbaaMark1
import Derived.Test.YtdbaghmjomdmbaaBlk
namespace Go.Proofs.Ytdbaghmjomdmbaa
open Go.ChangeShapes Go.WideShapes Go.ChangeAt Go.RowKit
set_option linter.unusedVariables false
/-- What mark leaves of n numbers, from k on. -/
def markIs (k : Int) (n : Nat) : List Int := (List.range n).map fun (i : Nat) => k + (i : Int)
theorem markIs_length (k : Int) (n : Nat) : (markIs k n).length = n := by simp [markIs]
theorem markIs_succ (k : Int) (n : Nat) : markIs k (n + 1) = markIs k n ++ [k + (n : Int)] := by simp [markIs, List.range_succ]
/-- Marked up to j. -/
def markITo (k : Int) (cs : List Int) (j : Nat) : List Int := markIs k j ++ cs.drop j
theorem markITo_zero (k : Int) (cs : List Int) : markITo k cs 0 = cs := by simp [markITo, markIs]
theorem markITo_all (k : Int) (cs : List Int) (n : Nat) (h : cs.length = n) : markITo k cs n = markIs k n := by simp [markITo, ← h]
theorem markITo_parts (k : Int) (cs : List Int) (j : Nat) (x : Int) (h : cs[j]? = some x) : (markITo k cs j).flatMap intCell = (markIs k j).flatMap intCell ++ (intCell x ++ (cs.drop (j + 1)).flatMap intCell) := by
  obtain ⟨hlt, rfl⟩ := List.getElem?_eq_some_iff.1 h
  unfold markITo
  rw [List.flatMap_append, List.drop_eq_getElem_cons hlt, List.flatMap_cons]
theorem markITo_next (k : Int) (cs : List Int) (j : Nat) (x : Int) (h : cs[j]? = some x) : ((markITo k cs j).flatMap intCell).set j (.int .i64 (k + (j : Int))) = (markITo k cs (j + 1)).flatMap intCell := by
  have hA : ((markIs k j).flatMap intCell).length = j := by rw [flat_length intCell 1 intCell_length, markIs_length, Nat.mul_one]
  rw [markITo_parts k cs j x h]
  have := set1 ((markIs k j).flatMap intCell) ((cs.drop (j + 1)).flatMap intCell) (.int .i64 x) (.int .i64 (k + (j : Int))) j hA
  refine this.trans ?_
  unfold markITo
  rw [markIs_succ, List.flatMap_append, List.flatMap_append, List.append_assoc]
  simp [intCell]
theorem grown_set' {w wr : World} {g : Nat} (h : w.grownBy wr (some g)) (i : Nat) (x : Value) : w.grownBy (wr.setCell ⟨g, i, none⟩ x) (some g) :=
  ⟨h.os, h.tape, h.output, by rw [World.size_setCell]; exact h.size, fun k hk hne => (heap_setCell_other wr _ k x (fun e => hne (by rw [e]))).trans (h.block k hk hne)⟩
set_option maxHeartbeats 2000000 in
set_option maxRecDepth 100000 in
theorem markInt64S_ex (base : Nat) (s : Value) (cs : List Int) (k0 : Int) (w : World) (hn : cs.length ≤ 1048576) (h0 : 0 ≤ k0) (h1 : k0 ≤ 1152921504606846976) (h : w.ownsRow base 2 1 s cs.length (cs.flatMap intCell)) :
    Calls Try.prog 28 #[s, .int .i64 k0] w fun e w' => e = .returned (.int .i64 (k0 + (cs.length : Int))) ∧ w'.ownsRow base 2 1 s cs.length ((markIs k0 cs.length).flatMap intCell) ∧ w.grownBy w' s.ownBlock := by
  have H : Hid (w.ownsRow base 2 1 s cs.length ((markITo k0 cs 0).flatMap intCell)) := by show World.ownsRow _ _ _ _ _ _ _; rw [markITo_zero]; exact h
  rcases own_row h with ⟨rfl, hz⟩ | ⟨g, c, rfl⟩
  · clear h
    rw [hz] at H ⊢
    have hfin : Hid (w.ownsRow base 2 1 (.slice none 0 0) 0 ((markIs k0 0).flatMap intCell)) := World.ownsRow_nil _ _ _ _
    go_enter Try.func28, Try.ntmps28
    go_wp2
    go_loopw [1, 5] (fun q i wr => q = .int .i64 k0 ∧ i = .int .i64 0 ∧ wr = w) (fun _ _ _ => 0)
    case atStart => exact ⟨rfl, rfl, rfl⟩
    case round =>
      obtain ⟨rfl, rfl, rfl⟩ := hrel
      go_wp2
      go_ret
      exact ⟨by simp, hfin.out, ⟨rfl, rfl, rfl, Nat.le_refl _, fun _ _ _ => rfl⟩⟩
  · clear h
    generalize hLL : cs.length = n at hn H ⊢
    have HL : Hid (cs.length = n) := hLL
    clear hLL
    go_enter Try.func28, Try.ntmps28
    go_wp2
    go_loopw [1, 5] (fun q i wr => ∃ k : Nat, k ≤ n ∧ q = .int .i64 (k0 + k) ∧ i = .int .i64 k ∧ Hid (wr.ownsRow base 2 1 (.slice (some ⟨g, 0, none⟩) n c) n ((markITo k0 cs k).flatMap intCell) ∧ w.grownBy wr (some g))) (fun _ i _ => n - (intOf i).toNat)
    case atStart => exact ⟨0, by omega, by simp, rfl, H.out, ⟨rfl, rfl, rfl, Nat.le_refl _, fun _ _ _ => rfl⟩⟩
    case round =>
      obtain ⟨k, hk, rfl, rfl, HM⟩ := hrel
      by_cases hlt : k < n
      · obtain ⟨x, hx⟩ : ∃ x, cs[k]? = some x := ⟨_, List.getElem?_eq_getElem (by rw [HL.out]; exact hlt)⟩
        have hA : ((markIs k0 k).flatMap intCell).length = k := by rw [flat_length intCell 1 intCell_length, markIs_length, Nat.mul_one]
        have d0 := HM.out.1.cellAt k (by omega)
        rw [markITo_parts k0 cs k x hx, List.getElem?_append_right (by omega), hA, Nat.sub_self] at d0
        simp only [intCell, List.cons_append, List.getElem?_cons_zero] at d0
        have z0 := HM.out.1.frozenAt k
        have HN : Hid ((wr.setCell ⟨g, k, none⟩ (.int .i64 (k0 + k))).ownsRow base 2 1 (.slice (some ⟨g, 0, none⟩) n c) n ((markITo k0 cs (k + 1)).flatMap intCell) ∧ w.grownBy (wr.setCell ⟨g, k, none⟩ (.int .i64 (k0 + k))) (some g)) := by
          refine ⟨?_, grown_set' HM.out.2 _ _⟩
          have s1 := (HM.out.1.stored k (.int .i64 (k0 + k))).1
          rw [markITo_next k0 cs k x hx] at s1
          exact s1
        clear hA hx
        go_wp2
        go_roundw
        case rel => exact ⟨k + 1, by omega, by go_num, by go_num, HN⟩
        case measure => simp [intOf]; omega
      · have hkn : k = n := by omega
        subst hkn
        have HE : Hid (wr.ownsRow base 2 1 (.slice (some ⟨g, 0, none⟩) k c) k ((markIs k0 k).flatMap intCell) ∧ w.grownBy wr (some g)) := by
          have := HM.out
          rw [markITo_all k0 cs k HL.out] at this
          exact this
        go_wp2
        go_ret
        exact ⟨rfl, HE.out.1, HE.out.2⟩
set_option maxHeartbeats 1000000 in
theorem heldInt64S_ex (s : Value) (n : Nat) (k0 : Int) (w : World) (hn : n ≤ 1048576) (h0 : 0 ≤ k0) (h1 : k0 ≤ 1152921504606846976) (h : Rd w 1 s n ((markIs k0 n).flatMap intCell)) :
    Calls Try.prog 29 #[s, .int .i64 k0] w fun e w' => e = .returned (.int .i64 (k0 + (n : Int))) ∧ w' = w := by
  have H1 : Hid (Rd w 1 s n ((markIs k0 n).flatMap intCell)) := h
  obtain ⟨a1, c1, rfl⟩ := h.is_slice
  clear h
  go_enter Try.func29, Try.ntmps29
  go_wp2
  go_loopw [1, 5] (fun q i wr => ∃ k : Nat, k ≤ n ∧ q = .int .i64 (k0 + k) ∧ i = .int .i64 k ∧ wr = w) (fun _ i _ => n - (intOf i).toNat)
  case atStart => exact ⟨0, by omega, by simp, rfl, rfl⟩
  case round =>
    obtain ⟨k, hk, rfl, rfl, rfl⟩ := hrel
    by_cases hlt : k < n
    · have hz : (markIs k0 n)[k]? = some (k0 + (k : Int)) := by simp [markIs, hlt]
      rcases H1.out.2 with ⟨e0, _⟩ | ⟨g, o, c, e1, hc1⟩
      · omega
      simp only [Value.slice.injEq, true_and] at e1
      obtain ⟨rfl, rfl⟩ := e1
      have j0 := Rd.elem intCell_length hc1 k _ hz 0 _ rfl
      rw [Nat.mul_one, Nat.add_zero] at j0
      clear hc1 hz
      go_wp2
      go_roundw
      case rel => exact ⟨k + 1, by omega, by go_num, by go_num, by trivial⟩
      case measure => simp [intOf]; omega
    · have hkn : k = n := by omega
      subst hkn
      go_wp2
      go_ret
      exact ⟨rfl, rfl⟩
theorem own_apart' {w w' : World} {base : Nat} {e : TypeId} {s : Value} {k n : Nat} {xs : List Value} {row : Option Nat} (h : w.ownsRow base e k s n xs) (hg : w.grownBy w' row) (hne : ∀ g, s.ownBlock = some g → some g ≠ row) : w'.ownsRow base e k s n xs := by
  refine ⟨h.1, ?_⟩
  rcases h.2 with h | ⟨g, cap, cur, rfl, hb1, hgg, hr⟩
  · exact .inl h
  · refine .inr ⟨g, cap, cur, rfl, hb1, ?_, hr⟩
    rw [hg.block g (Array.getElem?_eq_some_iff.1 hgg).1 (hne g rfl)]
    exact hgg
/-- Two rows that are not one. -/
def Apart (x y : Value × List Int) : Prop := ∀ g, x.1.ownBlock = some g → y.1.ownBlock ≠ some g
theorem Apart.symm {x y : Value × List Int} (h : Apart x y) : Apart y x := fun g hg e => h g e hg
/-- Rows of values, no two of them one. -/
structure Fam (w : World) (base : Nat) (L : List (Value × List Int)) : Prop where
  own : ∀ x ∈ L, w.ownsRow base 2 1 x.1 x.2.length (x.2.flatMap intCell)
  sep : L.Pairwise Apart
/-- Rows of values from base on have turned; all else is as it was. -/
structure Wv (base : Nat) (w w' : World) : Prop where
  bel : Below base w w'
  blk : ∀ (k : Nat) (cur : Array Value) (t : TypeId), w.heap[k]? = some (Obj.cells cur t (0, 0)) → t ≠ 2 → w'.heap[k]? = some (Obj.cells cur t (0, 0))
theorem Wv.refl (base : Nat) (w : World) : Wv base w w := ⟨Below.refl _ _, fun _ _ _ h _ => h⟩
theorem Wv.trans {base : Nat} {u v w : World} (h : Wv base u v) (h' : Wv base v w) : Wv base u w := ⟨h.bel.trans h'.bel, fun k cur t hk h1 => h'.blk k cur t (h.blk k cur t hk h1) h1⟩
theorem Wv.of_row {base n : Nat} {w w' : World} {s : Value} {xs : List Value} (ho : w.ownsRow base 2 1 s n xs) (hg : w.grownBy w' s.ownBlock) (hB : base ≤ w.heap.size) : Wv base w w' := by
  refine ⟨⟨hg.os, hg.tape, hg.output, hg.size, fun k hk => hg.block k (by omega) (fun e => by have := (ho.lt k e.symm).1; omega)⟩, fun k cur t hk h1 => ?_⟩
  rw [hg.block k (Array.getElem?_eq_some_iff.1 hk).1 ?_]
  · exact hk
  · intro e
    rcases ho.2 with ⟨rfl, _⟩ | ⟨g', cap', cur', rfl, _, hg', _⟩
    · cases e
    · simp only [Value.ownBlock, Option.some.injEq] at e
      subst e
      rw [hk] at hg'
      simp only [Option.some.injEq, Obj.cells.injEq] at hg'
      exact h1 hg'.2.1
theorem Wv.own {base b : Nat} {w w' : World} (h : Wv base w w') {e : TypeId} {s : Value} {k n : Nat} {xs : List Value} (ho : w.ownsRow b e k s n xs) (h1 : e ≠ 2) : w'.ownsRow b e k s n xs := by
  refine ⟨ho.1, ?_⟩
  rcases ho.2 with h' | ⟨g, cap, cur, e1, hb1, hg, hr⟩
  · exact .inl h'
  · exact .inr ⟨g, cap, cur, e1, hb1, h.blk g cur e hg h1, hr⟩
theorem Fam.put {w w' : World} {base : Nat} {A B : List (Value × List Int)} {v : Value} {c c' : List Int} (h : Fam w base (A ++ (v, c) :: B)) (hl : c'.length = c.length) (ho : w'.ownsRow base 2 1 v c.length (c'.flatMap intCell)) (hg : w.grownBy w' v.ownBlock) : Fam w' base (A ++ (v, c') :: B) := by
  obtain ⟨pA, pB, pAB⟩ := List.pairwise_append.1 h.sep
  obtain ⟨pv, pB'⟩ := List.pairwise_cons.1 pB
  refine ⟨fun x hx => ?_, List.pairwise_append.2 ⟨pA, List.pairwise_cons.2 ⟨fun y hy => pv y hy, pB'⟩, fun a ha b hb => ?_⟩⟩
  · rcases List.mem_append.1 hx with hx | hx
    · exact own_apart' (h.own x (List.mem_append.2 (.inl hx))) hg (fun g hgx e => pAB x hx (v, c) (by simp) g hgx e.symm)
    · rcases List.mem_cons.1 hx with rfl | hx
      · simp only []
        rw [hl]
        exact ho
      · exact own_apart' (h.own x (List.mem_append.2 (.inr (List.mem_cons_of_mem _ hx)))) hg (fun g hgx e => pv x hx g e.symm hgx)
  · rcases List.mem_cons.1 hb with rfl | hb
    · exact fun g hga => pAB a ha (v, c) (by simp) g hga
    · exact pAB a ha b (List.mem_cons_of_mem _ hb)
end Go.Proofs.Ytdbaghmjomdmbaa
