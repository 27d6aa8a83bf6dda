/- MarkV, MarkW, MarkX -/
import Derived.Test.YtkpajiahpmdobaaGreatMark2
/- MarkV: what marking leaves of rows of values, to the letter. -/
namespace Go.Proofs.YtkpajiahpmdobaaGreat
open Go.ChangeShapes Go.WideShapes Go.ChangeAt Go.RowKit
set_option linter.unusedVariables false
/-- What mark leaves of n values, from k on. -/
def markVs (k : Int) (n : Nat) : List MC := (List.range n).map fun (i : Nat) => ⟨k + 2 * (i : Int), (k + 2 * (i : Int) + 1) % 4294967296⟩
theorem markVs_length (k : Int) (n : Nat) : (markVs k n).length = n := by simp [markVs]
theorem markVs_succ (k : Int) (n : Nat) : markVs k (n + 1) = markVs k n ++ [⟨k + 2 * (n : Int), (k + 2 * (n : Int) + 1) % 4294967296⟩] := by simp [markVs, List.range_succ]
/-- Marked up to j. -/
def markVTo (k : Int) (cs : List MC) (j : Nat) : List MC := markVs k j ++ cs.drop j
theorem markVTo_zero (k : Int) (cs : List MC) : markVTo k cs 0 = cs := by simp [markVTo, markVs]
theorem markVTo_all (k : Int) (cs : List MC) (n : Nat) (h : cs.length = n) : markVTo k cs n = markVs k n := by simp [markVTo, ← h]
theorem markVTo_length (k : Int) (cs : List MC) (j : Nat) (h : j ≤ cs.length) : (markVTo k cs j).length = cs.length := by simp [markVTo, markVs_length]; omega
theorem markVTo_parts (k : Int) (cs : List MC) (j : Nat) (x : MC) (h : cs[j]? = some x) : (markVTo k cs j).flatMap MC.cells = (markVs k j).flatMap MC.cells ++ (x.cells ++ (cs.drop (j + 1)).flatMap MC.cells) := by
  obtain ⟨hlt, rfl⟩ := List.getElem?_eq_some_iff.1 h
  unfold markVTo
  rw [List.flatMap_append, List.drop_eq_getElem_cons hlt, List.flatMap_cons]
theorem markVTo_next (k : Int) (cs : List MC) (j : Nat) (x : MC) (h : cs[j]? = some x) : (((markVTo k cs j).flatMap MC.cells).set (j * 2) (.int .i64 (k + 2 * (j : Int)))).set (j * 2 + 1) (.int .u32 ((k + 2 * (j : Int) + 1) % 4294967296)) = (markVTo k cs (j + 1)).flatMap MC.cells := by
  have hA : ((markVs k j).flatMap MC.cells).length = j * 2 := by rw [flat_length MC.cells 2 MC.cells_length, markVs_length]
  rw [markVTo_parts k cs j x h]
  have := set2 ((markVs k j).flatMap MC.cells) ((cs.drop (j + 1)).flatMap MC.cells) (.int .i64 x.type) (.int .u32 x.word) (.int .i64 (k + 2 * (j : Int))) (.int .u32 ((k + 2 * (j : Int) + 1) % 4294967296)) (j * 2) hA
  refine this.trans ?_
  unfold markVTo
  rw [markVs_succ, List.flatMap_append, List.flatMap_append, List.append_assoc]
  simp [MC.cells]
theorem grown_set' {w wr : World} {g : Nat} (h : w.grownBy wr (some g)) (i : Nat) (x : Value) : w.grownBy (wr.setCell ⟨g, i, none⟩ x) (some g) :=
  ⟨h.os, h.tape, h.output, by rw [World.size_setCell]; exact h.size, fun k hk hne => (heap_setCell_other wr _ k x (fun e => hne (by rw [e]))).trans (h.block k hk hne)⟩
set_option maxHeartbeats 2000000 in
set_option maxRecDepth 100000 in
theorem markValueS_ex (base : Nat) (s : Value) (cs : List MC) (k0 : Int) (w : World) (hn : cs.length ≤ 1048576) (h0 : 0 ≤ k0) (h1 : k0 ≤ 1152921504606846976) (h : w.ownsRow base 102 2 s cs.length (cs.flatMap MC.cells)) :
    Calls Tryz.prog 49 #[s, .int .i64 k0] w fun e w' => e = .returned (.int .i64 (k0 + 2 * (cs.length : Int))) ∧ w'.ownsRow base 102 2 s cs.length ((markVs k0 cs.length).flatMap MC.cells) ∧ w.grownBy w' s.ownBlock := by
  have H : Hid (w.ownsRow base 102 2 s cs.length ((markVTo k0 cs 0).flatMap MC.cells)) := by show World.ownsRow _ _ _ _ _ _ _; rw [markVTo_zero]; exact h
  rcases own_row h with ⟨rfl, hz⟩ | ⟨g, c, rfl⟩
  · clear h
    rw [hz] at H ⊢
    have hfin : Hid (w.ownsRow base 102 2 (.slice none 0 0) 0 ((markVs k0 0).flatMap MC.cells)) := World.ownsRow_nil _ _ _ _
    go_enter Tryz.func49, Tryz.ntmps49
    go_wp2
    go_loopw [1, 5] (fun q i wr => q = .int .i64 k0 ∧ i = .int .i64 0 ∧ wr = w) (fun _ _ _ => 0)
    case atStart => exact ⟨rfl, rfl, rfl⟩
    case round =>
      obtain ⟨rfl, rfl, rfl⟩ := hrel
      go_wp2
      go_ret
      exact ⟨by simp, hfin.out, ⟨rfl, rfl, rfl, Nat.le_refl _, fun _ _ _ => rfl⟩⟩
  · clear h
    generalize hLL : cs.length = n at hn H ⊢
    have HL : Hid (cs.length = n) := hLL
    clear hLL
    go_enter Tryz.func49, Tryz.ntmps49
    go_wp2
    go_loopw [1, 5] (fun q i wr => ∃ k : Nat, k ≤ n ∧ q = .int .i64 (k0 + 2 * k) ∧ i = .int .i64 k ∧ Hid (wr.ownsRow base 102 2 (.slice (some ⟨g, 0, none⟩) n c) n ((markVTo k0 cs k).flatMap MC.cells) ∧ w.grownBy wr (some g))) (fun _ i _ => n - (intOf i).toNat)
    case atStart => exact ⟨0, by omega, by simp, rfl, H.out, ⟨rfl, rfl, rfl, Nat.le_refl _, fun _ _ _ => rfl⟩⟩
    case round =>
      obtain ⟨k, hk, rfl, rfl, HM⟩ := hrel
      by_cases hlt : k < n
      · obtain ⟨x, hx⟩ : ∃ x, cs[k]? = some x := ⟨_, List.getElem?_eq_getElem (by rw [HL.out]; exact hlt)⟩
        have hA : ((markVs k0 k).flatMap MC.cells).length = k * 2 := by rw [flat_length MC.cells 2 MC.cells_length, markVs_length]
        have d0 := HM.out.1.cellAt (k * 2) (by omega)
        have d1 := HM.out.1.cellAt (k * 2 + 1) (by omega)
        rw [markVTo_parts k0 cs k x hx, List.getElem?_append_right (by omega), hA] at d0 d1
        rw [Nat.sub_self] at d0
        rw [Nat.add_sub_cancel_left] at d1
        simp only [MC.cells, List.cons_append, List.getElem?_cons_zero, List.getElem?_cons_succ] at d0 d1
        have z0 := HM.out.1.frozenAt (k * 2)
        have z1 := HM.out.1.frozenAt (k * 2 + 1)
        have HN : Hid (((wr.setCell ⟨g, k * 2, none⟩ (.int .i64 (k0 + 2 * k))).setCell ⟨g, k * 2 + 1, none⟩ (.int .u32 ((k0 + 2 * k + 1) % 4294967296))).ownsRow base 102 2 (.slice (some ⟨g, 0, none⟩) n c) n ((markVTo k0 cs (k + 1)).flatMap MC.cells) ∧ w.grownBy ((wr.setCell ⟨g, k * 2, none⟩ (.int .i64 (k0 + 2 * k))).setCell ⟨g, k * 2 + 1, none⟩ (.int .u32 ((k0 + 2 * k + 1) % 4294967296))) (some g)) := by
          refine ⟨?_, grown_set' (grown_set' HM.out.2 _ _) _ _⟩
          have s1 := ((HM.out.1.stored (k * 2) (.int .i64 (k0 + 2 * k))).1.stored (k * 2 + 1) (.int .u32 ((k0 + 2 * k + 1) % 4294967296))).1
          rw [markVTo_next k0 cs k x hx] at s1
          exact s1
        clear hA hx
        go_wp2
        go_roundw
        case rel => exact ⟨k + 1, by omega, by go_num, by go_num, HN⟩
        case measure => simp [intOf]; omega
      · have hkn : k = n := by omega
        subst hkn
        have HE : Hid (wr.ownsRow base 102 2 (.slice (some ⟨g, 0, none⟩) k c) k ((markVs k0 k).flatMap MC.cells) ∧ w.grownBy wr (some g)) := by
          have := HM.out
          rw [markVTo_all k0 cs k HL.out] at this
          exact this
        go_wp2
        go_ret
        exact ⟨rfl, HE.out.1, HE.out.2⟩
set_option maxHeartbeats 1000000 in
theorem heldValueS_ex (s : Value) (n : Nat) (k0 : Int) (w : World) (hn : n ≤ 1048576) (h0 : 0 ≤ k0) (h1 : k0 ≤ 1152921504606846976) (h : Rd w 2 s n ((markVs k0 n).flatMap MC.cells)) :
    Calls Tryz.prog 52 #[s, .int .i64 k0] w fun e w' => e = .returned (.int .i64 (k0 + 2 * (n : Int))) ∧ w' = w := by
  have H1 : Hid (Rd w 2 s n ((markVs k0 n).flatMap MC.cells)) := h
  obtain ⟨a1, c1, rfl⟩ := h.is_slice
  clear h
  go_enter Tryz.func52, Tryz.ntmps52
  go_wp2
  go_loopw [1, 5] (fun q i wr => ∃ k : Nat, k ≤ n ∧ q = .int .i64 (k0 + 2 * k) ∧ i = .int .i64 k ∧ wr = w) (fun _ i _ => n - (intOf i).toNat)
  case atStart => exact ⟨0, by omega, by simp, rfl, rfl⟩
  case round =>
    obtain ⟨k, hk, rfl, rfl, rfl⟩ := hrel
    by_cases hlt : k < n
    · have hz : (markVs k0 n)[k]? = some ⟨k0 + 2 * (k : Int), (k0 + 2 * (k : Int) + 1) % 4294967296⟩ := by simp [markVs, hlt]
      rcases H1.out.2 with ⟨e0, _⟩ | ⟨g, o, c, e1, hc1⟩
      · omega
      simp only [Value.slice.injEq, true_and] at e1
      obtain ⟨rfl, rfl⟩ := e1
      have j0 := Rd.elem MC.cells_length hc1 k _ hz 0 _ rfl
      have j1 := Rd.elem MC.cells_length hc1 k _ hz 1 _ rfl
      rw [Nat.add_zero] at j0
      clear hc1 hz
      go_wp2
      go_roundw
      case rel => exact ⟨k + 1, by omega, by go_num, by go_num, by trivial⟩
      case measure => simp [intOf]; omega
    · have hkn : k = n := by omega
      subst hkn
      go_wp2
      go_ret
      exact ⟨rfl, rfl⟩
end Go.Proofs.YtkpajiahpmdobaaGreat
/- MarkW: families of rows of values; markValueSS, heldValueSS to the letter. -/
namespace Go.Proofs.YtkpajiahpmdobaaGreat
open Go.ChangeShapes Go.WideShapes Go.ChangeAt Go.RowKit
set_option linter.unusedVariables false
theorem own_apart' {w w' : World} {base : Nat} {e : TypeId} {s : Value} {k n : Nat} {xs : List Value} {row : Option Nat} (h : w.ownsRow base e k s n xs) (hg : w.grownBy w' row) (hne : ∀ g, s.ownBlock = some g → some g ≠ row) : w'.ownsRow base e k s n xs := by
  refine ⟨h.1, ?_⟩
  rcases h.2 with h | ⟨g, cap, cur, rfl, hb1, hgg, hr⟩
  · exact .inl h
  · refine .inr ⟨g, cap, cur, rfl, hb1, ?_, hr⟩
    rw [hg.block g (Array.getElem?_eq_some_iff.1 hgg).1 (hne g rfl)]
    exact hgg
/-- Two rows that are not one. -/
def Apart (x y : Value × List MC) : Prop := ∀ g, x.1.ownBlock = some g → y.1.ownBlock ≠ some g
theorem Apart.symm {x y : Value × List MC} (h : Apart x y) : Apart y x := fun g hg e => h g e hg
/-- Rows of values, no two of them one. -/
structure Fam (w : World) (base : Nat) (L : List (Value × List MC)) : Prop where
  own : ∀ x ∈ L, w.ownsRow base 102 2 x.1 x.2.length (x.2.flatMap MC.cells)
  sep : L.Pairwise Apart
/-- Rows of values from base on have turned; all else is as it was. -/
structure Wv (base : Nat) (w w' : World) : Prop where
  bel : Below base w w'
  blk : ∀ (k : Nat) (cur : Array Value) (t : TypeId), w.heap[k]? = some (Obj.cells cur t (0, 0)) → t ≠ 102 → w'.heap[k]? = some (Obj.cells cur t (0, 0))
theorem Wv.refl (base : Nat) (w : World) : Wv base w w := ⟨Below.refl _ _, fun _ _ _ h _ => h⟩
theorem Wv.trans {base : Nat} {u v w : World} (h : Wv base u v) (h' : Wv base v w) : Wv base u w := ⟨h.bel.trans h'.bel, fun k cur t hk h1 => h'.blk k cur t (h.blk k cur t hk h1) h1⟩
theorem Wv.of_row {base n : Nat} {w w' : World} {s : Value} {xs : List Value} (ho : w.ownsRow base 102 2 s n xs) (hg : w.grownBy w' s.ownBlock) (hB : base ≤ w.heap.size) : Wv base w w' := by
  refine ⟨⟨hg.os, hg.tape, hg.output, hg.size, fun k hk => hg.block k (by omega) (fun e => by have := (ho.lt k e.symm).1; omega)⟩, fun k cur t hk h1 => ?_⟩
  rw [hg.block k (Array.getElem?_eq_some_iff.1 hk).1 ?_]
  · exact hk
  · intro e
    rcases ho.2 with ⟨rfl, _⟩ | ⟨g', cap', cur', rfl, _, hg', _⟩
    · cases e
    · simp only [Value.ownBlock, Option.some.injEq] at e
      subst e
      rw [hk] at hg'
      simp only [Option.some.injEq, Obj.cells.injEq] at hg'
      exact h1 hg'.2.1
theorem Wv.own {base b : Nat} {w w' : World} (h : Wv base w w') {e : TypeId} {s : Value} {k n : Nat} {xs : List Value} (ho : w.ownsRow b e k s n xs) (h1 : e ≠ 102) : w'.ownsRow b e k s n xs := by
  refine ⟨ho.1, ?_⟩
  rcases ho.2 with h' | ⟨g, cap, cur, e1, hb1, hg, hr⟩
  · exact .inl h'
  · exact .inr ⟨g, cap, cur, e1, hb1, h.blk g cur e hg h1, hr⟩
theorem Fam.put {w w' : World} {base : Nat} {A B : List (Value × List MC)} {v : Value} {c c' : List MC} (h : Fam w base (A ++ (v, c) :: B)) (hl : c'.length = c.length) (ho : w'.ownsRow base 102 2 v c.length (c'.flatMap MC.cells)) (hg : w.grownBy w' v.ownBlock) : Fam w' base (A ++ (v, c') :: B) := by
  obtain ⟨pA, pB, pAB⟩ := List.pairwise_append.1 h.sep
  obtain ⟨pv, pB'⟩ := List.pairwise_cons.1 pB
  refine ⟨fun x hx => ?_, List.pairwise_append.2 ⟨pA, List.pairwise_cons.2 ⟨fun y hy => pv y hy, pB'⟩, fun a ha b hb => ?_⟩⟩
  · rcases List.mem_append.1 hx with hx | hx
    · exact own_apart' (h.own x (List.mem_append.2 (.inl hx))) hg (fun g hgx e => pAB x hx (v, c) (by simp) g hgx e.symm)
    · rcases List.mem_cons.1 hx with rfl | hx
      · simp only []
        rw [hl]
        exact ho
      · exact own_apart' (h.own x (List.mem_append.2 (.inr (List.mem_cons_of_mem _ hx)))) hg (fun g hgx e => pv x hx g e.symm hgx)
  · rcases List.mem_cons.1 hb with rfl | hb
    · exact fun g hga => pAB a ha (v, c) (by simp) g hga
    · exact pAB a ha b (List.mem_cons_of_mem _ hb)
/-- What mark leaves of rows, from k on; and where it ends. -/
def markRows : Int → List (Value × List MC) → List (Value × List MC)
  | _, [] => []
  | k, (v, c) :: r => (v, markVs k c.length) :: markRows (k + 2 * (c.length : Int)) r
def endK : Int → List (Value × List MC) → Int
  | k, [] => k
  | k, (_, c) :: r => endK (k + 2 * (c.length : Int)) r
theorem markRows_length (k : Int) (L : List (Value × List MC)) : (markRows k L).length = L.length := by
  induction L generalizing k with
  | nil => rfl
  | cons x r ih => simp [markRows, ih]
theorem endK_snoc (k : Int) (L : List (Value × List MC)) (x : Value × List MC) : endK k (L ++ [x]) = endK k L + 2 * (x.2.length : Int) := by
  induction L generalizing k with
  | nil => rfl
  | cons y r ih => simp only [List.cons_append, endK]; exact ih _
theorem markRows_snoc (k : Int) (L : List (Value × List MC)) (x : Value × List MC) : markRows k (L ++ [x]) = markRows k L ++ [(x.1, markVs (endK k L) x.2.length)] := by
  induction L generalizing k with
  | nil => rfl
  | cons y r ih => simp only [List.cons_append, markRows, endK]; rw [ih]
theorem markRows_app (k : Int) (L M : List (Value × List MC)) : markRows k (L ++ M) = markRows k L ++ markRows (endK k L) M := by
  induction L generalizing k with
  | nil => rfl
  | cons y r ih => simp only [List.cons_append, markRows, endK]; rw [ih]
theorem markRows_fst (k : Int) (L : List (Value × List MC)) : (markRows k L).map Prod.fst = L.map Prod.fst := by
  induction L generalizing k with
  | nil => rfl
  | cons x r ih => simp [markRows, ih]
theorem endK_le (k : Int) (L : List (Value × List MC)) (h : ∀ x ∈ L, x.2.length ≤ 1048576) : k ≤ endK k L ∧ endK k L ≤ k + 2097152 * (L.length : Int) := by
  induction L generalizing k with
  | nil => simp [endK]
  | cons x r ih =>
    have h1 := h x (by simp)
    have h2 := ih (k + 2 * (x.2.length : Int)) (fun y hy => h y (by simp [hy]))
    simp only [endK, List.length_cons]
    omega
end Go.Proofs.YtkpajiahpmdobaaGreat
/- MarkX: markValueSS, heldValueSS to the letter. -/
namespace Go.Proofs.YtkpajiahpmdobaaGreat
open Go.ChangeShapes Go.WideShapes Go.ChangeAt Go.RowKit
set_option linter.unusedVariables false
/-- The slices of rows, as cells. -/
def sCell (x : Value × List MC) : List Value := [x.1]
theorem sCell_length (x : Value × List MC) : (sCell x).length = 1 := rfl
theorem markRows_cells (k : Int) (L : List (Value × List MC)) : (markRows k L).flatMap sCell = L.flatMap sCell := by
  induction L generalizing k with
  | nil => rfl
  | cons x r ih => simp [markRows, sCell, ih]
set_option maxHeartbeats 2000000 in
set_option maxRecDepth 100000 in
theorem markValueSS_ex (base : Nat) (s : Value) (A L B : List (Value × List MC)) (k0 : Int) (w : World) (hB : base ≤ w.heap.size) (hn : L.length ≤ 1048576) (hr : ∀ x ∈ L, x.2.length ≤ 1048576) (h0 : 0 ≤ k0) (h1 : k0 ≤ 281474976710656) (h : w.ownsRow base 34 1 s L.length (L.flatMap sCell)) (hf : Fam w base (A ++ L ++ B)) :
    Calls Tryz.prog 48 #[s, .int .i64 k0] w fun e w' => e = .returned (.int .i64 (endK k0 L)) ∧ Fam w' base (A ++ markRows k0 L ++ B) ∧ Wv base w w' := by
  have H : Hid (w.ownsRow base 34 1 s L.length (L.flatMap sCell) ∧ (∀ x ∈ L, x.2.length ≤ 1048576)) := ⟨h, hr⟩
  have HF0 : Hid (Fam w base (A ++ L ++ B)) := hf
  obtain ⟨a1, c1, rfl⟩ := own_slice h
  clear h hr hf
  generalize hLL : L.length = n at hn H
  have HL : Hid (L.length = n) := hLL
  clear hLL
  go_enter Tryz.func48, Tryz.ntmps48
  go_wp2
  go_loopw [1, 5] (fun q i wr => ∃ D E : List (Value × List MC), Hid (L = D ++ E) ∧ D.length ≤ n ∧ q = .int .i64 (endK k0 D) ∧ i = .int .i64 (D.length : Nat) ∧ Hid (Fam wr base (A ++ markRows k0 D ++ (E ++ B)) ∧ Wv base w wr)) (fun _ i _ => n - (intOf i).toNat)
  case atStart => exact ⟨[], L, rfl, by simp, rfl, rfl, ⟨by simpa [markRows] using HF0.out, Wv.refl _ _⟩⟩
  case round =>
    obtain ⟨D, E, HD, hk, rfl, rfl, HM⟩ := hrel
    have hlen : D.length + E.length = n := by have := HL.out; rw [HD.out, List.length_append] at this; exact this
    have hend := endK_le k0 D (fun x hx => H.out.2 x (by rw [HD.out]; simp [hx]))
    cases E with
    | cons x E' =>
      obtain ⟨v, c⟩ := x
      have hx : L[D.length]? = some (v, c) := by rw [HD.out]; simp
      have hlt : D.length < n := by simp only [List.length_cons] at hlen; omega
      have hcl : c.length ≤ 1048576 := H.out.2 (v, c) (List.mem_of_getElem? hx)
      have hrow := HM.out.2.own H.out.1 (by decide)
      have hov := HM.out.1.own (v, c) (by simp)
      simp only [] at hov
      rcases (Rd.of_own hrow).2 with ⟨e0, _⟩ | ⟨g, o, cc, e1, hc1⟩
      · omega
      simp only [Value.slice.injEq, true_and] at e1
      obtain ⟨rfl, rfl⟩ := e1
      have j0 := Rd.elem sCell_length hc1 D.length _ hx 0 _ rfl
      rw [Nat.mul_one, Nat.add_zero] at j0
      simp only [] at j0
      have HO : Hid (wr.ownsRow base 102 2 v c.length (c.flatMap MC.cells)) := hov
      clear hrow hc1 hx hov
      have hdl : (D.length : Int) < (n : Int) := by omega
      go_wp2_with fail
      refine (markValueS_ex base v c (endK k0 D) _ hcl (by omega) (by omega) HO.out).mono ?_
      rintro e u ⟨rfl, ho', hg⟩
      have HN : Hid (Fam u base (A ++ markRows k0 (D ++ [(v, c)]) ++ (E' ++ B)) ∧ Wv base w u) := by
        refine ⟨?_, HM.out.2.trans (Wv.of_row HO.out hg (Nat.le_trans hB HM.out.2.bel.size))⟩
        have hf := HM.out.1
        rw [List.cons_append] at hf
        have := Fam.put (c' := markVs (endK k0 D) c.length) hf (markVs_length _ _) ho' hg
        rw [markRows_snoc]
        simpa [List.append_assoc] using this
      have hes : endK k0 (D ++ [(v, c)]) = endK k0 D + 2 * (c.length : Int) := endK_snoc k0 D (v, c)
      clear ho' hg j0
      go_wp2
      go_roundw
      case rel => exact ⟨D ++ [(v, c)], E', by show _ = _; rw [HD.out]; simp, by simp; omega, by rw [hes], by simp, HN⟩
      case measure => simp [intOf]; omega
    | nil =>
      have hDn : D.length = n := by simpa using hlen
      have hDL : D = L := by rw [HD.out]; simp
      subst hDL
      have HE : Hid (Fam wr base (A ++ markRows k0 D ++ B) ∧ Wv base w wr) := ⟨by simpa using HM.out.1, HM.out.2⟩
      go_wp2
      go_ret
      exact ⟨rfl, HE.out.1, HE.out.2⟩
set_option maxHeartbeats 2000000 in
set_option maxRecDepth 100000 in
theorem heldValueSS_ex (s : Value) (L : List (Value × List MC)) (k0 : Int) (w : World) (hn : L.length ≤ 1048576) (hr : ∀ x ∈ L, x.2.length ≤ 1048576) (h0 : 0 ≤ k0) (h1 : k0 ≤ 281474976710656) (h : Rd w 1 s L.length (L.flatMap sCell)) (hf : ∀ x ∈ markRows k0 L, Rd w 2 x.1 x.2.length (x.2.flatMap MC.cells)) :
    Calls Tryz.prog 51 #[s, .int .i64 k0] w fun e w' => e = .returned (.int .i64 (endK k0 L)) ∧ w' = w := by
  have H : Hid (Rd w 1 s L.length (L.flatMap sCell) ∧ (∀ x ∈ L, x.2.length ≤ 1048576) ∧ ∀ x ∈ markRows k0 L, Rd w 2 x.1 x.2.length (x.2.flatMap MC.cells)) := ⟨h, hr, hf⟩
  obtain ⟨a1, c1, rfl⟩ := h.is_slice
  clear h hr hf
  generalize hLL : L.length = n at hn H
  have HL : Hid (L.length = n) := hLL
  clear hLL
  go_enter Tryz.func51, Tryz.ntmps51
  go_wp2
  go_loopw [1, 5] (fun q i wr => ∃ D E : List (Value × List MC), Hid (L = D ++ E) ∧ D.length ≤ n ∧ q = .int .i64 (endK k0 D) ∧ i = .int .i64 (D.length : Nat) ∧ wr = w) (fun _ i _ => n - (intOf i).toNat)
  case atStart => exact ⟨[], L, rfl, by simp, rfl, rfl, rfl⟩
  case round =>
    obtain ⟨D, E, HD, hk, rfl, rfl, rfl⟩ := hrel
    have hlen : D.length + E.length = n := by have := HL.out; rw [HD.out, List.length_append] at this; exact this
    have hend := endK_le k0 D (fun x hx => H.out.2.1 x (by rw [HD.out]; simp [hx]))
    cases E with
    | cons x E' =>
      obtain ⟨v, c⟩ := x
      have hx : L[D.length]? = some (v, c) := by rw [HD.out]; simp
      have hlt : D.length < n := by simp only [List.length_cons] at hlen; omega
      have hcl : c.length ≤ 1048576 := H.out.2.1 (v, c) (List.mem_of_getElem? hx)
      have hmem : (v, markVs (endK k0 D) c.length) ∈ markRows k0 L := by
        have e2 : L = (D ++ [(v, c)]) ++ E' := by rw [HD.out]; simp
        rw [e2, markRows_app, markRows_snoc]
        simp
      have hov := H.out.2.2 _ hmem
      simp only [markVs_length] at hov
      rcases H.out.1.2 with ⟨e0, _⟩ | ⟨g, o, cc, e1, hc1⟩
      · omega
      simp only [Value.slice.injEq, true_and] at e1
      obtain ⟨rfl, rfl⟩ := e1
      have j0 := Rd.elem sCell_length hc1 D.length _ hx 0 _ rfl
      rw [Nat.mul_one, Nat.add_zero] at j0
      simp only [] at j0
      have HO : Hid (Rd wr 2 v c.length ((markVs (endK k0 D) c.length).flatMap MC.cells)) := hov
      clear hc1 hx hov hmem
      have hdl : (D.length : Int) < (n : Int) := by omega
      have hes : endK k0 (D ++ [(v, c)]) = endK k0 D + 2 * (c.length : Int) := endK_snoc k0 D (v, c)
      have hn0 : ¬ endK k0 D + 2 * (c.length : Int) < 0 := by omega
      go_wp2_with fail
      refine (heldValueS_ex v c.length (endK k0 D) _ hcl (by omega) (by omega) HO.out).mono ?_
      rintro e u ⟨rfl, rfl⟩
      clear j0
      go_wp2
      go_roundw
      case rel => exact ⟨D ++ [(v, c)], E', by show _ = _; rw [HD.out]; simp, by simp; omega, by rw [hes], by simp, by trivial⟩
      case measure => simp [intOf]; omega
    | nil =>
      have hDn : D.length = n := by simpa using hlen
      have hDL : D = L := by rw [HD.out]; simp
      subst hDL
      go_wp2
      go_ret
      exact ⟨rfl, rfl⟩
end Go.Proofs.YtkpajiahpmdobaaGreat
