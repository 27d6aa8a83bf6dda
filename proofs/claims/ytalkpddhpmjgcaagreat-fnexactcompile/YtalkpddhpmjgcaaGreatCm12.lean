import Derived.Test.YtalkpddhpmjgcaaGreatCm11
import Derived.Lib.SmallJoins
import Derived.Deep.Slices
import Derived.Test.YtalkpddhpmjgcaaGreatCm3
namespace Go.Proofs.YtalkpddhpmjgcaaGreat
open Go.ChangeShapes Go.WideShapes Go.ChangeAt Go.RowKit
set_option linter.unusedVariables false
set_option maxHeartbeats 2000000 in
set_option maxRecDepth 100000 in
theorem readList_any (n : Nat) (v : Value) (t : TL n) (w : World) (h : OwnT w 0 n v t) (hs : sizeT n t ≤ 1048576) : Calls Tryz.prog 50 #[v] w fun e w' => ∃ (V : Value) (z : Int), e = .returned (.tuple #[V, .int .i64 z]) ∧ CodeIs n t z ∧ (z = 0 → RdI w' (fun b => w.heap.size ≤ b) n V t) ∧ Below w.heap.size w w' := by
  obtain ⟨a1, c1, rfl⟩ := h.is_slice
  have H : Hid (OwnT w 0 n (.slice a1 (lenT n t) c1) t ∧ sizeT n t ≤ 1048576) := ⟨h, hs⟩
  clear h hs
  go_enter Tryz.func50, Tryz.ntmps50
  go_wp2_with fail
  refine (stmtsHold_any n _ t w H.out.1 H.out.2).mono ?_
  rintro e u1 ⟨⟨b1, rfl, hb1⟩, bl1⟩
  have H1 : Hid ((b1 = true ↔ allOkT n t) ∧ Below w.heap.size w u1) := ⟨hb1, bl1⟩
  clear hb1 bl1
  cases b1
  · have HN : Hid (¬ allOkT n t) := fun e => by have := H1.out.1.2 e; cases this
    go_wp2_with fail
    go_ret2
    exact ⟨_, 1, rfl, .inl ⟨rfl, HN.out⟩, fun e => (by cases e), H1.out.2⟩
  have HOK : Hid (allOkT n t) := H1.out.1.1 rfl
  go_wp2_with fail
  refine (areFew_any n _ t u1 (H.out.1.keep H1.out.2 (Nat.le_refl _)) H.out.2).mono ?_
  rintro e u2 ⟨⟨b2, rfl, hb2⟩, bl2⟩
  have H2 : Hid ((b2 = true ↔ sizeT n t ≤ 60) ∧ Below w.heap.size w u2) := ⟨hb2, below_on H1.out.2 (Nat.le_refl _) bl2⟩
  clear hb2 bl2 H1
  cases b2
  · have HN : Hid (60 < sizeT n t) := by
      show 60 < sizeT n t
      have := H2.out.1
      simp at this
      omega
    go_wp2_with fail
    go_ret2
    exact ⟨_, 2, rfl, .inr (.inl ⟨rfl, HOK.out, HN.out⟩), fun e => (by cases e), H2.out.2⟩
  have HF : Hid (sizeT n t ≤ 60) := H2.out.1.1 rfl
  go_wp2_with fail
  refine (statementsOf_any n _ t u2 (H.out.1.keep H2.out.2 (Nat.le_refl _)) HOK.out H.out.2).mono ?_
  rintro e u3 ⟨V, rfl, r3, bl3⟩
  have H3 : Hid (RdI u3 (fun b => w.heap.size ≤ b) n V t ∧ Below w.heap.size w u3) := ⟨r3.step (fun _ _ _ => rfl) (fun b hb _ => Nat.le_trans H2.out.2.size hb), below_on H2.out.2 (Nat.le_refl _) bl3⟩
  clear r3 bl3 H2
  go_wp2_with fail
  refine (levelsOf_any n V t _ u3 H3.out.1 HOK.out H.out.2).mono ?_
  rintro e u4 ⟨rfl, bl4⟩
  have H4 : Hid (RdI u4 (fun b => w.heap.size ≤ b) n V t ∧ Below w.heap.size w u4) := ⟨H3.out.1.keep bl4, below_on H3.out.2 (Nat.le_refl _) bl4⟩
  clear bl4 H3
  by_cases hv : 8 < levT n t
  · have hv' : (8 : Int) < (levT n t : Int) := by omega
    have HV : Hid (8 < levT n t) := hv
    clear hv
    go_wp2_with fail
    go_ret2
    exact ⟨_, 3, rfl, .inr (.inr (.inl ⟨rfl, HOK.out, HF.out, HV.out⟩)), fun e => (by cases e), H4.out.2⟩
  · have hv' : ¬ (8 : Int) < (levT n t : Int) := by omega
    have HV : Hid (levT n t ≤ 8) := by show levT n t ≤ 8; omega
    clear hv
    go_wp2_with fail
    go_ret2
    exact ⟨_, 0, rfl, .inr (.inr (.inr ⟨rfl, HOK.out, HF.out, HV.out⟩)), fun _ => H4.out.1, H4.out.2⟩
end Go.Proofs.YtalkpddhpmjgcaaGreat
namespace Go.Proofs.YtalkpddhpmjgcaaGreat
open Go.ChangeShapes Go.WideShapes Go.ChangeAt Go.RowKit
set_option linter.unusedVariables false
section
variable {H : Type} {enc : TypeId × Value → H} {w : World} {spare : Nat → Bool} {held : Bool}
theorem add_atK (b off : Nat) (i : Nat) : (⟨b, off, none⟩ : Addr).add i = ⟨b, off + i, none⟩ := by unfold Addr.add; split <;> simp_all
/-- A slice whose elements read each as one of a family. -/
theorem open_rowsK {P : Program} {α : Type} (dflt : α) (f : α → List Value) (G : α → Prop) (m : Nat) (hf : ∀ y, (f y).length = m) (h0 : 0 < m) {t e : TypeId} (ht : P.underlying t = some (.slice e)) (hm : P.cellsOf e = m) {n : Nat}
    (hel : ∀ cs x, DataW.trod enc P w 0 spare held n e cs = some x → ∃ y, cs = f y ∧ G y) {cs : List Value} {x : DataW H × List MemPlace} (h : DataW.trod enc P w 0 spare held (n + 1) t cs = some x) :
    ∃ (s : Value) (ys : List α), cs = [s] ∧ Rd w m s ys.length (ys.flatMap f) ∧ ys.length ≤ maxLen ∧ ∀ y ∈ ys, G y := by
  rcases DataW.trod_slice ht h with ⟨rfl, _⟩ | ⟨a, len, cap, elems, rest, n', hn', rfl, _, _, hl, hmx, hlen, hE, _, _⟩
  · exact ⟨_, [], rfl, ⟨by simp, .inl ⟨rfl, _, _, rfl⟩⟩, by simp, fun y hy => by cases hy⟩
  · have hn : n' = n := by omega
    subst hn
    rw [hm] at hE
    have hy : ∀ i, i < len → ∃ y, w.cells? 0 (a.add (i * m)) m = some (f y) ∧ G y := by
      intro i hi
      have h1 := hE i hi
      rw [List.getElem?_eq_getElem (by omega)] at h1
      obtain ⟨cs', hc, hx⟩ := Option.bind_eq_some_iff.1 h1
      obtain ⟨y, rfl, hg⟩ := hel _ _ hx
      exact ⟨y, hc, hg⟩
    obtain ⟨F, hF⟩ := @Go.Deep.choose_lt _ ⟨dflt⟩ _ _ hy
    refine ⟨_, (List.range len).map F, rfl, ⟨?_, ?_⟩, by simp; omega, ?_⟩
    · rw [flat_length f m hf]
    · by_cases hz : len = 0
      · subst hz
        exact .inl ⟨by simp, _, _, rfl⟩
      · obtain ⟨b, off, spot⟩ := a
        have hc0 := (World.cells?_some (hF 0 (by omega)).1).2.2 0 h0
        have hfl : 0 < (f (F 0)).length := by rw [hf]; exact h0
        rw [List.getElem?_eq_getElem hfl] at hc0
        have hspot : spot = none := by simpa [Addr.add] using World.cell?_spot hc0
        subst hspot
        refine .inr ⟨b, off, cap, by simp, fun j u hj => ?_⟩
        have hjl : j < len * m := by
          have := (List.getElem?_eq_some_iff.1 hj).1
          rw [flat_length f m hf] at this
          simpa using this
        have hq : j / m < len := (Nat.div_lt_iff_lt_mul h0).2 hjl
        have hr := Nat.mod_lt j h0
        have ej : j = j / m * m + j % m := by rw [Nat.mul_comm]; exact (Nat.div_add_mod j m).symm
        have hk : ((List.range len).map F)[j / m]? = some (F (j / m)) := by simp [hq]
        have hcell := (World.cells?_some (hF (j / m) hq).1).2.2 (j % m) hr
        have hat := flat_at f m hf _ (j / m) (j % m) _ hk hr
        rw [← ej, hj] at hat
        rw [add_atK, add_atK, Nat.add_assoc, ← ej] at hcell
        rw [hcell, ← hat]
    · intro y hy'
      obtain ⟨i, hi, rfl⟩ := List.mem_map.1 hy'
      exact (hF i (List.mem_range.1 hi)).2
theorem trod_struct5 {P : Program} {t : TypeId} {f0 f1 f2 f3 f4 : Field} {fuel : Nat} {cs : List Value} {x : DataW H × List MemPlace} (ht : P.underlying t = some (.struct #[f0, f1, f2, f3, f4])) (h : DataW.trod enc P w 0 spare held fuel t cs = some x) :
    ∃ y0 y1 y2 y3 y4 n, fuel = n + 1 ∧ cs.length = P.cellsOf t ∧ DataW.trod enc P w 0 spare held n f0.type ((cs.drop f0.offset).take (P.cellsOf f0.type)) = some y0 ∧
      DataW.trod enc P w 0 spare held n f1.type ((cs.drop f1.offset).take (P.cellsOf f1.type)) = some y1 ∧ DataW.trod enc P w 0 spare held n f2.type ((cs.drop f2.offset).take (P.cellsOf f2.type)) = some y2 ∧
      DataW.trod enc P w 0 spare held n f3.type ((cs.drop f3.offset).take (P.cellsOf f3.type)) = some y3 ∧ DataW.trod enc P w 0 spare held n f4.type ((cs.drop f4.offset).take (P.cellsOf f4.type)) = some y4 := by
  obtain ⟨xs, n, hn, rfl, hl, hlen, hf⟩ := DataW.trod_struct ht h
  match xs, hlen with
  | [y0, y1, y2, y3, y4], _ => exact ⟨y0, y1, y2, y3, y4, n, hn, hl, by simpa using hf 0 f0 rfl, by simpa using hf 1 f1 rfl, by simpa using hf 2 f2 rfl, by simpa using hf 3 f3 rfl, by simpa using hf 4 f4 rfl⟩
theorem cells64K : Tryz.prog.cellsOf 2 = 1 := by kernel_rfl
theorem cellsLS : Tryz.prog.cellsOf 46 = 5 := by kernel_rfl
theorem cellsSS : Tryz.prog.cellsOf 22 = 1 := by kernel_rfl
theorem five {cs : List Value} (h : cs.length = 5) : ∃ a b c d e, cs = [a, b, c, d, e] := by
  match cs, h with
  | [a, b, c, d, e], _ => exact ⟨a, b, c, d, e, rfl⟩
theorem open_i64K {fuel : Nat} {cs : List Value} {x : DataW H × List MemPlace} (h : DataW.trod enc Tryz.prog w 0 spare held fuel 2 cs = some x) : ∃ z, cs = [.int .i64 z] := by
  obtain ⟨n, h1, _, h2⟩ := DataW.trod_int Tryz.underlying2 h
  exact ⟨n, h1⟩
/-- No statements. -/
def noT : (n : Nat) → TL n
  | 0 => ()
  | _ + 1 => ([] : List _)
theorem open_stmts (fuel : Nat) : ∀ (cs : List Value) (x : DataW H × List MemPlace), DataW.trod enc Tryz.prog w 0 spare held fuel 22 cs = some x → ∃ (s : Value) (t : TL fuel), cs = [s] ∧ RdT w fuel s t ∧ fitT fuel t := by
  induction fuel with
  | zero =>
    intro cs x h
    rcases DataW.trod_slice Tryz.underlying22 h with ⟨rfl, _⟩ | ⟨a, len, cap, elems, rest, n, hn, _⟩
    · exact ⟨_, noT 0, rfl, ⟨_, _, rfl⟩, trivial⟩
    · omega
  | succ n ih =>
    intro cs x h
    obtain ⟨s, ys, e, h1, h2, h3⟩ := open_rowsK (P := Tryz.prog) ((⟨0, 0, 0, noT n, noT n⟩ : SS (TL n)), Value.bool true, Value.bool true) sCells (fun y => (RdT w n y.2.1 y.1.body ∧ RdT w n y.2.2 y.1.els) ∧ fitT n y.1.body ∧ fitT n y.1.els) 5 sCells_length (by omega) Tryz.underlying22 cellsLS (fun cs x hx => by
      obtain ⟨y0, y1, y2, y3, y4, m, hm, hl, g0, g1, g2, g3, g4⟩ := trod_struct5 Tryz.underlying46 hx
      rw [cellsLS] at hl
      obtain ⟨a, b, c, d, e, rfl⟩ := five hl
      simp only [cells64K, cellsSS, List.drop_zero, List.drop_succ_cons, List.take_succ_cons, List.take_zero] at g0 g1 g2 g3 g4
      obtain ⟨z0, e0⟩ := open_i64K g0
      obtain ⟨z1, e1⟩ := open_i64K g1
      obtain ⟨z2, e2⟩ := open_i64K g2
      obtain ⟨s3, t3, e3, r3, k3⟩ := ih _ _ (DataW.trod_le (show m ≤ n by omega) g3)
      obtain ⟨s4, t4, e4, r4, k4⟩ := ih _ _ (DataW.trod_le (show m ≤ n by omega) g4)
      simp only [List.cons.injEq, and_true] at e0 e1 e2 e3 e4
      subst e0 e1 e2 e3 e4
      exact ⟨(⟨z0, z1, z2, t3, t4⟩, d, e), rfl, ⟨r3, r4⟩, k3, k4⟩) h
    refine ⟨s, (ys.map Prod.fst : List (SS (TL n))), e, ⟨ys, rfl, by rw [List.length_map]; exact h1, fun y hy => (h3 y hy).1⟩, ?_, fun q hq => ?_⟩
    · rw [List.length_map]
      simp [maxLen] at h2
      exact h2
    · obtain ⟨y, hy, rfl⟩ := List.mem_map.1 hq
      exact (h3 y hy).2
end
end Go.Proofs.YtalkpddhpmjgcaaGreat
namespace Go.Proofs.YtalkpddhpmjgcaaGreat
open Go.ChangeShapes Go.WideShapes Go.ChangeAt Go.RowKit
set_option linter.unusedVariables false
theorem own_row {w : World} {base : Nat} {e : TypeId} {s : Value} {k n : Nat} {xs : List Value} (h : w.ownsRow base e k s n xs) : (s = .slice none 0 0 ∧ n = 0) ∨ ∃ g c, s = .slice (some ⟨g, 0, none⟩) n c := by
  rcases h.2 with h | ⟨g, cap, cur, rfl, hb, _⟩
  · exact .inl h
  · exact .inr ⟨g, cap, rfl⟩
theorem own_slice {w : World} {base : Nat} {e : TypeId} {s : Value} {k n : Nat} {xs : List Value} (h : w.ownsRow base e k s n xs) : ∃ a c, s = .slice a n c := by
  rcases own_row h with ⟨rfl, rfl⟩ | ⟨g, c, rfl⟩ <;> exact ⟨_, _, rfl⟩
end Go.Proofs.YtalkpddhpmjgcaaGreat
namespace Go.Proofs.YtalkpddhpmjgcaaGreat
open Go.ChangeShapes Go.WideShapes Go.ChangeAt Go.RowKit
set_option linter.unusedVariables false
/-- What mark leaves of n numbers, from k on. -/
def markIs (k : Int) (n : Nat) : List Int := (List.range n).map fun (i : Nat) => k + (i : Int)
theorem markIs_length (k : Int) (n : Nat) : (markIs k n).length = n := by simp [markIs]
theorem markIs_succ (k : Int) (n : Nat) : markIs k (n + 1) = markIs k n ++ [k + (n : Int)] := by simp [markIs, List.range_succ]
/-- Marked up to j. -/
def markITo (k : Int) (cs : List Int) (j : Nat) : List Int := markIs k j ++ cs.drop j
theorem markITo_zero (k : Int) (cs : List Int) : markITo k cs 0 = cs := by simp [markITo, markIs]
theorem markITo_all (k : Int) (cs : List Int) (n : Nat) (h : cs.length = n) : markITo k cs n = markIs k n := by simp [markITo, ← h]
theorem markITo_parts (k : Int) (cs : List Int) (j : Nat) (x : Int) (h : cs[j]? = some x) : (markITo k cs j).flatMap intCell = (markIs k j).flatMap intCell ++ (intCell x ++ (cs.drop (j + 1)).flatMap intCell) := by
  obtain ⟨hlt, rfl⟩ := List.getElem?_eq_some_iff.1 h
  unfold markITo
  rw [List.flatMap_append, List.drop_eq_getElem_cons hlt, List.flatMap_cons]
theorem markITo_next (k : Int) (cs : List Int) (j : Nat) (x : Int) (h : cs[j]? = some x) : ((markITo k cs j).flatMap intCell).set j (.int .i64 (k + (j : Int))) = (markITo k cs (j + 1)).flatMap intCell := by
  have hA : ((markIs k j).flatMap intCell).length = j := by rw [flat_length intCell 1 intCell_length, markIs_length, Nat.mul_one]
  rw [markITo_parts k cs j x h]
  have := set1 ((markIs k j).flatMap intCell) ((cs.drop (j + 1)).flatMap intCell) (.int .i64 x) (.int .i64 (k + (j : Int))) j hA
  refine this.trans ?_
  unfold markITo
  rw [markIs_succ, List.flatMap_append, List.flatMap_append, List.append_assoc]
  simp [intCell]
theorem grown_set' {w wr : World} {g : Nat} (h : w.grownBy wr (some g)) (i : Nat) (x : Value) : w.grownBy (wr.setCell ⟨g, i, none⟩ x) (some g) :=
  ⟨h.os, h.tape, h.output, by rw [World.size_setCell]; exact h.size, fun k hk hne => (heap_setCell_other wr _ k x (fun e => hne (by rw [e]))).trans (h.block k hk hne)⟩
theorem own_apart' {w w' : World} {base : Nat} {e : TypeId} {s : Value} {k n : Nat} {xs : List Value} {row : Option Nat} (h : w.ownsRow base e k s n xs) (hg : w.grownBy w' row) (hne : ∀ g, s.ownBlock = some g → some g ≠ row) : w'.ownsRow base e k s n xs := by
  refine ⟨h.1, ?_⟩
  rcases h.2 with h | ⟨g, cap, cur, rfl, hb1, hgg, hr⟩
  · exact .inl h
  · refine .inr ⟨g, cap, cur, rfl, hb1, ?_, hr⟩
    rw [hg.block g (Array.getElem?_eq_some_iff.1 hgg).1 (hne g rfl)]
    exact hgg
/-- Two rows that are not one. -/
def Apart (x y : Value × List Int) : Prop := ∀ g, x.1.ownBlock = some g → y.1.ownBlock ≠ some g
theorem Apart.symm {x y : Value × List Int} (h : Apart x y) : Apart y x := fun g hg e => h g e hg
/-- Rows of values, no two of them one. -/
structure Fam (w : World) (base : Nat) (L : List (Value × List Int)) : Prop where
  own : ∀ x ∈ L, w.ownsRow base 2 1 x.1 x.2.length (x.2.flatMap intCell)
  sep : L.Pairwise Apart
/-- Rows of values from base on have turned; all else is as it was. -/
structure Wv (base : Nat) (w w' : World) : Prop where
  bel : Below base w w'
  blk : ∀ (k : Nat) (cur : Array Value) (t : TypeId), w.heap[k]? = some (Obj.cells cur t (0, 0)) → t ≠ 2 → w'.heap[k]? = some (Obj.cells cur t (0, 0))
theorem Wv.refl (base : Nat) (w : World) : Wv base w w := ⟨Below.refl _ _, fun _ _ _ h _ => h⟩
theorem Wv.trans {base : Nat} {u v w : World} (h : Wv base u v) (h' : Wv base v w) : Wv base u w := ⟨h.bel.trans h'.bel, fun k cur t hk h1 => h'.blk k cur t (h.blk k cur t hk h1) h1⟩
theorem Wv.of_row {base n : Nat} {w w' : World} {s : Value} {xs : List Value} (ho : w.ownsRow base 2 1 s n xs) (hg : w.grownBy w' s.ownBlock) (hB : base ≤ w.heap.size) : Wv base w w' := by
  refine ⟨⟨hg.os, hg.tape, hg.output, hg.size, fun k hk => hg.block k (by omega) (fun e => by have := (ho.lt k e.symm).1; omega)⟩, fun k cur t hk h1 => ?_⟩
  rw [hg.block k (Array.getElem?_eq_some_iff.1 hk).1 ?_]
  · exact hk
  · intro e
    rcases ho.2 with ⟨rfl, _⟩ | ⟨g', cap', cur', rfl, _, hg', _⟩
    · cases e
    · simp only [Value.ownBlock, Option.some.injEq] at e
      subst e
      rw [hk] at hg'
      simp only [Option.some.injEq, Obj.cells.injEq] at hg'
      exact h1 hg'.2.1
theorem Wv.own {base b : Nat} {w w' : World} (h : Wv base w w') {e : TypeId} {s : Value} {k n : Nat} {xs : List Value} (ho : w.ownsRow b e k s n xs) (h1 : e ≠ 2) : w'.ownsRow b e k s n xs := by
  refine ⟨ho.1, ?_⟩
  rcases ho.2 with h' | ⟨g, cap, cur, e1, hb1, hg, hr⟩
  · exact .inl h'
  · exact .inr ⟨g, cap, cur, e1, hb1, h.blk g cur e hg h1, hr⟩
theorem Fam.put {w w' : World} {base : Nat} {A B : List (Value × List Int)} {v : Value} {c c' : List Int} (h : Fam w base (A ++ (v, c) :: B)) (hl : c'.length = c.length) (ho : w'.ownsRow base 2 1 v c.length (c'.flatMap intCell)) (hg : w.grownBy w' v.ownBlock) : Fam w' base (A ++ (v, c') :: B) := by
  obtain ⟨pA, pB, pAB⟩ := List.pairwise_append.1 h.sep
  obtain ⟨pv, pB'⟩ := List.pairwise_cons.1 pB
  refine ⟨fun x hx => ?_, List.pairwise_append.2 ⟨pA, List.pairwise_cons.2 ⟨fun y hy => pv y hy, pB'⟩, fun a ha b hb => ?_⟩⟩
  · rcases List.mem_append.1 hx with hx | hx
    · exact own_apart' (h.own x (List.mem_append.2 (.inl hx))) hg (fun g hgx e => pAB x hx (v, c) (by simp) g hgx e.symm)
    · rcases List.mem_cons.1 hx with rfl | hx
      · simp only []
        rw [hl]
        exact ho
      · exact own_apart' (h.own x (List.mem_append.2 (.inr (List.mem_cons_of_mem _ hx)))) hg (fun g hgx e => pv x hx g e.symm hgx)
  · rcases List.mem_cons.1 hb with rfl | hb
    · exact fun g hga => pAB a ha (v, c) (by simp) g hga
    · exact pAB a ha b (List.mem_cons_of_mem _ hb)
end Go.Proofs.YtalkpddhpmjgcaaGreat
namespace Go.Proofs.YtalkpddhpmjgcaaGreat
open Go.ChangeShapes Go.WideShapes Go.ChangeAt Go.RowKit
set_option linter.unusedVariables false
/-- The same, or two numbers of one kind. -/
def Alike (x y : Value) : Prop := x = y ∨ ∃ k a b, x = .int k a ∧ y = .int k b
theorem Alike.refl (x : Value) : Alike x x := .inl rfl
theorem Alike.trans {x y z : Value} (h : Alike x y) (h' : Alike y z) : Alike x z := by
  rcases h with rfl | ⟨k, a, b, rfl, rfl⟩
  · exact h'
  · rcases h' with rfl | ⟨k', a', b', e, rfl⟩
    · exact .inr ⟨k, a, b, rfl, rfl⟩
    · cases e
      exact .inr ⟨k, a, b', rfl, rfl⟩
theorem Alike.int {k : IntKind} {a : Int} {y : Value} (h : Alike (.int k a) y) : ∃ b, y = .int k b := by
  rcases h with rfl | ⟨k', a', b', e, rfl⟩
  · exact ⟨_, rfl⟩
  · cases e
    exact ⟨_, rfl⟩
theorem Alike.slice {a : Option Addr} {n c : Nat} {y : Value} (h : Alike (.slice a n c) y) : y = .slice a n c := by
  rcases h with rfl | ⟨k', a', b', e, rfl⟩
  · rfl
  · cases e
def AlikeA (xs ys : Array Value) : Prop := xs.size = ys.size ∧ ∀ (i : Nat) x y, xs[i]? = some x → ys[i]? = some y → Alike x y
theorem AlikeA.refl (xs : Array Value) : AlikeA xs xs := ⟨rfl, fun i x y h1 h2 => by rw [h1] at h2; exact .inl (Option.some.inj h2)⟩
theorem AlikeA.at {xs ys : Array Value} (h : AlikeA xs ys) {i : Nat} {x : Value} (hx : xs[i]? = some x) : ∃ y, ys[i]? = some y ∧ Alike x y := by
  have hi : i < ys.size := by rw [← h.1]; exact (Array.getElem?_eq_some_iff.1 hx).1
  exact ⟨_, Array.getElem?_eq_getElem hi, h.2 i x _ hx (Array.getElem?_eq_getElem hi)⟩
theorem AlikeA.trans {xs ys zs : Array Value} (h : AlikeA xs ys) (h' : AlikeA ys zs) : AlikeA xs zs := by
  refine ⟨h.1.trans h'.1, fun i x z hx hz => ?_⟩
  obtain ⟨y, hy, a1⟩ := h.at hx
  exact a1.trans (h'.2 i y z hy hz)
/-- All blocks of w are there in w', of the same types, with cells alike. -/
structure Shaped (w w' : World) : Prop where
  size : w.heap.size ≤ w'.heap.size
  block : ∀ (k : Nat) (cur : Array Value) (t : TypeId), w.heap[k]? = some (Obj.cells cur t (0, 0)) → ∃ cur', w'.heap[k]? = some (Obj.cells cur' t (0, 0)) ∧ AlikeA cur cur'
theorem Shaped.refl (w : World) : Shaped w w := ⟨Nat.le_refl _, fun k cur t h => ⟨cur, h, .refl _⟩⟩
theorem Shaped.trans {w u v : World} (h : Shaped w u) (h' : Shaped u v) : Shaped w v := by
  refine ⟨Nat.le_trans h.size h'.size, fun k cur t hk => ?_⟩
  obtain ⟨c1, h1, a1⟩ := h.block k cur t hk
  obtain ⟨c2, h2, a2⟩ := h'.block k c1 t h1
  exact ⟨c2, h2, a1.trans a2⟩
theorem Shaped.of_below {w w' : World} (h : Below w.heap.size w w') : Shaped w w' :=
  ⟨h.size, fun k cur t hk => ⟨cur, by rw [h.block k (Array.getElem?_eq_some_iff.1 hk).1]; exact hk, .refl _⟩⟩
/-- Numbers were written into blocks from lo on, below hi: nothing else was done. -/
structure Marks (lo hi : Nat) (w w' : World) : Prop where
  os : w'.os = w.os
  tape : w'.tape = w.tape
  output : w'.output = w.output
  size : w'.heap.size = w.heap.size
  out : ∀ (k : Nat), k < lo ∨ hi ≤ k → w'.heap[k]? = w.heap[k]?
  shaped : Shaped w w'
theorem Marks.refl (lo hi : Nat) (w : World) : Marks lo hi w w := ⟨rfl, rfl, rfl, rfl, fun _ _ => rfl, .refl _⟩
theorem Marks.trans {lo hi : Nat} {w u v : World} (h : Marks lo hi w u) (h' : Marks lo hi u v) : Marks lo hi w v :=
  ⟨h'.os.trans h.os, h'.tape.trans h.tape, h'.output.trans h.output, h'.size.trans h.size, fun k hk => (h'.out k hk).trans (h.out k hk), h.shaped.trans h'.shaped⟩
theorem Marks.below {lo hi : Nat} {w w' : World} (h : Marks lo hi w w') : Below lo w w' := ⟨h.os, h.tape, h.output, Nat.le_of_eq h.size.symm, fun k hk => h.out k (.inl hk)⟩
theorem Marks.drew {lo hi : Nat} {w w' : World} (h : Marks lo hi w w') (n : Nat) : Marks lo hi w (w'.drewN n) := ⟨h.os, h.tape, h.output, h.size, h.out, ⟨h.shaped.size, h.shaped.block⟩⟩
theorem Marks.set {lo hi : Nat} {w : World} {g i : Nat} {cur : Array Value} {t : TypeId} {v x : Value} (hb : w.heap[g]? = some (Obj.cells cur t (0, 0))) (hx : cur[i]? = some x) (ha : Alike x v) (hg : lo ≤ g) (hh : g < hi) : Marks lo hi w (w.setCell ⟨g, i, none⟩ v) := by
  refine ⟨rfl, rfl, rfl, by simp, fun k hk => heap_setCell_other w _ k v (by simp only []; omega), by simp, fun k c' t' hk => ?_⟩
  by_cases e : k = g
  · subst e
    rw [hb] at hk
    simp only [Option.some.injEq, Obj.cells.injEq, and_true] at hk
    obtain ⟨rfl, rfl⟩ := hk
    refine ⟨_, heap_setCell_same w k i cur t v hb, by simp, fun j a b h1 h2 => ?_⟩
    by_cases ej : j = i
    · subst ej
      rw [hx] at h1
      obtain rfl := Option.some.inj h1
      have hlt := (Array.getElem?_eq_some_iff.1 hx).1
      rw [Array.getElem?_setIfInBounds_self_of_lt hlt] at h2
      obtain rfl := Option.some.inj h2
      exact ha
    · rw [Array.getElem?_setIfInBounds_ne (Ne.symm ej), h1] at h2
      exact .inl (Option.some.inj h2)
  · exact ⟨c', by rw [heap_setCell_other w _ k v e]; exact hk, .refl _⟩
/-- A place of a row, in a world of the same shape. -/
theorem shape_at {w wr : World} {base : Nat} {e : TypeId} {k n c g : Nat} {xs : List Value} (h : w.ownsRow base e k (.slice (some ⟨g, 0, none⟩) n c) n xs) (hs : Shaped w wr) {i : Nat} {x : Value} (hx : xs[i]? = some x) :
    ∃ y, wr.cell? ⟨g, i, none⟩ = some y ∧ Alike x y ∧ wr.frozen? ⟨g, i, none⟩ = false ∧ ∀ lo hi v, lo ≤ base → w.heap.size ≤ hi → Alike x v → Marks lo hi wr (wr.setCell ⟨g, i, none⟩ v) := by
  rcases h.2 with ⟨h', _⟩ | ⟨g', cap, cur, e1, hb, hg, hnc, hcm, hcs, ht⟩
  · cases h'
  · cases e1
    obtain ⟨cur', h1, ha⟩ := hs.block _ _ _ hg
    have hc : cur[i]? = some x := by
      rw [← ht] at hx
      have := (List.getElem?_eq_some_iff.1 hx).1
      rw [List.getElem?_take_of_lt (by simp at this; omega)] at hx
      simpa using hx
    obtain ⟨y, hy, al⟩ := ha.at hc
    refine ⟨y, by rw [cell_of_row wr g i cur' e _ h1]; exact hy, al, by simp [World.frozen?, h1], fun lo hi v h2 h3 hv => ?_⟩
    refine Marks.set h1 hy ?_ (Nat.le_trans h2 hb) (Nat.lt_of_lt_of_le (Array.getElem?_eq_some_iff.1 hg).1 h3)
    rcases al with rfl | ⟨k', a, b, rfl, rfl⟩
    · exact hv
    · obtain ⟨z, rfl⟩ := hv.int
      exact .inr ⟨k', b, z, rfl, rfl⟩
/-- A row, in a world of the same shape. -/
theorem own_shaped {w wr : World} {base : Nat} {e : TypeId} {k n : Nat} {s : Value} {xs : List Value} (h : w.ownsRow base e k s n xs) (hs : Shaped w wr) : ∃ ys, wr.ownsRow base e k s n ys ∧ ∀ (i : Nat) x, xs[i]? = some x → ∃ y, ys[i]? = some y ∧ Alike x y := by
  rcases h.2 with ⟨rfl, hx⟩ | ⟨g, cap, cur, rfl, hb, hg, hnc, hcm, hcs, ht⟩
  · exact ⟨xs, ⟨h.1, .inl ⟨rfl, hx⟩⟩, fun i x hi => ⟨x, hi, .refl _⟩⟩
  · obtain ⟨cur', h1, ha⟩ := hs.block _ _ _ hg
    refine ⟨cur'.toList.take (n * k), ⟨?_, .inr ⟨g, cap, cur', rfl, hb, h1, hnc, hcm, by rw [← ha.1]; exact hcs, rfl⟩⟩, fun i x hx => ?_⟩
    · have := h.1
      rw [← ht] at this
      simp only [List.length_take, Array.length_toList] at this ⊢
      rw [← ha.1]
      exact this
    · rw [← ht] at hx
      have hlt := (List.getElem?_eq_some_iff.1 hx).1
      simp only [List.length_take, Array.length_toList] at hlt
      rw [List.getElem?_take_of_lt (by omega)] at hx
      obtain ⟨y, hy, al⟩ := ha.at (by simpa using hx)
      exact ⟨y, by rw [List.getElem?_take_of_lt (by omega)]; simpa using hy, al⟩
/-- Numbers were written into blocks from lo on, below hi, and new blocks were made. -/
structure MarksG (lo hi : Nat) (w w' : World) : Prop where
  os : w'.os = w.os
  tape : w'.tape = w.tape
  output : w'.output = w.output
  size : w.heap.size ≤ w'.heap.size
  out : ∀ (k : Nat), k < w.heap.size → k < lo ∨ hi ≤ k → w'.heap[k]? = w.heap[k]?
  shaped : Shaped w w'
theorem MarksG.of {lo hi B : Nat} {w u w' : World} (hb : Below B w u) (hB : w.heap.size ≤ B) (h : Marks lo hi u w') : MarksG lo hi w w' :=
  ⟨h.os.trans hb.os, h.tape.trans hb.tape, h.output.trans hb.output, by rw [h.size]; exact hb.size, fun k hk hh => (h.out k hh).trans (hb.block k (Nat.lt_of_lt_of_le hk hB)), (Shaped.of_below (hb.mono hB)).trans h.shaped⟩
theorem MarksG.below {lo hi : Nat} {w w' : World} (h : MarksG lo hi w w') (hl : lo ≤ w.heap.size) : Below lo w w' := ⟨h.os, h.tape, h.output, h.size, fun k hk => h.out k (Nat.lt_of_lt_of_le hk hl) (.inl hk)⟩
theorem MarksG.cell {lo hi : Nat} {w w' : World} (h : MarksG lo hi w w') {a : Addr} {x : Value} (hx : w.cell? a = some x) (ha : a.block < lo ∨ hi ≤ a.block) : w'.cell? a = some x := by
  have := h.out a.block (block_lt_of_cell hx) ha
  unfold World.cell? at *
  rw [this]
  exact hx
theorem MarksG.own {lo hi : Nat} {w w' : World} (h : MarksG lo hi w w') {B : Nat} {e : TypeId} {s : Value} {k n : Nat} {xs : List Value} (ho : w.ownsRow B e k s n xs) (hB : hi ≤ B) : w'.ownsRow B e k s n xs := by
  refine ⟨ho.1, ?_⟩
  rcases ho.2 with h' | ⟨g, cap, cur, e1, hb1, hg, hr⟩
  · exact .inl h'
  · refine .inr ⟨g, cap, cur, e1, hb1, ?_, hr⟩
    rw [h.out g (Array.getElem?_eq_some_iff.1 hg).1 (.inr (Nat.le_trans hB hb1))]
    exact hg
end Go.Proofs.YtalkpddhpmjgcaaGreat
