/- KTo2: toStmtS. -/
import Derived.Test.YtjlnglgfehefdaaKTo
namespace Go.Proofs.Ytjlnglgfehefdaa
open Go.ChangeShapes Go.WideShapes Go.ChangeAt Go.RowKit
set_option linter.unusedVariables false
/-- Copied up to the elements ys, zeros behind. -/
def newTo {α : Type} (f : α → List Value) (z : List Value) (ys : List α) (n : Nat) : List Value := ys.flatMap f ++ (List.replicate (n - ys.length) z).flatten
theorem newTo_zero {α : Type} (f : α → List Value) (z : List Value) (n : Nat) (v : Value) (m : Nat) (hv : v.cells = z.toArray) (hm : z.length = m) (h0 : 0 < m) : (madeCells v.cells (n * m)).toList = newTo f z [] n := by
  rw [flatTo_zero f z [] n v m hv hm h0]
  simp [flatTo, newTo]
theorem newTo_parts {α : Type} (f : α → List Value) (z : List Value) (ys : List α) (k n : Nat) (hk : k < n) (hl : ys.length = k) : newTo f z ys n = ys.flatMap f ++ (z ++ (List.replicate (n - (k + 1)) z).flatten) := by
  unfold newTo
  have e : n - ys.length = (n - (k + 1)) + 1 := by omega
  rw [e, List.replicate_succ, List.flatten_cons]
theorem newTo_next {α : Type} (f : α → List Value) (z : List Value) (ys : List α) (k n : Nat) (y : α) (hl : ys.length = k) : newTo f z (ys ++ [y]) n = ys.flatMap f ++ (f y ++ (List.replicate (n - (k + 1)) z).flatten) := by
  unfold newTo
  rw [List.flatMap_append, List.append_assoc]
  simp [hl]
theorem newTo_all {α : Type} (f : α → List Value) (z : List Value) (ys : List α) (n : Nat) (h : ys.length = n) : newTo f z ys n = ys.flatMap f := by simp [newTo, ← h]
theorem own_lt {w : World} {base : Nat} {e : TypeId} {g k n c : Nat} {xs : List Value} (h : w.ownsRow base e k (.slice (some ⟨g, 0, none⟩) n c) n xs) : g + 1 ≤ w.heap.size := by
  rcases h.2 with ⟨h', _⟩ | ⟨g', cap', cur, h', _, hg, _⟩
  · cases h'
  · cases h'
    exact (Array.getElem?_eq_some_iff.1 hg).1
theorem set5 (A R : List Value) (z0 z1 z2 z3 z4 c0 c1 c2 c3 c4 : Value) (i : Nat) (h : A.length = i) : (((((A ++ ([z0, z1, z2, z3, z4] ++ R)).set i c0).set (i + 1) c1).set (i + 2) c2).set (i + 3) c3).set (i + 4) c4 = A ++ ([c0, c1, c2, c3, c4] ++ R) := by
  subst h
  simp [List.set_append_right]
theorem fst_next {α β : Type} {fs : List α} {ys : List (α × β)} {k : Nat} (h : ys.map Prod.fst = fs.take k) {f : α} (hf : fs[k]? = some f) (v : β) : (ys ++ [(f, v)]).map Prod.fst = fs.take (k + 1) := by
  obtain ⟨hlt, rfl⟩ := List.getElem?_eq_some_iff.1 hf
  rw [List.map_append, h, List.take_succ_eq_append_getElem hlt]
  rfl
def zS : List Value := [.int .i64 0, .int .i64 0, .int .i64 0, .slice none 0 0, .slice none 0 0]
/-- Where the copying stands. -/
structure TSt (w wr : World) (n : Nat) (l : List (SS (TL n))) (L k : Nat) (ys : List (SS (TL n) × Value × Value)) : Prop where
  fst : ys.map Prod.fst = l.take k
  len : ys.length = k
  row : wr.ownsRow w.heap.size 35 5 (.slice (some ⟨w.heap.size, 0, none⟩) L L) L (newTo sCells zS ys L)
  els : ∀ y, List.Mem y ys → OwnT wr (w.heap.size + 1) n y.2.1 y.1.body ∧ OwnT wr (w.heap.size + 1) n y.2.2 y.1.els
  bel : Below w.heap.size w wr
  siz : w.heap.size + 1 ≤ wr.heap.size
theorem TSt.places {w wr : World} {n : Nat} {l : List (SS (TL n))} {L k : Nat} {ys : List (SS (TL n) × Value × Value)} (h : TSt w wr n l L k ys) (hk : k < L) {u : World} (hb : Below wr.heap.size wr u) :
    u.cell? ⟨w.heap.size, k * 5, none⟩ = some (.int .i64 0) ∧ u.cell? ⟨w.heap.size, k * 5 + 1, none⟩ = some (.int .i64 0) ∧ u.cell? ⟨w.heap.size, k * 5 + 2, none⟩ = some (.int .i64 0) ∧ u.cell? ⟨w.heap.size, k * 5 + 3, none⟩ = some (.slice none 0 0) ∧ u.cell? ⟨w.heap.size, k * 5 + 4, none⟩ = some (.slice none 0 0) ∧ u.frozen? ⟨w.heap.size, k * 5, none⟩ = false ∧ u.frozen? ⟨w.heap.size, k * 5 + 1, none⟩ = false ∧ u.frozen? ⟨w.heap.size, k * 5 + 2, none⟩ = false ∧ u.frozen? ⟨w.heap.size, k * 5 + 3, none⟩ = false ∧ u.frozen? ⟨w.heap.size, k * 5 + 4, none⟩ = false := by
  have hown := own_keep h.row hb (Nat.le_refl _)
  rw [newTo_parts sCells _ ys k L hk h.len] at hown
  have hA : (ys.flatMap sCells).length = k * 5 := by rw [flat_length sCells 5 sCells_length, h.len]
  have d0 := hown.cellAt (k * 5) (by omega)
  have d1 := hown.cellAt (k * 5 + 1) (by omega)
  have d2 := hown.cellAt (k * 5 + 2) (by omega)
  have d3 := hown.cellAt (k * 5 + 3) (by omega)
  have d4 := hown.cellAt (k * 5 + 4) (by omega)
  rw [List.getElem?_append_right (by omega), hA] at d0 d1 d2 d3 d4
  rw [Nat.sub_self] at d0
  rw [Nat.add_sub_cancel_left] at d1 d2 d3 d4
  exact ⟨d0, d1, d2, d3, d4, hown.frozenAt _, hown.frozenAt _, hown.frozenAt _, hown.frozenAt _, hown.frozenAt _⟩
theorem TSt.next {w wr : World} {n : Nat} {l : List (SS (TL n))} {L k : Nat} {ys : List (SS (TL n) × Value × Value)} (h : TSt w wr n l L k ys) (hk : k < L) {u : World} (hb : Below wr.heap.size wr u) {x : SS (TL n)} (hx : l[k]? = some x) {vb ve : Value} (ob : OwnT u wr.heap.size n vb x.body) (oe : OwnT u wr.heap.size n ve x.els) :
    TSt w (((((u.setCell ⟨w.heap.size, k * 5, none⟩ (.int .i64 x.k)).setCell ⟨w.heap.size, k * 5 + 1, none⟩ (.int .i64 x.a)).setCell ⟨w.heap.size, k * 5 + 2, none⟩ (.int .i64 x.b)).setCell ⟨w.heap.size, k * 5 + 3, none⟩ vb).setCell ⟨w.heap.size, k * 5 + 4, none⟩ ve) n l L (k + 1) (ys ++ [(x, vb, ve)]) := by
  have hown := own_keep h.row hb (Nat.le_refl _)
  rw [newTo_parts sCells _ ys k L hk h.len] at hown
  have hA : (ys.flatMap sCells).length = k * 5 := by rw [flat_length sCells 5 sCells_length, h.len]
  have s0 := (hown.stored (k * 5) (.int .i64 x.k)).1
  have s1 := (s0.stored (k * 5 + 1) (.int .i64 x.a)).1
  have s2 := (s1.stored (k * 5 + 2) (.int .i64 x.b)).1
  have s3 := (s2.stored (k * 5 + 3) vb).1
  have s4 := (s3.stored (k * 5 + 4) ve).1
  unfold zS at s4
  rw [set5 _ _ _ _ _ _ _ _ _ _ _ _ (k * 5) hA] at s4
  refine ⟨fst_next h.fst hx (vb, ve), by simp [h.len], ?_, ?_, ?_, ?_⟩
  · rw [newTo_next sCells _ ys k L (x, vb, ve) h.len]
    exact s4
  · intro y hy
    have hy' : OwnT u (w.heap.size + 1) n y.2.1 y.1.body ∧ OwnT u (w.heap.size + 1) n y.2.2 y.1.els := by
      rcases List.mem_append.1 hy with hy | hy
      · exact ⟨(h.els y hy).1.keep hb (Nat.le_refl _), (h.els y hy).2.keep hb (Nat.le_refl _)⟩
      · simp only [List.mem_singleton] at hy
        subst hy
        exact ⟨ob.base h.siz, oe.base h.siz⟩
    exact ⟨((((hy'.1.below (by simp) _).below (by simp) _).below (by simp) _).below (by simp) _).below (by simp) _, ((((hy'.2.below (by simp) _).below (by simp) _).below (by simp) _).below (by simp) _).below (by simp) _⟩
  · exact (((((h.bel.trans (hb.mono (by have := h.siz; omega))).setCell (Nat.le_refl _) _).setCell (Nat.le_refl _) _).setCell (Nat.le_refl _) _).setCell (Nat.le_refl _) _).setCell (Nat.le_refl _) _
  · have := hb.size
    have := h.siz
    simp
    omega
set_option maxHeartbeats 2000000 in
set_option maxRecDepth 100000 in
theorem toStmtS_none (a : Option Addr) (c : Nat) (w : World) : Calls Try.prog 6 #[.slice a 0 c] w fun e w' => ∃ v', e = .returned v' ∧ w'.ownsRow w.heap.size 35 5 v' 0 [] ∧ Below w.heap.size w w' := by
  obtain ⟨i0, hi, hz0, hz1, hz2⟩ := info_parts infoS
  go_enter Try.func6, Try.ntmps6
  go_wp2_with (at_make; refine wpList_make_full _ rfl _ _ 25 rfl w.heap.size 35 i0 (.agg #[.int .i64 0, .int .i64 0, .int .i64 0, .slice none 0 0, .slice none 0 0]) 5 Try.underlying25 hi hz0 hz1 .i64 .i64 _ _ 0 rfl rfl rfl rfl (by rw [hz2]; omega) (by unfold maxLen; omega) (Nat.le_refl _) ?_; intro w1 hown hgrow)
  have HO : Hid (w1.ownsRow w.heap.size 35 5 (.slice (some ⟨w.heap.size, 0, none⟩) 0 0) 0 [] ∧ Below w.heap.size w w1) := ⟨by
    rw [newTo_zero (sCells (α := Unit)) zS 0 (.agg #[.int .i64 0, .int .i64 0, .int .i64 0, .slice none 0 0, .slice none 0 0]) 5 rfl rfl (by omega)] at hown
    exact hown, (Below.refl _ _).grown hgrow (Nat.le_refl _) (fun k hk => by cases hk)⟩
  clear hown hgrow
  go_loopw [4] (fun i wr => i = .int .i64 0 ∧ wr = w1) (fun _ _ => 0)
  case atStart => exact ⟨rfl, rfl⟩
  case round =>
    obtain ⟨rfl, rfl⟩ := hrel
    go_wp2_with fail
    go_ret
    exact ⟨_, rfl, HO.out.1, HO.out.2⟩
set_option maxHeartbeats 4000000 in
set_option maxRecDepth 100000 in
theorem toStmtS_succ (n : Nat) (ih : ToIs n) (v : Value) (l : List (SS (TL n))) (w : World) (h : RdT w (n + 1) v l) (hsz : sizeT (n + 1) l ≤ 1048576) : Calls Try.prog 6 #[v] w fun e w' => ∃ v', e = .returned v' ∧ OwnT w' w.heap.size (n + 1) v' l ∧ Below w.heap.size w w' := by
  obtain ⟨i0, hi, hz0, hz1, hz2⟩ := info_parts infoS
  have HI : Hid (ToIs n) := ih
  obtain ⟨a1, c1, e1⟩ : ∃ a c, v = .slice a l.length c := h.is_slice
  subst e1
  have H : Hid (RdT w (n + 1) (.slice a1 l.length c1) l ∧ sizeT (n + 1) l ≤ 1048576) := ⟨h, hsz⟩
  have hL : l.length ≤ 1048576 := by have := len_le_size (n + 1) l; have e : lenT (n + 1) l = l.length := rfl; omega
  clear h ih hsz
  generalize hLL : l.length = L at H hL ⊢
  have HL : Hid (l.length = L) := hLL
  clear hLL
  go_enter Try.func6, Try.ntmps6
  go_wp2_with (at_make; refine wpList_make_full _ rfl _ _ 25 rfl w.heap.size 35 i0 (.agg #[.int .i64 0, .int .i64 0, .int .i64 0, .slice none 0 0, .slice none 0 0]) 5 Try.underlying25 hi hz0 hz1 .i64 .i64 _ _ L rfl rfl rfl rfl (by rw [hz2]; omega) (by unfold maxLen; omega) (Nat.le_refl _) ?_; intro w1 hown hgrow)
  rw [newTo_zero (sCells (α := TL n)) zS L (.agg #[.int .i64 0, .int .i64 0, .int .i64 0, .slice none 0 0, .slice none 0 0]) 5 rfl rfl (by omega)] at hown
  have hB : Below w.heap.size w w1 := (Below.refl _ _).grown hgrow (Nat.le_refl _) (fun k hk => by cases hk)
  have HST : Hid (TSt w w1 n l L 0 []) := ⟨by simp, rfl, hown, (fun y hy => by cases hy), hB, own_lt hown⟩
  clear hgrow hown hB
  go_loopw [4] (fun i wr => ∃ k : Nat, k ≤ L ∧ i = .int .i64 k ∧ ∃ ys, Hid (TSt w wr n l L k ys)) (fun i _ => L - (intOf i).toNat)
  case atStart => exact ⟨0, by omega, rfl, _, HST⟩
  case round =>
    clear HST
    obtain ⟨k, hk, rfl, ys, HST⟩ := hrel
    by_cases hlt : k < L
    · obtain ⟨x, hx⟩ : ∃ x, l[k]? = some x := ⟨_, List.getElem?_eq_getElem (by rw [HL.out]; exact hlt)⟩
      obtain ⟨g, o, c, vb, ve, e1, i0, i1, i2, i3, i4, rb, re⟩ := (H.out.1.keep HST.out.bel (Nat.le_refl _)).elem hx
      rw [HL.out] at e1
      simp only [Value.slice.injEq, true_and] at e1
      obtain ⟨rfl, rfl⟩ := e1
      have HX : Hid (l[k]? = some x ∧ RdT wr n vb x.body ∧ RdT wr n ve x.els ∧ 1 + sizeT n x.body + sizeT n x.els ≤ 1048576) := ⟨hx, rb, re, Nat.le_trans (size_mem (List.mem_of_getElem? hx)) H.out.2⟩
      obtain ⟨ab, cb, rfl⟩ := rb.is_slice
      obtain ⟨ae, ce, rfl⟩ := re.is_slice
      clear rb re hx
      go_wp2_with fail
      refine (toStmt_any n HI.out x _ _ wr HX.out.2.1 HX.out.2.2.1 (by have := HX.out.2.2.2; omega) (by have := HX.out.2.2.2; omega)).mono ?_
      rintro e u ⟨vb', ve', rfl, ob, oe, hbu⟩
      obtain ⟨a3, c3, e3⟩ := ob.is_slice
      obtain ⟨a4, c4, e4⟩ := oe.is_slice
      subst e3 e4
      obtain ⟨q0, q1, q2, q3, q4, f0, f1, f2, f3, f4⟩ := HST.out.places hlt hbu
      have HN : Hid _ := HST.out.next hlt hbu HX.out.1 ob oe
      clear ob oe hbu i0 i1 i2 i3 i4 HST HX
      go_wp2
      go_roundw
      case rel => exact ⟨k + 1, by omega, by go_num, _, HN⟩
      case measure => simp [intOf]; omega
    · have hkn : k = L := by omega
      subst hkn
      go_wp2
      go_ret
      refine ⟨_, rfl, ⟨ys, ?_, ?_, fun y hy => ⟨(HST.out.els y hy).1.base (by omega), (HST.out.els y hy).2.base (by omega)⟩⟩, HST.out.bel⟩
      · have := HST.out.fst
        rw [← HL.out, List.take_length] at this
        exact this
      · have hrow := HST.out.row
        rw [newTo_all _ _ _ _ HST.out.len] at hrow
        show World.ownsRow _ _ _ _ _ (List.length l) _
        rw [HL.out]
        exact hrow
theorem toStmtS_any (n : Nat) : ToIs n := by
  induction n with
  | zero =>
    intro v t w h hs
    obtain ⟨a, c, rfl⟩ := h
    exact toStmtS_none a c w
  | succ n ih => exact fun v t w h hs => toStmtS_succ n ih v t w h hs
end Go.Proofs.Ytjlnglgfehefdaa
