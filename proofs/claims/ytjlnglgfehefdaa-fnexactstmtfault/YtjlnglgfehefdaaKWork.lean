/- KWork: lists that are still to be gone through; impl.areFew. -/
import Derived.Test.YtjlnglgfehefdaaKImpl1
import Derived.Deep.LoopGhost
import Derived.Deep.AppendLies
namespace Go.Proofs.Ytjlnglgfehefdaa
open Go.ChangeShapes Go.WideShapes Go.ChangeAt Go.RowKit
set_option linter.unusedVariables false
/-- The statements of a list. -/
def itemsT : (n : Nat) → TL n → List (SS (TL (n - 1)))
  | 0, _ => []
  | _ + 1, l => l
theorem items_len (n : Nat) (t : TL n) : (itemsT n t).length = lenT n t := by cases n <;> rfl
theorem items_size (n : Nat) (t : TL n) : sizeT n t = lenT n t + sumT (n - 1) (itemsT n t) (lenT n t) := by
  cases n with
  | zero => rfl
  | succ n => exact sumT_all (Nat.le_refl _)
theorem items_ok (n : Nat) (t : TL n) : allOkT n t ↔ ∀ x ∈ itemsT n t, okS x.k x.a x.b (lenT (n - 1) x.body) (lenT (n - 1) x.els) ∧ allOkT (n - 1) x.body ∧ allOkT (n - 1) x.els := by
  cases n with
  | zero => exact ⟨fun _ x hx => (by cases hx), fun _ => trivial⟩
  | succ n => exact Iff.rfl
theorem RdT.item {w : World} {n : Nat} {s : Value} {t : TL n} (h : RdT w n s t) {i : Nat} {x : SS (TL (n - 1))} (hx : (itemsT n t)[i]? = some x) :
    ∃ g o c ab lb cb ae le ce, s = .slice (some ⟨g, o, none⟩) (lenT n t) c ∧ w.cell? ⟨g, o + i * 5, none⟩ = some (.int .i64 x.k) ∧ w.cell? ⟨g, o + i * 5 + 1, none⟩ = some (.int .i64 x.a) ∧ w.cell? ⟨g, o + i * 5 + 2, none⟩ = some (.int .i64 x.b) ∧ w.cell? ⟨g, o + i * 5 + 3, none⟩ = some (.slice ab lb cb) ∧ w.cell? ⟨g, o + i * 5 + 4, none⟩ = some (.slice ae le ce) ∧ RdT w (n - 1) (.slice ab lb cb) x.body ∧ RdT w (n - 1) (.slice ae le ce) x.els ∧ lb = lenT (n - 1) x.body ∧ le = lenT (n - 1) x.els := by
  cases n with
  | zero => cases hx
  | succ n =>
    obtain ⟨g, o, c, vb, ve, e1, i0, i1, i2, i3, i4, rb, re⟩ := h.elem hx
    obtain ⟨ab, cb, rfl⟩ := rb.is_slice
    obtain ⟨ae, ce, rfl⟩ := re.is_slice
    exact ⟨g, o, c, ab, _, cb, ae, _, ce, e1, i0, i1, i2, i3, i4, rb, re, rfl, rfl⟩
theorem OwnT.item {w : World} {B n : Nat} {s : Value} {t : TL n} (h : OwnT w B n s t) {i : Nat} {x : SS (TL (n - 1))} (hx : (itemsT n t)[i]? = some x) :
    ∃ g c ab lb cb ae le ce, s = .slice (some ⟨g, 0, none⟩) (lenT n t) c ∧ w.cell? ⟨g, i * 5, none⟩ = some (.int .i64 x.k) ∧ w.cell? ⟨g, i * 5 + 1, none⟩ = some (.int .i64 x.a) ∧ w.cell? ⟨g, i * 5 + 2, none⟩ = some (.int .i64 x.b) ∧ w.cell? ⟨g, i * 5 + 3, none⟩ = some (.slice ab lb cb) ∧ w.cell? ⟨g, i * 5 + 4, none⟩ = some (.slice ae le ce) ∧ OwnT w B (n - 1) (.slice ab lb cb) x.body ∧ OwnT w B (n - 1) (.slice ae le ce) x.els ∧ lb = lenT (n - 1) x.body ∧ le = lenT (n - 1) x.els ∧ ∃ cur ty, w.heap[g]? = some (.cells cur ty (0, 0)) := by
  cases n with
  | zero => cases hx
  | succ n =>
    obtain ⟨xs, h1, h2, h3⟩ := h
    have hlt := (List.getElem?_eq_some_iff.1 hx).1
    rcases (Rd.of_own h2).2 with ⟨e, _⟩ | ⟨g, o, c, e, hc⟩
    · exact absurd e (by have : (itemsT (n + 1) t).length = List.length t := rfl; omega)
    · rcases h2.2 with ⟨e', _⟩ | ⟨g', cap, cur, e', _, hg, _⟩
      · rw [e] at e'; cases e'
      rw [e] at e'
      simp only [Value.slice.injEq, Option.some.injEq, Addr.mk.injEq, true_and, and_true] at e'
      obtain ⟨⟨rfl, rfl⟩, rfl⟩ := e'
      have hx' : (List.map Prod.fst xs)[i]? = some x := by rw [h1]; exact hx
      obtain ⟨y, hy, hy1⟩ : ∃ y, xs[i]? = some y ∧ y.1 = x := by
        rw [List.getElem?_map] at hx'
        cases hy : xs[i]? with
        | none => rw [hy] at hx'; cases hx'
        | some y => rw [hy] at hx'; exact ⟨y, rfl, Option.some.inj hx'⟩
      subst hy1
      have hm := h3 y (List.mem_of_getElem? hy)
      obtain ⟨ab, cb, eb⟩ := hm.1.is_slice
      obtain ⟨ae, ce, ee⟩ := hm.2.is_slice
      have j0 := Rd.elem sCells_length hc i y hy 0 _ rfl
      have j1 := Rd.elem sCells_length hc i y hy 1 _ rfl
      have j2 := Rd.elem sCells_length hc i y hy 2 _ rfl
      have j3 := Rd.elem sCells_length hc i y hy 3 _ rfl
      have j4 := Rd.elem sCells_length hc i y hy 4 _ rfl
      rw [Nat.zero_add] at j0 j1 j2 j3 j4
      rw [eb] at j3
      rw [ee] at j4
      exact ⟨g, c, ab, _, cb, ae, _, ce, e, j0, j1, j2, j3, j4, eb ▸ hm.1, ee ▸ hm.2, rfl, rfl, cur, _, hg⟩
theorem item_size {n : Nat} {t : TL n} {i : Nat} {x : SS (TL (n - 1))} (hx : (itemsT n t)[i]? = some x) : 1 + sizeT (n - 1) x.body + sizeT (n - 1) x.els ≤ sizeT n t := by
  cases n with
  | zero => cases hx
  | succ n => exact size_mem (List.mem_of_getElem? hx)
theorem own_short {w : World} {base : Nat} {e : TypeId} {k n m c : Nat} {a : Option Addr} {xs : List Value} (h : w.ownsRow base e k (.slice a n c) n xs) (hm : m ≤ n) : w.ownsRow base e k (.slice a m c) m (xs.take (m * k)) := by
  have hmk : m * k ≤ n * k := Nat.mul_le_mul_right k hm
  refine ⟨by rw [List.length_take, h.1, Nat.min_eq_left hmk], ?_⟩
  rcases h.2 with ⟨e1, e2⟩ | ⟨g, cap, cur, e1, hb, hg, hnc, hcm, hcs, ht⟩
  · subst e2
    have hz : m = 0 := by omega
    subst hz
    exact .inl ⟨e1, rfl⟩
  · simp only [Value.slice.injEq, true_and] at e1
    obtain ⟨rfl, rfl⟩ := e1
    refine .inr ⟨g, c, cur, rfl, hb, hg, by omega, hcm, hcs, ?_⟩
    rw [← ht, List.take_take, Nat.min_eq_left hmk]
theorem own_row {w : World} {base : Nat} {e : TypeId} {s : Value} {k n : Nat} {xs : List Value} (h : w.ownsRow base e k s n xs) : (s = .slice none 0 0 ∧ n = 0) ∨ ∃ g c, s = .slice (some ⟨g, 0, none⟩) n c ∧ n ≤ c := by
  rcases h.2 with h | ⟨g, cap, cur, rfl, hb, _, hc, _⟩
  · exact .inl h
  · exact .inr ⟨g, cap, rfl, hc⟩
/-- A list that is still to be gone through. -/
structure Pd where
  n : Nat
  t : TL n
  v : Value
def pCell (p : Pd) : List Value := [p.v]
theorem pCell_length (p : Pd) : (pCell p).length = 1 := rfl
def pSize (ps : List Pd) : Nat := (ps.map fun p => sizeT p.n p.t).sum
def pWork (ps : List Pd) : Nat := (ps.map fun p => 2 * sizeT p.n p.t + 1).sum
def pOk (ps : List Pd) : Prop := ∀ p ∈ ps, allOkT p.n p.t
theorem pSize_add (a b : List Pd) : pSize (a ++ b) = pSize a + pSize b := by simp [pSize]
theorem pWork_add (a b : List Pd) : pWork (a ++ b) = pWork a + pWork b := by simp [pWork]
theorem pOk_add (a b : List Pd) : pOk (a ++ b) ↔ pOk a ∧ pOk b := by
  unfold pOk
  simp only [List.mem_append]
  exact ⟨fun h => ⟨fun p hp => h p (.inl hp), fun p hp => h p (.inr hp)⟩, fun h p hp => hp.elim (h.1 p) (h.2 p)⟩
theorem infoL : (Try.prog.info? 25).map (fun i => (i.zero, i.size, i.bytes)) = some (some (.slice none 0 0), 1, 24) := by kernel_rfl
/-- The lists that are still to be gone through: their row, and what they read as. -/
structure Wk (w u : World) (V : Value) (ps : List Pd) : Prop where
  row : u.ownsRow w.heap.size 25 1 V ps.length (ps.flatMap pCell)
  rd : ∀ p ∈ ps, OwnT w 0 p.n p.v p.t
  bel : Below w.heap.size w u
theorem Wk.keep {w u u' : World} {V : Value} {ps : List Pd} (h : Wk w u V ps) (hb : Below u.heap.size u u') : Wk w u' V ps := ⟨own_keep h.row hb (Nat.le_refl _), h.rd, below_on h.bel (Nat.le_refl _) hb⟩
theorem Wk.pop {w u : World} {a : Option Addr} {m c : Nat} {ps : List Pd} {p : Pd} (h : Wk w u (.slice a m c) (ps ++ [p])) (hm : m = ps.length + 1) : Wk w u (.slice a ps.length c) ps := by
  have h1 := h.row
  rw [show (ps ++ [p]).length = m by simp [hm]] at h1
  have h2 := own_short h1 (m := ps.length) (by omega)
  refine ⟨?_, fun q hq => h.rd q (by simp [hq]), h.bel⟩
  have e : ((ps ++ [p]).flatMap pCell).take (ps.length * 1) = ps.flatMap pCell := by
    rw [List.flatMap_append]
    exact List.take_left' (by rw [flat_length pCell 1 pCell_length])
  rw [e] at h2
  exact h2
theorem Wk.last {w u : World} {g m c : Nat} {ps : List Pd} {p : Pd} (h : Wk w u (.slice (some ⟨g, 0, none⟩) m c) (ps ++ [p])) : u.cell? ⟨g, ps.length, none⟩ = some p.v := by
  have h1 := Rd.of_own h.row
  rcases h1.2 with ⟨e, _⟩ | ⟨g', o, c', e, hc⟩
  · simp at e
  · simp only [Value.slice.injEq, Option.some.injEq, Addr.mk.injEq] at e
    obtain ⟨⟨rfl, rfl, _⟩, _⟩ := e
    have := Rd.elem pCell_length hc ps.length p (by simp) 0 _ rfl
    simpa using this
theorem Wk.app {w u u' : World} {V V' : Value} {ps : List Pd} {p q : Pd} (h : Wk w u V ps) (hp : OwnT w 0 p.n p.v p.t) (hq : OwnT w 0 q.n q.v q.t) {y : World} (hy : Below u.heap.size u y) (hown : u'.ownsRow w.heap.size 25 1 V' (ps.length + 2) (ps.flatMap pCell ++ [p.v, q.v])) (hg : y.grownBy u' V.ownBlock) : Wk w u' V' (ps ++ [p, q]) := by
  refine ⟨?_, fun r hr => ?_, (below_on h.bel (Nat.le_refl _) hy).grown hg (Nat.le_trans h.bel.size hy.size) (fun j hj => (h.row.lt j hj).1)⟩
  · have e : (ps ++ [p, q]).flatMap pCell = ps.flatMap pCell ++ [p.v, q.v] := by rw [List.flatMap_append]; rfl
    rw [e, show (ps ++ [p, q]).length = ps.length + 2 by simp]
    exact hown
  · simp only [List.mem_append, List.mem_cons, List.not_mem_nil, or_false] at hr
    rcases hr with hr | rfl | rfl
    · exact h.rd r hr
    · exact hp
    · exact hq
theorem two_new (u : World) (a b : Value) : ∀ j v, [a, b][j]? = some v → (u.alloc (.cells #[a, b] 25)).cell? ((⟨u.heap.size, 0, none⟩ : Addr).add j) = some v := fun j v hj => by
  have hb := Blk.new u #[a, b] 25
  have : (⟨u.heap.size, 0, none⟩ : Addr).add j = ⟨u.heap.size, j, none⟩ := by unfold Addr.add; split <;> simp_all
  rw [this, hb.cell j]
  simpa using hj
theorem last_of {ps : List Pd} (h : ps ≠ []) : ∃ qs q, ps = qs ++ [q] := ⟨ps.dropLast, ps.getLast h, (List.dropLast_concat_getLast h).symm⟩
theorem Wk.first (w : World) (n : Nat) (v : Value) (t : TL n) (h : OwnT w 0 n v t) : Wk w (w.alloc (.cells #[v] 25)) (.slice (some ⟨w.heap.size, 0, none⟩) 1 1) [⟨n, t, v⟩] := by
  refine ⟨?_, fun p hp => by simp only [List.mem_singleton] at hp; subst hp; exact h, below_alloc _ _⟩
  have := World.ownsRow_lit (base := w.heap.size) (e := 25) (size := 1) w #[v] 1 (Nat.le_refl _) (by unfold maxLen; omega) (by simp)
  simpa [pCell] using this
theorem len_le_work (ps : List Pd) : ps.length ≤ pWork ps := by
  induction ps with
  | nil => exact Nat.le_refl _
  | cons p r ih => simp only [pWork, List.map_cons, List.sum_cons, List.length_cons] at ih ⊢; omega
theorem sum_items_le (n : Nat) (t : TL n) (k : Nat) : sumT (n - 1) (itemsT n t) k ≤ sumT (n - 1) (itemsT n t) (lenT n t) := by
  cases n with
  | zero => exact Nat.le_of_eq (by simp [sumT, itemsT])
  | succ n =>
    have h1 := sumT_le (n := n) (l := t) k
    have h2 := items_size (n + 1) t
    have h3 := items_len (n + 1) t
    have h4 : List.length (itemsT (n + 1) t) + sumT (n + 1 - 1) (itemsT (n + 1) t) k ≤ sizeT (n + 1) t := h1
    omega
/-- What the first k statements of a list push. -/
structure Push (w : World) (n : Nat) (t : TL n) (k : Nat) (qs : List Pd) : Prop where
  size : pSize qs = sumT (n - 1) (itemsT n t) k
  work : pWork qs = 2 * sumT (n - 1) (itemsT n t) k + 2 * k
set_option maxHeartbeats 4000000 in
set_option maxRecDepth 100000 in
theorem areFew_any (n : Nat) (v : Value) (t : TL n) (w : World) (h : OwnT w 0 n v t) (hs : sizeT n t ≤ 1048576) : Calls Try.prog 16 #[v] w fun e w' => SaysIff e (sizeT n t ≤ 60) ∧ Below w.heap.size w w' := by
  obtain ⟨iL, hi, hz0, hz1, hz2⟩ := info_parts infoL
  have E0 : Hid (Wk w (w.alloc (.cells #[v] 25)) (.slice (some ⟨w.heap.size, 0, none⟩) 1 1) [⟨n, t, v⟩]) := Wk.first w n v t h
  have HS : Hid (sizeT n t ≤ 1048576) := hs
  obtain ⟨a1, c1, rfl⟩ := h.is_slice
  clear h hs
  generalize hlt : lenT n t = ln at E0 ⊢
  clear hlt
  go_enter Try.func16, Try.ntmps16
  go_wp2_with fail
  go_loopg [3, 4, 5, 7] (2 * sizeT n t + 1) (fun m c ls _ _ wr => ∃ (cnt : Nat) (V : Value) (ps : List Pd), c = .int .i64 (cnt : Int) ∧ ls = V ∧ cnt ≤ 60 ∧ Hid (Wk w wr V ps ∧ cnt + pSize ps = sizeT n t ∧ pWork ps = m ∧ m ≤ 2 * sizeT n t + 1))
  case atStart => exact ⟨0, _, _, rfl, rfl, by omega, E0.out, by simp [pSize], by simp [pWork], Nat.le_refl _⟩
  case round =>
    clear E0
    obtain ⟨cnt, V, ps, rfl, rfl, hc60, HK⟩ := hrel
    by_cases hne : ps = []
    · subst hne
      obtain ⟨a3, c3, e3⟩ := (Rd.of_own HK.out.1.row).is_slice
      simp only [List.length_nil] at e3
      subst e3
      have HZ : Hid (sizeT n t = cnt) := by have := HK.out.2.1; simp [pSize] at this; exact this.symm
      go_wp2_with fail
      go_ret
      exact ⟨.yes (by rw [HZ.out]; exact hc60), HK.out.1.bel⟩
    · obtain ⟨qs, p, rfl⟩ := last_of hne
      clear hne
      obtain ⟨pn, pt, pv⟩ := p
      have hlen : (qs ++ [(⟨pn, pt, pv⟩ : Pd)]).length = qs.length + 1 := by simp
      rcases own_row HK.out.1.row with ⟨_, e2⟩ | ⟨g, cap, e, hcap⟩
      · simp at e2
      rw [hlen] at e hcap
      subst e
      have HR : Hid (OwnT w 0 pn pv pt) := HK.out.1.rd ⟨pn, pt, pv⟩ (by simp)
      obtain ⟨a4, c4, e4⟩ := HR.out.is_slice
      subst e4
      have q0 := HK.out.1.last
      simp only [] at q0
      have HP : Hid (Wk w wr (.slice (some ⟨g, 0, none⟩) qs.length cap) qs ∧ cnt + (pSize qs + sizeT pn pt) = sizeT n t ∧ gk = pWork qs + (2 * sizeT pn pt + 1) ∧ gk ≤ 2 * sizeT n t + 1) := by
        refine ⟨HK.out.1.pop rfl, ?_, ?_, HK.out.2.2.2⟩
        · have := HK.out.2.1
          rw [pSize_add] at this
          simpa [pSize] using this
        · have := HK.out.2.2.1
          rw [pWork_add] at this
          simp [pWork] at this ⊢
          omega
      have hls := len_le_size pn pt
      have HSZ : Hid (sizeT pn pt ≤ 1048576) := by show sizeT pn pt ≤ 1048576; have h1 := HP.out.2.1; have h2 := HS.out; omega
      have hlp : lenT pn pt ≤ 1048576 := Nat.le_trans hls HSZ.out
      have hql : qs.length ≤ 1048576 * 3 := by
        have h1 := HP.out.2.2
        have h2 := HS.out
        have h3 := len_le_work qs
        omega
      clear hlen hls HK
      generalize hqq : qs.length = ql at HP hcap hql q0 ⊢
      have HQL : Hid (qs.length = ql) := hqq
      clear hqq
      generalize hlpp : lenT pn pt = lp at hlp HR q0 ⊢
      have HLP : Hid (lenT pn pt = lp) := hlpp
      clear hlpp
      have hcI : (ql : Int) ≤ (cap : Int) := by omega
      by_cases hbig : (60 : Int) < (cnt : Int) + (lp : Int)
      · have HN : Hid (¬ sizeT n t ≤ 60) := fun e => by have h1 := HP.out.2.1; have h2 := len_le_size pn pt; have h3 := HLP.out; omega
        go_wp2_with fail
        go_ret
        exact ⟨.no HN.out, HP.out.1.bel⟩
      · go_wp2_with fail
        clear q0
        go_loopw [4, 7, 32] (fun ls _ i wr => ∃ (k : Nat) (V : Value) (rs : List Pd), k ≤ lp ∧ i = .int .i64 (k : Int) ∧ ls = V ∧ Hid (Wk w wr V (qs ++ rs) ∧ Push w pn pt k rs)) (fun _ _ i _ => lp - (intOf i).toNat)
        case atStart => exact ⟨0, _, [], by omega, rfl, rfl, by simpa [HQL.out] using HP.out.1, ⟨by simp [pSize, sumT], by simp [pWork, sumT]⟩⟩
        case round =>
          obtain ⟨k, V, rs, hk, rfl, rfl, HI⟩ := hrel
          by_cases hklt : k < lp
          · obtain ⟨x, hx⟩ : ∃ x, (itemsT pn pt)[k]? = some x := ⟨_, List.getElem?_eq_getElem (by rw [items_len, HLP.out]; exact hklt)⟩
            obtain ⟨g', c', ab, lb, cb, ae, le, ce, e1, i0, i1, i2, i3, i4, rb, re, hlb, hle, _⟩ := HR.out.item hx
            rw [HLP.out] at e1
            simp only [Value.slice.injEq, true_and] at e1
            obtain ⟨rfl, rfl⟩ := e1
            have hbw := HI.out.1.bel
            rw [← hbw.cell (block_lt_of_cell i0)] at i0
            rw [← hbw.cell (block_lt_of_cell i1)] at i1
            rw [← hbw.cell (block_lt_of_cell i2)] at i2
            rw [← hbw.cell (block_lt_of_cell i3)] at i3
            rw [← hbw.cell (block_lt_of_cell i4)] at i4
            have HX : Hid ((itemsT pn pt)[k]? = some x ∧ OwnT w 0 (pn - 1) (.slice ab lb cb) x.body ∧ OwnT w 0 (pn - 1) (.slice ae le ce) x.els) := ⟨hx, rb, re⟩
            clear rb re hx hlb hle hbw
            obtain ⟨aV, cV, eV⟩ := (Rd.of_own HI.out.1.row).is_slice
            subst eV
            have hrl : (qs ++ rs).length ≤ 1048576 * 3 := by
              have h1 := len_le_work (qs ++ rs)
              have h2 := HP.out.2.2
              have h3 := HS.out
              have h4 := HI.out.2.work
              have h5 := items_size pn pt
              have h6 := HLP.out
              have h7 := sum_items_le pn pt k
              rw [pWork_add] at h1
              omega
            generalize hrr : (qs ++ rs).length = rl at hrl ⊢
            have HRL : Hid ((qs ++ rs).length = rl) := hrr
            clear hrr
            have hE : Hid (Wk w (wr.alloc (.cells #[.int .i64 x.k, .int .i64 x.a, .int .i64 x.b, .slice ab lb cb, .slice ae le ce] 35)) (.slice aV rl cV) (qs ++ rs) ∧ Blk (wr.alloc (.cells #[.int .i64 x.k, .int .i64 x.a, .int .i64 x.b, .slice ab lb cb, .slice ae le ce] 35)) wr.heap.size #[.int .i64 x.k, .int .i64 x.a, .int .i64 x.b, .slice ab lb cb, .slice ae le ce] 35) := ⟨by rw [← HRL.out]; exact HI.out.1.keep (below_alloc _ _), Blk.new _ _ _⟩
            have HPU : Hid (Push w pn pt k rs) := HI.out.2
            go_upto_region 12 with fail
            clear i0 i1 i2 i3 i4 HI
            generalize wr.heap.size = X at hE ⊢
            refine wp_world (fun u => Hid (Wk w u (.slice aV rl cV) (qs ++ rs) ∧ Blk u X #[.int .i64 x.k, .int .i64 x.a, .int .i64 x.b, .slice ab lb cb, .slice ae le ce] 35)) hE ?_
            rintro U E1
            clear hE
            obtain ⟨x0, x1, x2, x3, x4⟩ := blk5 E1.out.2
            have E2 : Hid (Wk w (U.alloc (.cells #[.slice ab lb cb, .slice ae le ce] 25)) (.slice aV rl cV) (qs ++ rs)) := E1.out.1.keep (below_alloc _ _)
            go_wp2_with (at_builtin; refine wpList_append_lies _ rfl _ _ 45 rfl w.heap.size 25 iL (.slice none 0 0) 1 24 Try.underlying45 hi hz0 hz1 hz2 rfl (by decide) _ rl ((qs ++ rs).flatMap pCell) rfl (by have := E2.out.row; rw [HRL.out] at this; exact this) ⟨U.heap.size, 0, none⟩ 2 2 [.slice ab lb cb, .slice ae le ce] rfl rfl (two_new U _ _) (fun u hu => by simp at hu; rcases hu with rfl | rfl <;> rfl) (by omega) (by simp [maxLen]; omega) (by omega) E2.out.bel.size _ rfl ?_; intro g5 cap5 w5 hown hgrow hat hlt5; have HU : Hid (Wk w w5 (.slice (some ⟨g5, 0, none⟩) (rl + 2) cap5) ((qs ++ rs) ++ [(⟨pn - 1, x.body, .slice ab lb cb⟩ : Pd), ⟨pn - 1, x.els, .slice ae le ce⟩])) := E1.out.1.app HX.out.2.1 HX.out.2.2 (below_alloc _ _) (by rw [HRL.out]; exact hown) hgrow; clear hown hgrow hat hlt5)
            have HPN : Hid (Push w pn pt (k + 1) (rs ++ [(⟨pn - 1, x.body, .slice ab lb cb⟩ : Pd), ⟨pn - 1, x.els, .slice ae le ce⟩])) := by
              refine ⟨?_, ?_⟩
              · rw [pSize_add, HPU.out.size, sumT_next HX.out.1]
                simp [pSize]
              · rw [pWork_add, HPU.out.work, sumT_next HX.out.1]
                simp [pWork]
                omega
            rw [List.append_assoc] at HU
            clear E1 E2 x0 x1 x2 x3 x4
            go_roundw
            case rel => exact ⟨k + 1, _, _, by omega, by go_num, rfl, HU.out, HPN.out⟩
            case measure => simp [intOf]; omega
          · have hkn : k = lp := by omega
            subst hkn
            have HW : Hid (pWork (qs ++ rs) < gk ∧ (cnt + k) + pSize (qs ++ rs) = sizeT n t ∧ pWork (qs ++ rs) ≤ 2 * sizeT n t + 1) := by
              have h1 := HP.out.2
              have h2 := HI.out.2.work
              have h3 := HI.out.2.size
              have h5 := items_size pn pt
              rw [HLP.out] at h5
              refine ⟨?_, ?_, ?_⟩
              · rw [pWork_add]; omega
              · rw [pSize_add]; omega
              · rw [pWork_add]; omega
            go_wp2_with fail
            go_roundg (pWork (qs ++ rs))
            case measure => exact HW.out.1
            case rel => exact ⟨cnt + k, _, _, by go_num, rfl, by omega, HI.out.1, HW.out.2.1, rfl, HW.out.2.2⟩
end Go.Proofs.Ytjlnglgfehefdaa
