import Derived.Test.YtalkpddhpmjgcaaGreatCm7
import Derived.Deep.LoopGhost
import Derived.Deep.AppendLies
import Derived.LaidEqlPtr
import Derived.MapKept
namespace Go.Proofs.YtalkpddhpmjgcaaGreat
open Go.ChangeShapes Go.WideShapes Go.ChangeAt Go.RowKit
set_option linter.unusedVariables false
/-- The statements of a list. -/
def itemsT : (n : Nat) → TL n → List (SS (TL (n - 1)))
  | 0, _ => []
  | _ + 1, l => l
theorem items_len (n : Nat) (t : TL n) : (itemsT n t).length = lenT n t := by cases n <;> rfl
theorem items_size (n : Nat) (t : TL n) : sizeT n t = lenT n t + sumT (n - 1) (itemsT n t) (lenT n t) := by
  cases n with
  | zero => rfl
  | succ n => exact sumT_all (Nat.le_refl _)
theorem items_ok (n : Nat) (t : TL n) : allOkT n t ↔ ∀ x ∈ itemsT n t, okS x.k x.a x.b (lenT (n - 1) x.body) (lenT (n - 1) x.els) ∧ allOkT (n - 1) x.body ∧ allOkT (n - 1) x.els := by
  cases n with
  | zero => exact ⟨fun _ x hx => (by cases hx), fun _ => trivial⟩
  | succ n => exact Iff.rfl
theorem RdT.item {w : World} {n : Nat} {s : Value} {t : TL n} (h : RdT w n s t) {i : Nat} {x : SS (TL (n - 1))} (hx : (itemsT n t)[i]? = some x) :
    ∃ g o c ab lb cb ae le ce, s = .slice (some ⟨g, o, none⟩) (lenT n t) c ∧ w.cell? ⟨g, o + i * 5, none⟩ = some (.int .i64 x.k) ∧ w.cell? ⟨g, o + i * 5 + 1, none⟩ = some (.int .i64 x.a) ∧ w.cell? ⟨g, o + i * 5 + 2, none⟩ = some (.int .i64 x.b) ∧ w.cell? ⟨g, o + i * 5 + 3, none⟩ = some (.slice ab lb cb) ∧ w.cell? ⟨g, o + i * 5 + 4, none⟩ = some (.slice ae le ce) ∧ RdT w (n - 1) (.slice ab lb cb) x.body ∧ RdT w (n - 1) (.slice ae le ce) x.els ∧ lb = lenT (n - 1) x.body ∧ le = lenT (n - 1) x.els := by
  cases n with
  | zero => cases hx
  | succ n =>
    obtain ⟨g, o, c, vb, ve, e1, i0, i1, i2, i3, i4, rb, re⟩ := h.elem hx
    obtain ⟨ab, cb, rfl⟩ := rb.is_slice
    obtain ⟨ae, ce, rfl⟩ := re.is_slice
    exact ⟨g, o, c, ab, _, cb, ae, _, ce, e1, i0, i1, i2, i3, i4, rb, re, rfl, rfl⟩
theorem OwnT.item {w : World} {B n : Nat} {s : Value} {t : TL n} (h : OwnT w B n s t) {i : Nat} {x : SS (TL (n - 1))} (hx : (itemsT n t)[i]? = some x) :
    ∃ g c ab lb cb ae le ce, s = .slice (some ⟨g, 0, none⟩) (lenT n t) c ∧ w.cell? ⟨g, i * 5, none⟩ = some (.int .i64 x.k) ∧ w.cell? ⟨g, i * 5 + 1, none⟩ = some (.int .i64 x.a) ∧ w.cell? ⟨g, i * 5 + 2, none⟩ = some (.int .i64 x.b) ∧ w.cell? ⟨g, i * 5 + 3, none⟩ = some (.slice ab lb cb) ∧ w.cell? ⟨g, i * 5 + 4, none⟩ = some (.slice ae le ce) ∧ OwnT w B (n - 1) (.slice ab lb cb) x.body ∧ OwnT w B (n - 1) (.slice ae le ce) x.els ∧ lb = lenT (n - 1) x.body ∧ le = lenT (n - 1) x.els ∧ ∃ cur ty, w.heap[g]? = some (.cells cur ty (0, 0)) := by
  cases n with
  | zero => cases hx
  | succ n =>
    obtain ⟨xs, h1, h2, h3⟩ := h
    have hlt := (List.getElem?_eq_some_iff.1 hx).1
    rcases (Rd.of_own h2).2 with ⟨e, _⟩ | ⟨g, o, c, e, hc⟩
    · exact absurd e (by have : (itemsT (n + 1) t).length = List.length t := rfl; omega)
    · rcases h2.2 with ⟨e', _⟩ | ⟨g', cap, cur, e', _, hg, _⟩
      · rw [e] at e'; cases e'
      rw [e] at e'
      simp only [Value.slice.injEq, Option.some.injEq, Addr.mk.injEq, true_and, and_true] at e'
      obtain ⟨⟨rfl, rfl⟩, rfl⟩ := e'
      have hx' : (List.map Prod.fst xs)[i]? = some x := by rw [h1]; exact hx
      obtain ⟨y, hy, hy1⟩ : ∃ y, xs[i]? = some y ∧ y.1 = x := by
        rw [List.getElem?_map] at hx'
        cases hy : xs[i]? with
        | none => rw [hy] at hx'; cases hx'
        | some y => rw [hy] at hx'; exact ⟨y, rfl, Option.some.inj hx'⟩
      subst hy1
      have hm := h3 y (List.mem_of_getElem? hy)
      obtain ⟨ab, cb, eb⟩ := hm.1.is_slice
      obtain ⟨ae, ce, ee⟩ := hm.2.is_slice
      have j0 := Rd.elem sCells_length hc i y hy 0 _ rfl
      have j1 := Rd.elem sCells_length hc i y hy 1 _ rfl
      have j2 := Rd.elem sCells_length hc i y hy 2 _ rfl
      have j3 := Rd.elem sCells_length hc i y hy 3 _ rfl
      have j4 := Rd.elem sCells_length hc i y hy 4 _ rfl
      rw [Nat.zero_add] at j0 j1 j2 j3 j4
      rw [eb] at j3
      rw [ee] at j4
      exact ⟨g, c, ab, _, cb, ae, _, ce, e, j0, j1, j2, j3, j4, eb ▸ hm.1, ee ▸ hm.2, rfl, rfl, cur, _, hg⟩
theorem item_size {n : Nat} {t : TL n} {i : Nat} {x : SS (TL (n - 1))} (hx : (itemsT n t)[i]? = some x) : 1 + sizeT (n - 1) x.body + sizeT (n - 1) x.els ≤ sizeT n t := by
  cases n with
  | zero => cases hx
  | succ n => exact size_mem (List.mem_of_getElem? hx)
theorem own_short {w : World} {base : Nat} {e : TypeId} {k n m c : Nat} {a : Option Addr} {xs : List Value} (h : w.ownsRow base e k (.slice a n c) n xs) (hm : m ≤ n) : w.ownsRow base e k (.slice a m c) m (xs.take (m * k)) := by
  have hmk : m * k ≤ n * k := Nat.mul_le_mul_right k hm
  refine ⟨by rw [List.length_take, h.1, Nat.min_eq_left hmk], ?_⟩
  rcases h.2 with ⟨e1, e2⟩ | ⟨g, cap, cur, e1, hb, hg, hnc, hcm, hcs, ht⟩
  · subst e2
    have hz : m = 0 := by omega
    subst hz
    exact .inl ⟨e1, rfl⟩
  · simp only [Value.slice.injEq, true_and] at e1
    obtain ⟨rfl, rfl⟩ := e1
    refine .inr ⟨g, c, cur, rfl, hb, hg, by omega, hcm, hcs, ?_⟩
    rw [← ht, List.take_take, Nat.min_eq_left hmk]
theorem own_rowK {w : World} {base : Nat} {e : TypeId} {s : Value} {k n : Nat} {xs : List Value} (h : w.ownsRow base e k s n xs) : (s = .slice none 0 0 ∧ n = 0) ∨ ∃ g c, s = .slice (some ⟨g, 0, none⟩) n c ∧ n ≤ c := by
  rcases h.2 with h | ⟨g, cap, cur, rfl, hb, _, hc, _⟩
  · exact .inl h
  · exact .inr ⟨g, cap, rfl, hc⟩
/-- A list that is still to be gone through. -/
structure Pd where
  n : Nat
  t : TL n
  v : Value
def pCell (p : Pd) : List Value := [p.v]
theorem pCell_length (p : Pd) : (pCell p).length = 1 := rfl
def pSize (ps : List Pd) : Nat := (ps.map fun p => sizeT p.n p.t).sum
def pWork (ps : List Pd) : Nat := (ps.map fun p => 2 * sizeT p.n p.t + 1).sum
def pOk (ps : List Pd) : Prop := ∀ p ∈ ps, allOkT p.n p.t
theorem pSize_add (a b : List Pd) : pSize (a ++ b) = pSize a + pSize b := by simp [pSize]
theorem pWork_add (a b : List Pd) : pWork (a ++ b) = pWork a + pWork b := by simp [pWork]
theorem pOk_add (a b : List Pd) : pOk (a ++ b) ↔ pOk a ∧ pOk b := by
  unfold pOk
  simp only [List.mem_append]
  exact ⟨fun h => ⟨fun p hp => h p (.inl hp), fun p hp => h p (.inr hp)⟩, fun h p hp => hp.elim (h.1 p) (h.2 p)⟩
theorem infoL : (Tryz.prog.info? 33).map (fun i => (i.zero, i.size, i.bytes)) = some (some (.slice none 0 0), 1, 24) := by kernel_rfl
/-- The lists that are still to be gone through: their row, and what they read as. -/
structure Wk (w u : World) (V : Value) (ps : List Pd) : Prop where
  row : u.ownsRow w.heap.size 33 1 V ps.length (ps.flatMap pCell)
  rd : ∀ p ∈ ps, OwnT w 0 p.n p.v p.t
  bel : Below w.heap.size w u
theorem Wk.keep {w u u' : World} {V : Value} {ps : List Pd} (h : Wk w u V ps) (hb : Below u.heap.size u u') : Wk w u' V ps := ⟨own_keep h.row hb (Nat.le_refl _), h.rd, below_on h.bel (Nat.le_refl _) hb⟩
theorem Wk.pop {w u : World} {a : Option Addr} {m c : Nat} {ps : List Pd} {p : Pd} (h : Wk w u (.slice a m c) (ps ++ [p])) (hm : m = ps.length + 1) : Wk w u (.slice a ps.length c) ps := by
  have h1 := h.row
  rw [show (ps ++ [p]).length = m by simp [hm]] at h1
  have h2 := own_short h1 (m := ps.length) (by omega)
  refine ⟨?_, fun q hq => h.rd q (by simp [hq]), h.bel⟩
  have e : ((ps ++ [p]).flatMap pCell).take (ps.length * 1) = ps.flatMap pCell := by
    rw [List.flatMap_append]
    exact List.take_left' (by rw [flat_length pCell 1 pCell_length])
  rw [e] at h2
  exact h2
theorem Wk.last {w u : World} {g m c : Nat} {ps : List Pd} {p : Pd} (h : Wk w u (.slice (some ⟨g, 0, none⟩) m c) (ps ++ [p])) : u.cell? ⟨g, ps.length, none⟩ = some p.v := by
  have h1 := Rd.of_own h.row
  rcases h1.2 with ⟨e, _⟩ | ⟨g', o, c', e, hc⟩
  · simp at e
  · simp only [Value.slice.injEq, Option.some.injEq, Addr.mk.injEq] at e
    obtain ⟨⟨rfl, rfl, _⟩, _⟩ := e
    have := Rd.elem pCell_length hc ps.length p (by simp) 0 _ rfl
    simpa using this
theorem Wk.app {w u u' : World} {V V' : Value} {ps : List Pd} {p q : Pd} (h : Wk w u V ps) (hp : OwnT w 0 p.n p.v p.t) (hq : OwnT w 0 q.n q.v q.t) {y : World} (hy : Below u.heap.size u y) (hown : u'.ownsRow w.heap.size 33 1 V' (ps.length + 2) (ps.flatMap pCell ++ [p.v, q.v])) (hg : y.grownBy u' V.ownBlock) : Wk w u' V' (ps ++ [p, q]) := by
  refine ⟨?_, fun r hr => ?_, (below_on h.bel (Nat.le_refl _) hy).grown hg (Nat.le_trans h.bel.size hy.size) (fun j hj => (h.row.lt j hj).1)⟩
  · have e : (ps ++ [p, q]).flatMap pCell = ps.flatMap pCell ++ [p.v, q.v] := by rw [List.flatMap_append]; rfl
    rw [e, show (ps ++ [p, q]).length = ps.length + 2 by simp]
    exact hown
  · simp only [List.mem_append, List.mem_cons, List.not_mem_nil, or_false] at hr
    rcases hr with hr | rfl | rfl
    · exact h.rd r hr
    · exact hp
    · exact hq
theorem two_new (u : World) (a b : Value) : ∀ j v, [a, b][j]? = some v → (u.alloc (.cells #[a, b] 33)).cell? ((⟨u.heap.size, 0, none⟩ : Addr).add j) = some v := fun j v hj => by
  have hb := Blk.new u #[a, b] 33
  have : (⟨u.heap.size, 0, none⟩ : Addr).add j = ⟨u.heap.size, j, none⟩ := by unfold Addr.add; split <;> simp_all
  rw [this, hb.cell j]
  simpa using hj
theorem last_of {ps : List Pd} (h : ps ≠ []) : ∃ qs q, ps = qs ++ [q] := ⟨ps.dropLast, ps.getLast h, (List.dropLast_concat_getLast h).symm⟩
theorem Wk.first (w : World) (n : Nat) (v : Value) (t : TL n) (h : OwnT w 0 n v t) : Wk w (w.alloc (.cells #[v] 33)) (.slice (some ⟨w.heap.size, 0, none⟩) 1 1) [⟨n, t, v⟩] := by
  refine ⟨?_, fun p hp => by simp only [List.mem_singleton] at hp; subst hp; exact h, below_alloc _ _⟩
  have := World.ownsRow_lit (base := w.heap.size) (e := 33) (size := 1) w #[v] 1 (Nat.le_refl _) (by unfold maxLen; omega) (by simp)
  simpa [pCell] using this
theorem len_le_work (ps : List Pd) : ps.length ≤ pWork ps := by
  induction ps with
  | nil => exact Nat.le_refl _
  | cons p r ih => simp only [pWork, List.map_cons, List.sum_cons, List.length_cons] at ih ⊢; omega
theorem sum_items_le (n : Nat) (t : TL n) (k : Nat) : sumT (n - 1) (itemsT n t) k ≤ sumT (n - 1) (itemsT n t) (lenT n t) := by
  cases n with
  | zero => exact Nat.le_of_eq (by simp [sumT, itemsT])
  | succ n =>
    have h1 := sumT_le (n := n) (l := t) k
    have h2 := items_size (n + 1) t
    have h3 := items_len (n + 1) t
    have h4 : List.length (itemsT (n + 1) t) + sumT (n + 1 - 1) (itemsT (n + 1) t) k ≤ sizeT (n + 1) t := h1
    omega
/-- What the first k statements of a list push. -/
structure Push (w : World) (n : Nat) (t : TL n) (k : Nat) (qs : List Pd) : Prop where
  size : pSize qs = sumT (n - 1) (itemsT n t) k
  work : pWork qs = 2 * sumT (n - 1) (itemsT n t) k + 2 * k
set_option maxHeartbeats 4000000 in
set_option maxRecDepth 100000 in
theorem areFew_any (n : Nat) (v : Value) (t : TL n) (w : World) (h : OwnT w 0 n v t) (hs : sizeT n t ≤ 1048576) : Calls Tryz.prog 78 #[v] w fun e w' => SaysIff e (sizeT n t ≤ 60) ∧ Below w.heap.size w w' := by
  obtain ⟨iL, hi, hz0, hz1, hz2⟩ := info_parts infoL
  have E0 : Hid (Wk w (w.alloc (.cells #[v] 33)) (.slice (some ⟨w.heap.size, 0, none⟩) 1 1) [⟨n, t, v⟩]) := Wk.first w n v t h
  have HS : Hid (sizeT n t ≤ 1048576) := hs
  obtain ⟨a1, c1, rfl⟩ := h.is_slice
  clear h hs
  generalize hlt : lenT n t = ln at E0 ⊢
  clear hlt
  go_enter Tryz.func78, Tryz.ntmps78
  go_wp2_with fail
  go_loopg [3, 4, 5, 7] (2 * sizeT n t + 1) (fun m c ls _ _ wr => ∃ (cnt : Nat) (V : Value) (ps : List Pd), c = .int .i64 (cnt : Int) ∧ ls = V ∧ cnt ≤ 60 ∧ Hid (Wk w wr V ps ∧ cnt + pSize ps = sizeT n t ∧ pWork ps = m ∧ m ≤ 2 * sizeT n t + 1))
  case atStart => exact ⟨0, _, _, rfl, rfl, by omega, E0.out, by simp [pSize], by simp [pWork], Nat.le_refl _⟩
  case round =>
    clear E0
    obtain ⟨cnt, V, ps, rfl, rfl, hc60, HK⟩ := hrel
    by_cases hne : ps = []
    · subst hne
      obtain ⟨a3, c3, e3⟩ := (Rd.of_own HK.out.1.row).is_slice
      simp only [List.length_nil] at e3
      subst e3
      have HZ : Hid (sizeT n t = cnt) := by have := HK.out.2.1; simp [pSize] at this; exact this.symm
      go_wp2_with fail
      go_ret
      exact ⟨.yes (by rw [HZ.out]; exact hc60), HK.out.1.bel⟩
    · obtain ⟨qs, p, rfl⟩ := last_of hne
      clear hne
      obtain ⟨pn, pt, pv⟩ := p
      have hlen : (qs ++ [(⟨pn, pt, pv⟩ : Pd)]).length = qs.length + 1 := by simp
      rcases own_rowK HK.out.1.row with ⟨_, e2⟩ | ⟨g, cap, e, hcap⟩
      · simp at e2
      rw [hlen] at e hcap
      subst e
      have HR : Hid (OwnT w 0 pn pv pt) := HK.out.1.rd ⟨pn, pt, pv⟩ (by simp)
      obtain ⟨a4, c4, e4⟩ := HR.out.is_slice
      subst e4
      have q0 := HK.out.1.last
      simp only [] at q0
      have HP : Hid (Wk w wr (.slice (some ⟨g, 0, none⟩) qs.length cap) qs ∧ cnt + (pSize qs + sizeT pn pt) = sizeT n t ∧ gk = pWork qs + (2 * sizeT pn pt + 1) ∧ gk ≤ 2 * sizeT n t + 1) := by
        refine ⟨HK.out.1.pop rfl, ?_, ?_, HK.out.2.2.2⟩
        · have := HK.out.2.1
          rw [pSize_add] at this
          simpa [pSize] using this
        · have := HK.out.2.2.1
          rw [pWork_add] at this
          simp [pWork] at this ⊢
          omega
      have hls := len_le_size pn pt
      have HSZ : Hid (sizeT pn pt ≤ 1048576) := by show sizeT pn pt ≤ 1048576; have h1 := HP.out.2.1; have h2 := HS.out; omega
      have hlp : lenT pn pt ≤ 1048576 := Nat.le_trans hls HSZ.out
      have hql : qs.length ≤ 1048576 * 3 := by
        have h1 := HP.out.2.2
        have h2 := HS.out
        have h3 := len_le_work qs
        omega
      clear hlen hls HK
      generalize hqq : qs.length = ql at HP hcap hql q0 ⊢
      have HQL : Hid (qs.length = ql) := hqq
      clear hqq
      generalize hlpp : lenT pn pt = lp at hlp HR q0 ⊢
      have HLP : Hid (lenT pn pt = lp) := hlpp
      clear hlpp
      have hcI : (ql : Int) ≤ (cap : Int) := by omega
      by_cases hbig : (60 : Int) < (cnt : Int) + (lp : Int)
      · have HN : Hid (¬ sizeT n t ≤ 60) := fun e => by have h1 := HP.out.2.1; have h2 := len_le_size pn pt; have h3 := HLP.out; omega
        go_wp2_with fail
        go_ret
        exact ⟨.no HN.out, HP.out.1.bel⟩
      · go_wp2_with fail
        clear q0
        go_loopw [4, 7, 32] (fun ls _ i wr => ∃ (k : Nat) (V : Value) (rs : List Pd), k ≤ lp ∧ i = .int .i64 (k : Int) ∧ ls = V ∧ Hid (Wk w wr V (qs ++ rs) ∧ Push w pn pt k rs)) (fun _ _ i _ => lp - (intOf i).toNat)
        case atStart => exact ⟨0, _, [], by omega, rfl, rfl, by simpa [HQL.out] using HP.out.1, ⟨by simp [pSize, sumT], by simp [pWork, sumT]⟩⟩
        case round =>
          obtain ⟨k, V, rs, hk, rfl, rfl, HI⟩ := hrel
          by_cases hklt : k < lp
          · obtain ⟨x, hx⟩ : ∃ x, (itemsT pn pt)[k]? = some x := ⟨_, List.getElem?_eq_getElem (by rw [items_len, HLP.out]; exact hklt)⟩
            obtain ⟨g', c', ab, lb, cb, ae, le, ce, e1, i0, i1, i2, i3, i4, rb, re, hlb, hle, _⟩ := HR.out.item hx
            rw [HLP.out] at e1
            simp only [Value.slice.injEq, true_and] at e1
            obtain ⟨rfl, rfl⟩ := e1
            have hbw := HI.out.1.bel
            rw [← hbw.cell (block_lt_of_cell i0)] at i0
            rw [← hbw.cell (block_lt_of_cell i1)] at i1
            rw [← hbw.cell (block_lt_of_cell i2)] at i2
            rw [← hbw.cell (block_lt_of_cell i3)] at i3
            rw [← hbw.cell (block_lt_of_cell i4)] at i4
            have HX : Hid ((itemsT pn pt)[k]? = some x ∧ OwnT w 0 (pn - 1) (.slice ab lb cb) x.body ∧ OwnT w 0 (pn - 1) (.slice ae le ce) x.els) := ⟨hx, rb, re⟩
            clear rb re hx hlb hle hbw
            obtain ⟨aV, cV, eV⟩ := (Rd.of_own HI.out.1.row).is_slice
            subst eV
            have hrl : (qs ++ rs).length ≤ 1048576 * 3 := by
              have h1 := len_le_work (qs ++ rs)
              have h2 := HP.out.2.2
              have h3 := HS.out
              have h4 := HI.out.2.work
              have h5 := items_size pn pt
              have h6 := HLP.out
              have h7 := sum_items_le pn pt k
              rw [pWork_add] at h1
              omega
            generalize hrr : (qs ++ rs).length = rl at hrl ⊢
            have HRL : Hid ((qs ++ rs).length = rl) := hrr
            clear hrr
            have hE : Hid (Wk w (wr.alloc (.cells #[.int .i64 x.k, .int .i64 x.a, .int .i64 x.b, .slice ab lb cb, .slice ae le ce] 54)) (.slice aV rl cV) (qs ++ rs) ∧ Blk (wr.alloc (.cells #[.int .i64 x.k, .int .i64 x.a, .int .i64 x.b, .slice ab lb cb, .slice ae le ce] 54)) wr.heap.size #[.int .i64 x.k, .int .i64 x.a, .int .i64 x.b, .slice ab lb cb, .slice ae le ce] 54) := ⟨by rw [← HRL.out]; exact HI.out.1.keep (below_alloc _ _), Blk.new _ _ _⟩
            have HPU : Hid (Push w pn pt k rs) := HI.out.2
            go_upto_region 12 with fail
            clear i0 i1 i2 i3 i4 HI
            generalize wr.heap.size = X at hE ⊢
            refine wp_world (fun u => Hid (Wk w u (.slice aV rl cV) (qs ++ rs) ∧ Blk u X #[.int .i64 x.k, .int .i64 x.a, .int .i64 x.b, .slice ab lb cb, .slice ae le ce] 54)) hE ?_
            rintro U E1
            clear hE
            obtain ⟨x0, x1, x2, x3, x4⟩ := blk5 E1.out.2
            have E2 : Hid (Wk w (U.alloc (.cells #[.slice ab lb cb, .slice ae le ce] 33)) (.slice aV rl cV) (qs ++ rs)) := E1.out.1.keep (below_alloc _ _)
            go_wp2_with (at_builtin; refine wpList_append_lies _ rfl _ _ 35 rfl w.heap.size 33 iL (.slice none 0 0) 1 24 Tryz.underlying35 hi hz0 hz1 hz2 rfl (by decide) _ rl ((qs ++ rs).flatMap pCell) rfl (by have := E2.out.row; rw [HRL.out] at this; exact this) ⟨U.heap.size, 0, none⟩ 2 2 [.slice ab lb cb, .slice ae le ce] rfl rfl (two_new U _ _) (fun u hu => by simp at hu; rcases hu with rfl | rfl <;> rfl) (by omega) (by simp [maxLen]; omega) (by omega) E2.out.bel.size _ rfl ?_; intro g5 cap5 w5 hown hgrow hat hlt5; have HU : Hid (Wk w w5 (.slice (some ⟨g5, 0, none⟩) (rl + 2) cap5) ((qs ++ rs) ++ [(⟨pn - 1, x.body, .slice ab lb cb⟩ : Pd), ⟨pn - 1, x.els, .slice ae le ce⟩])) := E1.out.1.app HX.out.2.1 HX.out.2.2 (below_alloc _ _) (by rw [HRL.out]; exact hown) hgrow; clear hown hgrow hat hlt5)
            have HPN : Hid (Push w pn pt (k + 1) (rs ++ [(⟨pn - 1, x.body, .slice ab lb cb⟩ : Pd), ⟨pn - 1, x.els, .slice ae le ce⟩])) := by
              refine ⟨?_, ?_⟩
              · rw [pSize_add, HPU.out.size, sumT_next HX.out.1]
                simp [pSize]
              · rw [pWork_add, HPU.out.work, sumT_next HX.out.1]
                simp [pWork]
                omega
            rw [List.append_assoc] at HU
            clear E1 E2 x0 x1 x2 x3 x4
            go_roundw
            case rel => exact ⟨k + 1, _, _, by omega, by go_num, rfl, HU.out, HPN.out⟩
            case measure => simp [intOf]; omega
          · have hkn : k = lp := by omega
            subst hkn
            have HW : Hid (pWork (qs ++ rs) < gk ∧ (cnt + k) + pSize (qs ++ rs) = sizeT n t ∧ pWork (qs ++ rs) ≤ 2 * sizeT n t + 1) := by
              have h1 := HP.out.2
              have h2 := HI.out.2.work
              have h3 := HI.out.2.size
              have h5 := items_size pn pt
              rw [HLP.out] at h5
              refine ⟨?_, ?_, ?_⟩
              · rw [pWork_add]; omega
              · rw [pSize_add]; omega
              · rw [pWork_add]; omega
            go_wp2_with fail
            go_roundg (pWork (qs ++ rs))
            case measure => exact HW.out.1
            case rel => exact ⟨cnt + k, _, _, by go_num, rfl, by omega, HI.out.1, HW.out.2.1, rfl, HW.out.2.2⟩
end Go.Proofs.YtalkpddhpmjgcaaGreat
namespace Go.Proofs.YtalkpddhpmjgcaaGreat
open Go.ChangeShapes Go.WideShapes Go.ChangeAt Go.RowKit
set_option linter.unusedVariables false
/-- A block of cells that nobody froze. -/
def Plain (w : World) (a : Addr) : Prop := ∃ cur ty, w.heap[a.block]? = some (.cells cur ty (0, 0))
theorem infoSt : ∃ j, Tryz.prog.info? 54 = some j ∧ j.size ≠ 0 := by
  obtain ⟨i0, hi, hz0, hz1, hz2⟩ := info_parts infoS
  exact ⟨i0, hi, by omega⟩
theorem equal_ptr {w : World} {a b : Addr} (ha : Plain w a) (hb : Plain w b) : ∃ r : Bool, (Op.equal 151 (.pointer (some a)) (.pointer (some b))).run Tryz.prog w = .ok r w ∧ (r = true → a = b) := by
  obtain ⟨j, hj, hs⟩ := infoSt
  obtain ⟨ca, ta, ha⟩ := ha
  obtain ⟨cb, tb, hb⟩ := hb
  by_cases e : a = b
  · subst e
    refine ⟨true, ?_, fun _ => rfl⟩
    have h : ∀ d : Nat, (Op.equalIn (d + 1) 151 (.pointer (some a)) (.pointer (some a))).run Tryz.prog w = .ok true w := fun d => by
      simp [Op.equalIn, run_underlying Tryz.underlying151, sizeOf, typeInfo, hj, run_sameAddr_same]
    simp [Op.equal, Op.maxDepth, h 9999]
  · refine ⟨false, ?_, fun e => by cases e⟩
    have h : ∀ d : Nat, (Op.equalIn (d + 1) 151 (.pointer (some a)) (.pointer (some b))).run Tryz.prog w = .ok false w := fun d => by
      simp [Op.equalIn, run_underlying Tryz.underlying151, sizeOf, typeInfo, hj, hs, run_sameAddr_other w e ha hb]
    simp [Op.equal, Op.maxDepth, h 9999]
/-- An entry of the set. -/
def EntOk (w : World) (keys : List Addr) (e : MapEntry) : Prop := ∃ b, b ∈ keys ∧ e.key = .pointer (some b) ∧ Plain w b ∧ e.val = .agg #[]
theorem asking_ptr {w : World} {a : Addr} (ha : Plain w a) {keys : List Addr} (es : List MapEntry) (hes : ∀ e ∈ es, EntOk w keys e) (i : Nat) :
    (Instr.findAsking 151 (.pointer (some a)) es i).run Tryz.prog w = .ok none w ∨ ∃ q, (Instr.findAsking 151 (.pointer (some a)) es i).run Tryz.prog w = .ok (some (i + q, .agg #[])) w ∧ a ∈ keys ∧ ∃ e0, es[q]? = some e0 ∧ e0.key = .pointer (some a) := by
  induction es generalizing i with
  | nil => exact .inl rfl
  | cons e r ih =>
    obtain ⟨b, hb, hk, hp, hv⟩ := hes e (by simp)
    obtain ⟨q, hq, hqe⟩ := equal_ptr ha hp
    cases q with
    | true =>
      refine .inr ⟨0, ?_, hqe rfl ▸ hb, e, rfl, by rw [hk, hqe rfl]⟩
      unfold Instr.findAsking
      rw [hk, hv]
      simp [hq]
    | false =>
      rcases ih (fun e he => hes e (by simp [he])) (i + 1) with h | ⟨m, h, hm, e0, he0, hk0⟩
      · refine .inl ?_
        unfold Instr.findAsking
        rw [hk]
        simp [hq, h]
      · refine .inr ⟨m + 1, ?_, hm, e0, by simpa using he0, hk0⟩
        unfold Instr.findAsking
        rw [hk]
        simp [hq, h]
        omega
theorem findKey_ptr {w : World} {a : Addr} (ha : Plain w a) {keys : List Addr} (es : List MapEntry) (hes : ∀ e ∈ es, EntOk w keys e) :
    (Instr.findKey 151 (.pointer (some a)) es).run Tryz.prog w = .ok none w ∨ ∃ q, (Instr.findKey 151 (.pointer (some a)) es).run Tryz.prog w = .ok (some (q, .agg #[])) w ∧ a ∈ keys ∧ ∃ e0, es[q]? = some e0 ∧ e0.key = .pointer (some a) := by
  unfold Instr.findKey
  cases es with
  | nil => exact .inl (by simp [run_underlying Tryz.underlying151, Instr.findNow])
  | cons e r =>
    obtain ⟨b, hb, hk, hp, hv⟩ := hes e (by simp)
    have hn : Instr.findNow (.pointer 54) (.pointer (some a)) (e :: r) 0 = none := by
      unfold Instr.findNow
      rw [hk]
      rfl
    rcases asking_ptr ha (e :: r) hes 0 with h | ⟨q, h, hm⟩
    case inr => rw [Nat.zero_add] at h; exact .inr ⟨q, by simp [run_underlying Tryz.underlying151, hn, h], hm⟩
    · exact .inl (by simp [run_underlying Tryz.underlying151, hn, h])
theorem check_ptr (em : Bool) (a : Addr) (w : World) : (Instr.checkKey em 10000 151 (.pointer (some a))).run Tryz.prog w = .ok () w := by
  unfold Instr.checkKey
  simp [run_underlying Tryz.underlying151]
/-- The set, in block r. -/
def PM (w : World) (r : Nat) (keys : List Addr) : Prop := ∃ es clock, w.heap[r]? = some (.map es clock) ∧ ∀ e ∈ es.toList, EntOk w keys e
theorem getObj_m {w : World} {r : Nat} {es : Array MapEntry} {clock : Nat} (hr : w.heap[r]? = some (.map es clock)) : (getObj r).run Tryz.prog w = .ok (.map es clock) w := by simp [getObj, Sem.run, hr]
theorem setObj_m {w : World} {r : Nat} {es : Array MapEntry} {clock : Nat} (o : Obj) (hr : w.heap[r]? = some (.map es clock)) : (setObj r o).run Tryz.prog w = .ok () { w with heap := w.heap.setIfInBounds r o } := by simp [setObj, Sem.run, hr]
theorem zero_unit (w : World) : (zeroValue 153).run Tryz.prog w = .ok (.agg #[]) w := by kernel_rfl
theorem PM.look {w : World} {r : Nat} {keys : List Addr} (h : PM w r keys) {a : Addr} (ha : Plain w a) : ∃ ok : Bool, (Instr.lookup 150 (.map (some r)) (.pointer (some a)) true).run Tryz.prog w = .ok (.tuple #[.agg #[], .bool ok]) w ∧ (ok = true → a ∈ keys) := by
  obtain ⟨es, clock, hr, hes⟩ := h
  rcases findKey_ptr ha es.toList hes with hf | ⟨q, hf, hm, _⟩
  · refine ⟨false, ?_, fun e => by cases e⟩
    unfold Instr.lookup
    simp [run_underlying Tryz.underlying150, getObj_m hr, check_ptr, hf]
  · refine ⟨true, ?_, fun _ => hm⟩
    unfold Instr.lookup
    simp [run_underlying Tryz.underlying150, getObj_m hr, check_ptr, hf]
theorem chg_obj (w : World) (r : Nat) (o : Obj) : Chg (fun j => j = r) w { w with heap := w.heap.setIfInBounds r o } := ⟨rfl, rfl, rfl, by simp, fun k hk hn => by
  simp only []
  rw [Array.getElem?_setIfInBounds_ne (fun e => hn e.symm)]⟩
theorem Plain.chg {w w' : World} {r : Nat} (hc : Chg (fun j => j = r) w w') {b : Addr} (h : Plain w b) (hn : b.block ≠ r) : Plain w' b := by
  obtain ⟨cur, ty, h⟩ := h
  exact ⟨cur, ty, by rw [hc.block b.block (Array.getElem?_eq_some_iff.1 h).1 hn]; exact h⟩
theorem sameBits_ptr (a : Addr) : Instr.sameBits 10000 (.pointer (some a)) (.pointer (some a)) = true := by
  unfold Instr.sameBits
  simp
theorem mem_modify {es : Array MapEntry} {i : Nat} {f : MapEntry → MapEntry} {e : MapEntry} (h : e ∈ (es.modify i f).toList) : e ∈ es.toList ∨ ∃ e0 ∈ es.toList, e = f e0 := by
  obtain ⟨j, hj⟩ := List.getElem?_of_mem h
  rw [Array.getElem?_toList, Array.getElem?_modify] at hj
  split at hj
  · cases h0 : es[j]? with
    | none => rw [h0] at hj; cases hj
    | some e0 =>
      rw [h0] at hj
      simp only [Option.map_some, Option.some.injEq] at hj
      exact .inr ⟨e0, by rw [Array.mem_toList_iff]; exact Array.mem_of_getElem? h0, hj.symm⟩
  · exact .inl (by rw [Array.mem_toList_iff]; exact Array.mem_of_getElem? hj)
theorem PM.put {w : World} {r : Nat} {keys : List Addr} (h : PM w r keys) {a : Addr} (ha : Plain w a) (hn : a.block ≠ r) (hk : ∀ b ∈ keys, b.block ≠ r) : ∃ w', (Instr.mapUpdate 150 (.map (some r)) (.pointer (some a)) (.agg #[])).run Tryz.prog w = .ok () w' ∧ PM w' r (a :: keys) ∧ Chg (fun j => j = r) w w' := by
  obtain ⟨es, clock, hr, hes⟩ := h
  have hlt := (Array.getElem?_eq_some_iff.1 hr).1
  have hent : ∀ {o : Obj} {e : MapEntry}, EntOk w keys e → EntOk { w with heap := w.heap.setIfInBounds r o } (a :: keys) e := fun {o e} he => by
    obtain ⟨b, hb, h1, h2, h3⟩ := he
    exact ⟨b, by simp [hb], h1, h2.chg (chg_obj w r o) (hk b hb), h3⟩
  rcases findKey_ptr ha es.toList hes with hf | ⟨q, hf, hm, e0, he0, hk0⟩
  · refine ⟨{ w with heap := w.heap.setIfInBounds r (.map (es.push ⟨.pointer (some a), .agg #[], clock⟩) (clock + 1)) }, ?_, ⟨es.push ⟨.pointer (some a), .agg #[], clock⟩, clock + 1, by simp [hlt], ?_⟩, chg_obj _ _ _⟩
    · unfold Instr.mapUpdate
      simp [run_underlying Tryz.underlying150, getObj_m hr, check_ptr, hf, setObj_m _ hr]
    · intro e he
      simp only [Array.toList_push, List.mem_append, List.mem_singleton] at he
      rcases he with he | rfl
      · exact hent (hes e he)
      · exact ⟨a, by simp, rfl, ha.chg (chg_obj _ _ _) hn, rfl⟩
  · rw [Array.getElem?_toList] at he0
    refine ⟨{ w with heap := w.heap.setIfInBounds r (.map (es.modify q fun e => { e with key := .pointer (some a), val := .agg #[] }) clock) }, ?_, ⟨es.modify q fun e => { e with key := .pointer (some a), val := .agg #[] }, clock, by simp [hlt], ?_⟩, chg_obj _ _ _⟩
    · unfold Instr.mapUpdate
      simp [run_underlying Tryz.underlying150, getObj_m hr, check_ptr, hf, setObj_m _ hr, Instr.keyThatStays, he0, hk0, sameBits_ptr]
    · intro e he
      rcases mem_modify he with he | ⟨e1, he1, rfl⟩
      · exact hent (hes e he)
      · exact ⟨a, by simp, rfl, ha.chg (chg_obj _ _ _) hn, rfl⟩
end Go.Proofs.YtalkpddhpmjgcaaGreat
namespace Go.Proofs.YtalkpddhpmjgcaaGreat
open Go.ChangeShapes Go.WideShapes Go.ChangeAt Go.RowKit
set_option linter.unusedVariables false
/-- Where the statement i of a list lies. -/
def itemAt (v : Value) (i : Nat) : Option Addr :=
  match v with
  | .slice (some a) L _ => if i < L then some ⟨a.block, a.off + i * 5, none⟩ else none
  | _ => none
/-- All statements of a list have been looked at. -/
def DoneV (Vis : List Addr) (v : Value) : Prop := ∀ i a, itemAt v i = some a → a ∈ Vis
/-- What is known of the statements that have been looked at. -/
def Cl (w : World) (Vis : List Addr) (hand : Value → Prop) : Prop := ∀ a ∈ Vis, ∃ k x y ab lb cb ae le ce, w.cell? ⟨a.block, a.off, none⟩ = some (.int .i64 k) ∧ w.cell? ⟨a.block, a.off + 1, none⟩ = some (.int .i64 x) ∧ w.cell? ⟨a.block, a.off + 2, none⟩ = some (.int .i64 y) ∧ w.cell? ⟨a.block, a.off + 3, none⟩ = some (.slice ab lb cb) ∧ w.cell? ⟨a.block, a.off + 4, none⟩ = some (.slice ae le ce) ∧ okS k x y lb le ∧ ((lb = 0 ∧ le = 0) ∨ (hand (.slice ab lb cb) ∧ hand (.slice ae le ce)))
theorem Cl.mono {w : World} {Vis : List Addr} {h1 h2 : Value → Prop} (h : Cl w Vis h1) (hh : ∀ v, h1 v → h2 v) : Cl w Vis h2 := fun a ha => by
  obtain ⟨k, x, y, ab, lb, cb, ae, le, ce, c0, c1, c2, c3, c4, ho, hs⟩ := h a ha
  exact ⟨k, x, y, ab, lb, cb, ae, le, ce, c0, c1, c2, c3, c4, ho, hs.imp_right fun q => ⟨hh _ q.1, hh _ q.2⟩⟩
theorem ok_len0 {n : Nat} {t : TL n} (h : lenT n t = 0) : allOkT n t := by
  rw [items_ok]
  intro x hx
  have := items_len n t
  rw [h] at this
  rw [List.eq_nil_of_length_eq_zero this] at hx
  cases hx
theorem Cl.all {w : World} {Vis : List Addr} (h : Cl w Vis (DoneV Vis)) (n : Nat) : ∀ (v : Value) (t : TL n), OwnT w 0 n v t → DoneV Vis v → allOkT n t := by
  induction n with
  | zero => intro v t _ _; trivial
  | succ n ih =>
    intro v t ho hd
    rw [items_ok]
    intro x hx
    obtain ⟨i, hi⟩ := List.getElem?_of_mem hx
    obtain ⟨g, c, ab, lb, cb, ae, le, ce, e1, i0, i1, i2, i3, i4, rb, re, hlb, hle, _⟩ := ho.item hi
    have hil : i < lenT (n + 1) t := by have := (List.getElem?_eq_some_iff.1 hi).1; rw [items_len] at this; exact this
    have hv : (⟨g, i * 5, none⟩ : Addr) ∈ Vis := hd i _ (by rw [e1]; simp [itemAt, hil])
    obtain ⟨k, x', y, ab', lb', cb', ae', le', ce', c0, c1, c2, c3, c4, hok, hs⟩ := h _ hv
    simp only [] at c0 c1 c2 c3 c4
    rw [i0] at c0
    rw [i1] at c1
    rw [i2] at c2
    rw [i3] at c3
    rw [i4] at c4
    simp only [Option.some.injEq, Value.int.injEq, true_and, Value.slice.injEq] at c0 c1 c2 c3 c4
    subst c0 c1 c2
    obtain ⟨rfl, rfl, rfl⟩ := c3
    obtain ⟨rfl, rfl, rfl⟩ := c4
    refine ⟨by rw [← hlb, ← hle]; exact hok, ?_⟩
    rcases hs with ⟨z1, z2⟩ | ⟨d1, d2⟩
    · exact ⟨ok_len0 (by omega), ok_len0 (by omega)⟩
    · exact ⟨ih _ _ rb d1, ih _ _ re d2⟩
theorem PM.keep {w w' : World} {r : Nat} {keys : List Addr} (h : PM w r keys) (hb : Below w.heap.size w w') : PM w' r keys := by
  obtain ⟨es, clock, hr, hes⟩ := h
  refine ⟨es, clock, by rw [hb.block r (Array.getElem?_eq_some_iff.1 hr).1]; exact hr, fun e he => ?_⟩
  obtain ⟨b, hb1, h1, ⟨cur, ty, h2⟩, h3⟩ := hes e he
  exact ⟨b, hb1, h1, ⟨cur, ty, by rw [hb.block b.block (Array.getElem?_eq_some_iff.1 h2).1]; exact h2⟩, h3⟩
theorem PM.grown {w w' : World} {r : Nat} {keys : List Addr} {row : Option Nat} (h : PM w r keys) (hg : w.grownBy w' row) (hr : some r ≠ row) (hk : ∀ b ∈ keys, some b.block ≠ row) : PM w' r keys := by
  obtain ⟨es, clock, hr', hes⟩ := h
  refine ⟨es, clock, by rw [hg.block r (Array.getElem?_eq_some_iff.1 hr').1 hr]; exact hr', fun e he => ?_⟩
  obtain ⟨b, hb1, h1, ⟨cur, ty, h2⟩, h3⟩ := hes e he
  exact ⟨b, hb1, h1, ⟨cur, ty, by rw [hg.block b.block (Array.getElem?_eq_some_iff.1 h2).1 (hk b hb1)]; exact h2⟩, h3⟩
/-- Where stmtsHold stands: the lists that are pending, what has been looked at; extra is told of what is handled besides. -/
structure HdAt (w u : World) (r : Nat) (keys Vis : List Addr) (V : Value) (ps : List Pd) (v0 : Value) (extra : Value → Prop) : Prop where
  wk : Wk w u V ps
  pm : PM u r keys
  sub : ∀ a ∈ keys, a ∈ Vis
  low : ∀ a ∈ Vis, a.block < w.heap.size
  rge : w.heap.size ≤ r
  cl : Cl w Vis (fun v => DoneV Vis v ∨ (∃ p ∈ ps, p.v = v) ∨ extra v)
  rt : DoneV Vis v0 ∨ (∃ p ∈ ps, p.v = v0) ∨ extra v0
theorem HdAt.keep {w u u' : World} {r : Nat} {keys Vis : List Addr} {V : Value} {ps : List Pd} {v0 : Value} {extra : Value → Prop} (h : HdAt w u r keys Vis V ps v0 extra) (hb : Below u.heap.size u u') : HdAt w u' r keys Vis V ps v0 extra := ⟨h.wk.keep hb, h.pm.keep hb, h.sub, h.low, h.rge, h.cl, h.rt⟩
/-- A list is taken off. -/
theorem HdAt.pop {w u : World} {r : Nat} {keys Vis : List Addr} {a : Option Addr} {m c : Nat} {ps : List Pd} {p : Pd} {v0 : Value} (h : HdAt w u r keys Vis (.slice a m c) (ps ++ [p]) v0 (fun _ => False)) (hm : m = ps.length + 1) : HdAt w u r keys Vis (.slice a ps.length c) ps v0 (fun v => v = p.v) := by
  have hh : ∀ v, (DoneV Vis v ∨ (∃ q ∈ ps ++ [p], q.v = v) ∨ False) → (DoneV Vis v ∨ (∃ q ∈ ps, q.v = v) ∨ v = p.v) := fun v hv => by
    rcases hv with h1 | ⟨q, hq, e⟩ | h3
    · exact .inl h1
    · rcases List.mem_append.1 hq with hq | hq
      · exact .inr (.inl ⟨q, hq, e⟩)
      · simp only [List.mem_singleton] at hq
        subst hq
        exact .inr (.inr e.symm)
    · exact h3.elim
  exact ⟨h.wk.pop hm, h.pm, h.sub, h.low, h.rge, h.cl.mono hh, hh v0 h.rt⟩
theorem DoneV.grow {Vis : List Addr} {v : Value} (h : DoneV Vis v) (a : Addr) : DoneV (a :: Vis) v := fun i b hb => List.mem_cons_of_mem _ (h i b hb)
/-- A statement without lists has been looked at. -/
theorem HdAt.single {w u : World} {r : Nat} {keys Vis : List Addr} {V : Value} {ps : List Pd} {v0 : Value} {extra : Value → Prop} (h : HdAt w u r keys Vis V ps v0 extra) {g o : Nat} {k x y : Int} {ab ae : Option Addr} {lb cb le ce : Nat} (hg : g < w.heap.size) (c0 : w.cell? ⟨g, o, none⟩ = some (.int .i64 k)) (c1 : w.cell? ⟨g, o + 1, none⟩ = some (.int .i64 x)) (c2 : w.cell? ⟨g, o + 2, none⟩ = some (.int .i64 y)) (c3 : w.cell? ⟨g, o + 3, none⟩ = some (.slice ab lb cb)) (c4 : w.cell? ⟨g, o + 4, none⟩ = some (.slice ae le ce)) (hok : okS k x y lb le) (hs : lb = 0 ∧ le = 0) : HdAt w u r keys (⟨g, o, none⟩ :: Vis) V ps v0 extra := by
  refine ⟨h.wk, h.pm, fun a ha => List.mem_cons_of_mem _ (h.sub a ha), fun a ha => ?_, h.rge, fun a ha => ?_, h.rt.imp_left fun q => q.grow _⟩
  · rcases List.mem_cons.1 ha with rfl | ha
    · exact hg
    · exact h.low a ha
  · rcases List.mem_cons.1 ha with rfl | ha
    · exact ⟨k, x, y, ab, lb, cb, ae, le, ce, c0, c1, c2, c3, c4, hok, .inl hs⟩
    · exact (h.cl.mono fun v q => q.imp_left fun q => q.grow _) a ha
theorem HdAt.far {w u : World} {r : Nat} {keys Vis : List Addr} {V : Value} {ps : List Pd} {v0 : Value} {extra : Value → Prop} (h : HdAt w u r keys Vis V ps v0 extra) : some r ≠ V.ownBlock := fun e => by
  obtain ⟨es, clock, hr, _⟩ := h.pm
  rcases h.wk.row.2 with ⟨e1, _⟩ | ⟨g', cap, cur, e1, _, hg', _⟩
  · rw [e1] at e; cases e
  · rw [e1] at e
    simp only [Value.ownBlock, Option.some.injEq] at e
    subst e
    rw [hr] at hg'
    cases hg'
/-- A statement with lists has been looked at, and put into the set. -/
theorem HdAt.upd {w u u' : World} {r : Nat} {keys Vis : List Addr} {V : Value} {ps : List Pd} {v0 : Value} {extra : Value → Prop} (h : HdAt w u r keys Vis V ps v0 extra) {g o : Nat} {k x yy : Int} {ab ae : Option Addr} {lb cb le ce : Nat} (hg : g < w.heap.size) (c0 : w.cell? ⟨g, o, none⟩ = some (.int .i64 k)) (c1 : w.cell? ⟨g, o + 1, none⟩ = some (.int .i64 x)) (c2 : w.cell? ⟨g, o + 2, none⟩ = some (.int .i64 yy)) (c3 : w.cell? ⟨g, o + 3, none⟩ = some (.slice ab lb cb)) (c4 : w.cell? ⟨g, o + 4, none⟩ = some (.slice ae le ce)) (hok : okS k x yy lb le) (hpm : PM u' r (⟨g, o, none⟩ :: keys)) (hc : Chg (fun j => j = r) u u') :
    HdAt w u' r (⟨g, o, none⟩ :: keys) (⟨g, o, none⟩ :: Vis) V ps v0 (fun v => extra v ∨ v = .slice ab lb cb ∨ v = .slice ae le ce) := by
  have hlow : ∀ a ∈ ((⟨g, o, none⟩ : Addr) :: Vis), a.block < w.heap.size := fun a ha => by
    rcases List.mem_cons.1 ha with rfl | ha
    · exact hg
    · exact h.low a ha
  have hh : ∀ v, (DoneV Vis v ∨ (∃ q ∈ ps, q.v = v) ∨ extra v) → (DoneV (⟨g, o, none⟩ :: Vis) v ∨ (∃ q ∈ ps, q.v = v) ∨ (extra v ∨ v = .slice ab lb cb ∨ v = .slice ae le ce)) := fun v hv => by
    rcases hv with h1 | h2 | h3
    · exact .inl (h1.grow _)
    · exact .inr (.inl h2)
    · exact .inr (.inr (.inl h3))
  refine ⟨⟨?_, h.wk.rd, h.wk.bel.trans (hc.below h.wk.bel.size (fun j hj e => by have := h.rge; omega))⟩, hpm, fun a ha => ?_, hlow, h.rge, fun a ha => ?_, hh v0 h.rt⟩
  · refine ⟨h.wk.row.1, ?_⟩
    rcases h.wk.row.2 with h2 | ⟨g', cap, cur, e1, hb1, hg', hr⟩
    · exact .inl h2
    · refine .inr ⟨g', cap, cur, e1, hb1, ?_, hr⟩
      rw [hc.block g' (Array.getElem?_eq_some_iff.1 hg').1 (fun e => h.far (by rw [e1, ← e]; rfl))]
      exact hg'
  · rcases List.mem_cons.1 ha with rfl | ha
    · exact List.mem_cons_self
    · exact List.mem_cons_of_mem _ (h.sub a ha)
  · rcases List.mem_cons.1 ha with rfl | ha
    · exact ⟨k, x, yy, ab, lb, cb, ae, le, ce, c0, c1, c2, c3, c4, hok, .inr ⟨.inr (.inr (.inr (.inl rfl))), .inr (.inr (.inr (.inr rfl)))⟩⟩
    · exact (h.cl.mono hh) a ha
/-- Its lists come. -/
theorem HdAt.push {w u u' y : World} {r : Nat} {keys Vis : List Addr} {V V' : Value} {ps : List Pd} {v0 : Value} {extra : Value → Prop} {ab ae : Option Addr} {lb cb le ce : Nat} (h : HdAt w u r keys Vis V ps v0 (fun v => extra v ∨ v = .slice ab lb cb ∨ v = .slice ae le ce)) 
    {m m' : Nat} {t : TL m} {t' : TL m'} (ob : OwnT w 0 m (.slice ab lb cb) t) (oe : OwnT w 0 m' (.slice ae le ce) t') (hy : Below u.heap.size u y) (hown : u'.ownsRow w.heap.size 33 1 V' (ps.length + 2) (ps.flatMap pCell ++ [.slice ab lb cb, .slice ae le ce])) (hgr : y.grownBy u' V.ownBlock) :
    HdAt w u' r keys Vis V' (ps ++ [(⟨m, t, .slice ab lb cb⟩ : Pd), ⟨m', t', .slice ae le ce⟩]) v0 extra := by
  have hw := h.wk.app (p := ⟨m, t, .slice ab lb cb⟩) (q := ⟨m', t', .slice ae le ce⟩) ob oe hy hown hgr
  have hh : ∀ v, (DoneV Vis v ∨ (∃ q ∈ ps, q.v = v) ∨ (extra v ∨ v = .slice ab lb cb ∨ v = .slice ae le ce)) → (DoneV Vis v ∨ (∃ q ∈ ps ++ [(⟨m, t, .slice ab lb cb⟩ : Pd), ⟨m', t', .slice ae le ce⟩], q.v = v) ∨ extra v) := fun v hv => by
    rcases hv with h1 | ⟨q, hq, e⟩ | h3 | h3 | h3
    · exact .inl h1
    · exact .inr (.inl ⟨q, List.mem_append_left _ hq, e⟩)
    · exact .inr (.inr h3)
    · exact .inr (.inl ⟨⟨m, t, .slice ab lb cb⟩, by simp, h3.symm⟩)
    · exact .inr (.inl ⟨⟨m', t', .slice ae le ce⟩, by simp, h3.symm⟩)
  refine ⟨hw, (h.pm.keep hy).grown hgr h.far (fun b hb e => ?_), h.sub, h.low, h.rge, h.cl.mono hh, hh v0 h.rt⟩
  have h1 := h.low b (h.sub b hb)
  have h2 := (h.wk.row.lt b.block e.symm).1
  omega
/-- The list that was taken off has been gone through. -/
theorem HdAt.done {w u : World} {r : Nat} {keys Vis : List Addr} {V : Value} {ps : List Pd} {v0 pv : Value} (h : HdAt w u r keys Vis V ps v0 (fun v => v = pv)) (hd : DoneV Vis pv) : HdAt w u r keys Vis V ps v0 (fun _ => False) := by
  have hh : ∀ v, (DoneV Vis v ∨ (∃ q ∈ ps, q.v = v) ∨ v = pv) → (DoneV Vis v ∨ (∃ q ∈ ps, q.v = v) ∨ False) := fun v hv => by
    rcases hv with h1 | h2 | h3
    · exact .inl h1
    · exact .inr (.inl h2)
    · exact .inl (h3 ▸ hd)
  exact ⟨h.wk, h.pm, h.sub, h.low, h.rge, h.cl.mono hh, hh v0 h.rt⟩
/-- The first k statements of a list have been looked at. -/
def DoneTo (Vis : List Addr) (v : Value) (k : Nat) : Prop := ∀ i a, i < k → itemAt v i = some a → a ∈ Vis
theorem DoneTo.next {Vis : List Addr} {g L c k : Nat} (h : DoneTo Vis (.slice (some ⟨g, 0, none⟩) L c) k) {Vis' : List Addr} (hs : ∀ a ∈ Vis, a ∈ Vis') (hk : (⟨g, k * 5, none⟩ : Addr) ∈ Vis') : DoneTo Vis' (.slice (some ⟨g, 0, none⟩) L c) (k + 1) := fun i a hi ha => by
  by_cases e : i = k
  · subst e
    simp only [itemAt] at ha
    split at ha
    · simp only [Nat.zero_add, Option.some.injEq] at ha
      subst ha
      exact hk
    · cases ha
  · exact hs a (h i a (by omega) ha)
theorem DoneTo.all {Vis : List Addr} {a : Option Addr} {L c : Nat} (h : DoneTo Vis (.slice a L c) L) : DoneV Vis (.slice a L c) := fun i b hb => by
  refine h i b ?_ hb
  cases a with
  | none => cases hb
  | some ad =>
    simp only [itemAt] at hb
    split at hb
    · assumption
    · cases hb
end Go.Proofs.YtalkpddhpmjgcaaGreat
