import Derived.Test.YtalkpddhpmjgcaaGreatCm0
import Derived.Test.YtalkpddhpmjgcaaGreatCm3
import Derived.OneCell
namespace Go.Proofs.YtalkpddhpmjgcaaGreat
open Go.ChangeShapes Go.WideShapes Go.ChangeAt Go.RowKit
set_option linter.unusedVariables false
/-- What szStmtS is asked for. -/
def SzIs (n : Nat) : Prop := ∀ (v : Value) (t : TL n) (left : Int) (w : World), RdT w n v t → fitT n t → 0 ≤ left → left ≤ 1048576 → Calls Tryz.prog 4 #[v, .int .i64 left] w fun e w' => e = .returned (.int .i64 (szK left (sizeT n t))) ∧ Below w.heap.size w w'
set_option maxHeartbeats 2000000 in
theorem szStmt_any (n : Nat) (hS : SzIs n) (x : SS (TL n)) (vb ve : Value) (left : Int) (w : World) (hb : RdT w n vb x.body) (he : RdT w n ve x.els) (fb : fitT n x.body) (fe : fitT n x.els) (h0 : 0 ≤ left) (h1 : left ≤ 1048576) :
    Calls Tryz.prog 17 #[.agg #[.int .i64 x.k, .int .i64 x.a, .int .i64 x.b, vb, ve], .int .i64 left] w fun e w' => e = .returned (.int .i64 (szK left (sizeT n x.body + sizeT n x.els))) ∧ Below w.heap.size w w' := by
  have HS : Hid (SzIs n) := hS
  obtain ⟨a1, c1, rfl⟩ := hb.is_slice
  obtain ⟨a2, c2, rfl⟩ := he.is_slice
  have H : Hid (RdT w n (.slice a1 (lenT n x.body) c1) x.body ∧ RdT w n (.slice a2 (lenT n x.els) c2) x.els ∧ fitT n x.body ∧ fitT n x.els) := ⟨hb, he, fb, fe⟩
  clear hb he fb fe hS
  have E0 : Hid (Blk (w.alloc (.cells #[.int .i64 x.k, .int .i64 x.a, .int .i64 x.b, .slice a1 (lenT n x.body) c1, .slice a2 (lenT n x.els) c2] 46)) w.heap.size #[.int .i64 x.k, .int .i64 x.a, .int .i64 x.b, .slice a1 (lenT n x.body) c1, .slice a2 (lenT n x.els) c2] 46 ∧ Below w.heap.size w (w.alloc (.cells #[.int .i64 x.k, .int .i64 x.a, .int .i64 x.b, .slice a1 (lenT n x.body) c1, .slice a2 (lenT n x.els) c2] 46))) := ⟨Blk.new _ _ _, below_alloc _ _⟩
  go_enter Tryz.func17, Tryz.ntmps17
  go_upto_region 1 with fail
  refine wp_world (fun u => Hid (Blk u w.heap.size #[.int .i64 x.k, .int .i64 x.a, .int .i64 x.b, .slice a1 (lenT n x.body) c1, .slice a2 (lenT n x.els) c2] 46 ∧ Below w.heap.size w u)) E0 ?_
  rintro U E1
  clear E0
  have p3 := E1.out.1.cell 3
  simp only [List.getElem?_toArray, List.getElem?_cons_zero, List.getElem?_cons_succ] at p3
  go_wp2_with fail
  refine (HS.out _ x.body left U (H.out.1.keep E1.out.2 (Nat.le_refl _)) H.out.2.2.1 h0 h1).mono ?_
  rintro e u1 ⟨rfl, b1⟩
  have E2 : Hid (Blk u1 w.heap.size #[.int .i64 x.k, .int .i64 x.a, .int .i64 x.b, .slice a1 (lenT n x.body) c1, .slice a2 (lenT n x.els) c2] 46 ∧ Below w.heap.size w u1) := ⟨E1.out.1.keep b1, below_on E1.out.2 (Nat.le_refl _) b1⟩
  clear b1 E1 p3
  by_cases hn : left < (sizeT n x.body : Int)
  · have HR : Hid (szK left (sizeT n x.body + sizeT n x.els) = -1) := szK_neg (by omega)
    rw [szK_neg hn]
    clear hn
    go_wp2_with fail
    go_ret
    exact ⟨(by rw [HR.out]; rfl), E2.out.2⟩
  rw [szK_pos (show (sizeT n x.body : Int) ≤ left by omega)]
  have hn0 : ¬ (left - (sizeT n x.body : Int)) < 0 := by omega
  have p4 := E2.out.1.cell 4
  simp only [List.getElem?_toArray, List.getElem?_cons_zero, List.getElem?_cons_succ] at p4
  go_wp2_with fail
  refine (HS.out _ x.els (left - (sizeT n x.body : Int)) u1 (H.out.2.1.keep E2.out.2 (Nat.le_refl _)) H.out.2.2.2 (by omega) (by omega)).mono ?_
  rintro e u2 ⟨rfl, b2⟩
  have E3 : Hid (Below w.heap.size w u2) := below_on E2.out.2 (Nat.le_refl _) b2
  clear b2 E2 p4
  by_cases hm : left - (sizeT n x.body : Int) < (sizeT n x.els : Int)
  · have HR : Hid (szK left (sizeT n x.body + sizeT n x.els) = -1) := szK_neg (by omega)
    rw [szK_neg hm]
    clear hm
    go_wp2_with fail
    go_ret
    exact ⟨(by rw [HR.out]; rfl), E3.out⟩
  have HR : Hid (szK left (sizeT n x.body + sizeT n x.els) = left - (sizeT n x.body : Int) - (sizeT n x.els : Int)) := by show szK left (sizeT n x.body + sizeT n x.els) = left - (sizeT n x.body : Int) - (sizeT n x.els : Int); rw [szK_pos (by omega)]; omega
  rw [szK_pos (show (sizeT n x.els : Int) ≤ left - (sizeT n x.body : Int) by omega)]
  have hm0 : ¬ (left - (sizeT n x.body : Int) - (sizeT n x.els : Int)) < 0 := by omega
  go_wp2_with fail
  go_ret
  exact ⟨(by rw [HR.out]; rfl), E3.out⟩
theorem fit_len {n : Nat} {t : TL n} (h : fitT n t) : lenT n t ≤ 9223372036854775807 := by
  cases n with
  | zero => exact Nat.zero_le _
  | succ n => exact h.1
theorem size_len0 {n : Nat} {t : TL n} (h : lenT n t = 0) : sizeT n t = 0 := by
  cases n with
  | zero => rfl
  | succ n =>
    have : t = ([] : List (SS (TL n))) := List.eq_nil_of_length_eq_zero h
    subst this
    rfl
set_option maxHeartbeats 2000000 in
set_option maxRecDepth 100000 in
theorem szStmtS_none (n : Nat) (a : Option Addr) (c : Nat) (left : Int) (w : World) (h0 : 0 ≤ left) (h1 : left ≤ 1048576) : Calls Tryz.prog 4 #[.slice a 0 c, .int .i64 left] w fun e w' => e = .returned (.int .i64 left) ∧ Below w.heap.size w w' := by
  have hn : ¬ left < 0 := by omega
  go_enter Tryz.func4, Tryz.ntmps4
  go_wp2_with fail
  go_loopw [1, 5] (fun l i wr => l = .int .i64 left ∧ i = .int .i64 0 ∧ wr = w) (fun _ _ _ => 0)
  case atStart => exact ⟨rfl, rfl, rfl⟩
  case round =>
    obtain ⟨rfl, rfl, rfl⟩ := hrel
    go_wp2_with fail
    go_ret
    exact ⟨rfl, Below.refl _ _⟩
set_option maxHeartbeats 2000000 in
set_option maxRecDepth 100000 in
theorem szStmtS_succ (n : Nat) (ih : SzIs n) (v : Value) (l : List (SS (TL n))) (left : Int) (w : World) (h : RdT w (n + 1) v l) (hf : fitT (n + 1) l) (h0 : 0 ≤ left) (h1 : left ≤ 1048576) : Calls Tryz.prog 4 #[v, .int .i64 left] w fun e w' => e = .returned (.int .i64 (szK left (sizeT (n + 1) l))) ∧ Below w.heap.size w w' := by
  have HI : Hid (SzIs n) := ih
  obtain ⟨a1, c1, e1⟩ : ∃ a c, v = .slice a l.length c := h.is_slice
  subst e1
  have hfl : l.length ≤ 9223372036854775807 := hf.1
  have H : Hid (RdT w (n + 1) (.slice a1 l.length c1) l ∧ ∀ s : SS (TL n), List.Mem s l → fitT n s.body ∧ fitT n s.els) := ⟨h, hf.2⟩
  clear h hf ih
  by_cases hn : left < (l.length : Int)
  · have HR : Hid (szK left (sizeT (n + 1) l) = -1) := szK_neg (by have := len_le_size (n + 1) l; have e : lenT (n + 1) l = l.length := rfl; omega)
    have hneg : left - (l.length : Int) < 0 := by omega
    go_enter Tryz.func4, Tryz.ntmps4
    go_wp2_with fail
    go_ret
    exact ⟨(by rw [HR.out]; rfl), Below.refl _ _⟩
  · have hnn : ¬ left - (l.length : Int) < 0 := by omega
    go_enter Tryz.func4, Tryz.ntmps4
    go_wp2_with fail
    go_loopw [1, 5] (fun lf i wr => ∃ k : Nat, k ≤ l.length ∧ i = .int .i64 k ∧ lf = .int .i64 (left - (l.length : Int) - (sumT n l k : Int)) ∧ 0 ≤ left - (l.length : Int) - (sumT n l k : Int) ∧ Hid (Below w.heap.size w wr)) (fun _ i _ => l.length - (intOf i).toNat)
    case atStart => exact ⟨0, by omega, rfl, by rw [sumT_zero]; simp, by rw [sumT_zero]; omega, Below.refl _ _⟩
    case round =>
      obtain ⟨k, hk, rfl, rfl, hge, HB⟩ := hrel
      by_cases hlt : k < l.length
      · obtain ⟨x, hx⟩ : ∃ x, l[k]? = some x := ⟨_, List.getElem?_eq_getElem hlt⟩
        obtain ⟨g, o, c, vb, ve, e1, i0, i1, i2, i3, i4, rb, re⟩ := (H.out.1.keep HB.out (Nat.le_refl _)).elem hx
        simp only [Value.slice.injEq, true_and] at e1
        obtain ⟨rfl, rfl⟩ := e1
        have HX : Hid (l[k]? = some x ∧ RdT wr n vb x.body ∧ RdT wr n ve x.els ∧ fitT n x.body ∧ fitT n x.els) := ⟨hx, rb, re, H.out.2 x (List.mem_of_getElem? hx)⟩
        obtain ⟨ab, cb, rfl⟩ := rb.is_slice
        obtain ⟨ae, ce, rfl⟩ := re.is_slice
        clear rb re hx
        go_wp2_with fail
        refine (szStmt_any n HI.out x _ _ _ wr HX.out.2.1 HX.out.2.2.1 HX.out.2.2.2.1 HX.out.2.2.2.2 hge (by omega)).mono ?_
        rintro e u ⟨rfl, hbu⟩
        have HB2 : Hid (Below w.heap.size w u) := below_on HB.out (Nat.le_refl _) hbu
        have hsn := sumT_next HX.out.1
        have hsl := sumT_le (n := n) (l := l) (k + 1)
        clear hbu HB i0 i1 i2 i3 i4
        by_cases hm : left - (l.length : Int) - (sumT n l k : Int) < ((sizeT n x.body + sizeT n x.els : Nat) : Int)
        · rw [szK_neg hm]
          have HR : Hid (szK left (sizeT (n + 1) l) = -1) := szK_neg (by omega)
          clear hsn hsl hm
          go_wp2_with fail
          go_ret
          exact ⟨(by rw [HR.out]; rfl), HB2.out⟩
        · rw [szK_pos (by omega)]
          have hq : left - (l.length : Int) - (sumT n l k : Int) - ((sizeT n x.body + sizeT n x.els : Nat) : Int) = left - (l.length : Int) - (sumT n l (k + 1) : Int) := by omega
          rw [hq]
          have hq0 : ¬ left - (l.length : Int) - (sumT n l (k + 1) : Int) < 0 := by omega
          have HS : Hid (0 ≤ left - (l.length : Int) - (sumT n l (k + 1) : Int)) := by show 0 ≤ left - (l.length : Int) - (sumT n l (k + 1) : Int); omega
          clear hsn hsl hm hq hge
          go_wp2_with fail
          go_roundw
          case rel => exact ⟨k + 1, by omega, by go_num, rfl, HS.out, HB2⟩
          case measure => simp [intOf]; omega
      · have hkn : k = l.length := by omega
        have HR : Hid (szK left (sizeT (n + 1) l) = left - (l.length : Int) - (sumT n l k : Int)) := by show szK left (sizeT (n + 1) l) = left - (l.length : Int) - (sumT n l k : Int); rw [sumT_all (i := k) (by omega), szK_pos (by omega)]; omega
        clear hge
        go_wp2_with fail
        go_ret
        exact ⟨(by rw [HR.out]; rfl), HB.out⟩
theorem szStmtS_any (n : Nat) : SzIs n := by
  induction n with
  | zero =>
    intro v t left w h hf h0 h1
    obtain ⟨a, c, rfl⟩ := h
    rw [show szK left (sizeT 0 t) = left from by rw [szK_pos (by simp [sizeT]; omega)]; simp [sizeT]]
    exact szStmtS_none 0 a c left w h0 h1
  | succ n ih => exact fun v t left w h hf h0 h1 => szStmtS_succ n ih v t left w h hf h0 h1
end Go.Proofs.YtalkpddhpmjgcaaGreat
namespace Go.Proofs.YtalkpddhpmjgcaaGreat
open Go.ChangeShapes Go.WideShapes Go.ChangeAt Go.RowKit
set_option linter.unusedVariables false
theorem info_parts {P : Program} {t : TypeId} {z : Value} {n b : Nat} (h : (P.info? t).map (fun i => (i.zero, i.size, i.bytes)) = some (some z, n, b)) : ∃ i, P.info? t = some i ∧ i.zero = some z ∧ i.size = n ∧ i.bytes = b := by
  cases hi : P.info? t with
  | none => rw [hi] at h; cases h
  | some i =>
    rw [hi] at h
    simp only [Option.map_some, Option.some.injEq, Prod.mk.injEq] at h
    exact ⟨i, rfl, h.1, h.2.1, h.2.2⟩
theorem infoS : (Tryz.prog.info? 54).map (fun i => (i.zero, i.size, i.bytes)) = some (some (.agg #[.int .i64 0, .int .i64 0, .int .i64 0, .slice none 0 0, .slice none 0 0]), 5, 72) := by kernel_rfl
theorem own_baseK {w : World} {base base' : Nat} {e : TypeId} {s : Value} {k n : Nat} {xs : List Value} (h : w.ownsRow base e k s n xs) (hb : base' ≤ base) : w.ownsRow base' e k s n xs := by
  refine ⟨h.1, ?_⟩
  rcases h.2 with h | ⟨g, cap, cur, e1, hb1, hg, hr⟩
  · exact .inl h
  · exact .inr ⟨g, cap, cur, e1, Nat.le_trans hb hb1, hg, hr⟩
/-- A value owns a list of statements, in blocks from base on. -/
def OwnT (w : World) (base : Nat) : (n : Nat) → Value → TL n → Prop
  | 0, s, _ => w.ownsRow base 54 5 s 0 []
  | n + 1, s, l => ∃ xs : List (SS (TL n) × Value × Value), List.map Prod.fst xs = l ∧ w.ownsRow base 54 5 s (List.length l) (xs.flatMap sCells) ∧ ∀ x, List.Mem x xs → OwnT w base n x.2.1 x.1.body ∧ OwnT w base n x.2.2 x.1.els
theorem OwnT.rd {w : World} {base n : Nat} {s : Value} {t : TL n} (h : OwnT w base n s t) : RdT w n s t := by
  induction n generalizing s with
  | zero => exact (Rd.of_own h).is_slice
  | succ n ih =>
    obtain ⟨xs, h1, h2, h3⟩ := h
    exact ⟨xs, h1, Rd.of_own h2, fun x hx => ⟨ih (h3 x hx).1, ih (h3 x hx).2⟩⟩
theorem OwnT.keep {w w' : World} {base n : Nat} {s : Value} {t : TL n} (h : OwnT w base n s t) {B : Nat} (hb : Below B w w') (hB : w.heap.size ≤ B) : OwnT w' base n s t := by
  induction n generalizing s with
  | zero => exact own_keep h hb hB
  | succ n ih =>
    obtain ⟨xs, h1, h2, h3⟩ := h
    exact ⟨xs, h1, own_keep h2 hb hB, fun x hx => ⟨ih (h3 x hx).1, ih (h3 x hx).2⟩⟩
theorem OwnT.base {w : World} {base base' n : Nat} {s : Value} {t : TL n} (h : OwnT w base n s t) (hb : base' ≤ base) : OwnT w base' n s t := by
  induction n generalizing s with
  | zero => exact own_baseK h hb
  | succ n ih =>
    obtain ⟨xs, h1, h2, h3⟩ := h
    exact ⟨xs, h1, own_baseK h2 hb, fun x hx => ⟨ih (h3 x hx).1, ih (h3 x hx).2⟩⟩
theorem OwnT.below {w : World} {base n : Nat} {s : Value} {t : TL n} (h : OwnT w base n s t) {a : Addr} (ha : a.block < base) (x : Value) : OwnT (w.setCell a x) base n s t := by
  induction n generalizing s with
  | zero => exact ownsRow_setCell_below h ha x
  | succ n ih =>
    obtain ⟨xs, h1, h2, h3⟩ := h
    exact ⟨xs, h1, ownsRow_setCell_below h2 ha x, fun y hy => ⟨ih (h3 y hy).1, ih (h3 y hy).2⟩⟩
theorem OwnT.is_slice {w : World} {base n : Nat} {s : Value} {t : TL n} (h : OwnT w base n s t) : ∃ a c, s = .slice a (lenT n t) c := h.rd.is_slice
/-- What toStmtS is asked for. -/
def ToIs (n : Nat) : Prop := ∀ (v : Value) (t : TL n) (w : World), RdT w n v t → sizeT n t ≤ 1048576 → Calls Tryz.prog 7 #[v] w fun e w' => ∃ v', e = .returned v' ∧ OwnT w' w.heap.size n v' t ∧ Below w.heap.size w w'
/-- Where toStmt stands. -/
structure TsAt (w u : World) (p r o : Array Value) : Prop where
  par : Blk u w.heap.size p 46
  res : Blk u (w.heap.size + 1) r 54
  loc : Blk u (w.heap.size + 1 + 1) o 54
  bel : Below w.heap.size w u
  siz : w.heap.size + 3 ≤ u.heap.size
theorem TsAt.keep {w u u' : World} {p r o : Array Value} (h : TsAt w u p r o) (hb : Below u.heap.size u u') : TsAt w u' p r o := ⟨h.par.keep hb, h.res.keep hb, h.loc.keep hb, below_on h.bel (Nat.le_refl _) hb, Nat.le_trans h.siz hb.size⟩
theorem TsAt.set {w u : World} {p r o : Array Value} (h : TsAt w u p r o) (j : Nat) (x : Value) : TsAt w (u.setCell ⟨w.heap.size + 1 + 1, j, none⟩ x) p r (o.setIfInBounds j x) :=
  ⟨h.par.other (by simp only []; omega) x, h.res.other (by simp only []; omega) x, h.loc.set j x, h.bel.setCell (by simp only []; omega) x, by have := h.siz; simpa using this⟩
theorem TsAt.set' {w u : World} {p r o : Array Value} (h : TsAt w u p r o) (j : Nat) (x : Value) : TsAt w (u.setCell ⟨w.heap.size + 1, j, none⟩ x) p (r.setIfInBounds j x) o :=
  ⟨h.par.other (by simp only []; omega) x, h.res.set j x, h.loc.other (by simp only []; omega) x, h.bel.setCell (by simp only []; omega) x, by have := h.siz; simpa using this⟩
theorem TsAt.of (w : World) (p r o : Array Value) : TsAt w (((w.alloc (.cells p 46)).alloc (.cells r 54)).alloc (.cells o 54)) p r o := by
  have b1 := below_alloc w (.cells p 46)
  have b2 := below_alloc (w.alloc (.cells p 46)) (.cells r 54)
  have b3 := below_alloc ((w.alloc (.cells p 46)).alloc (.cells r 54)) (.cells o 54)
  have e1 : (w.alloc (.cells p 46)).heap.size = w.heap.size + 1 := by simp
  have e2 : ((w.alloc (.cells p 46)).alloc (.cells r 54)).heap.size = w.heap.size + 1 + 1 := by simp
  refine ⟨((Blk.new w p _).keep b2).keep b3, ?_, ?_, below_on (below_on b1 (Nat.le_refl _) b2) (Nat.le_refl _) b3, by simp⟩
  · have := (Blk.new (w.alloc (.cells p 46)) r 54).keep b3
    rw [e1] at this
    exact this
  · have := Blk.new ((w.alloc (.cells p 46)).alloc (.cells r 54)) o 54
    rw [e2] at this
    exact this
theorem blk5 {w : World} {b : Nat} {t : TypeId} {a0 a1 a2 a3 a4 : Value} (h : Blk w b #[a0, a1, a2, a3, a4] t) : w.cell? ⟨b, 0, none⟩ = some a0 ∧ w.cell? ⟨b, 1, none⟩ = some a1 ∧ w.cell? ⟨b, 2, none⟩ = some a2 ∧ w.cell? ⟨b, 3, none⟩ = some a3 ∧ w.cell? ⟨b, 4, none⟩ = some a4 := ⟨h.cell 0, h.cell 1, h.cell 2, h.cell 3, h.cell 4⟩
theorem frz5 {w : World} {b : Nat} {t : TypeId} {cur : Array Value} (h : Blk w b cur t) : w.frozen? ⟨b, 0, none⟩ = false ∧ w.frozen? ⟨b, 1, none⟩ = false ∧ w.frozen? ⟨b, 2, none⟩ = false ∧ w.frozen? ⟨b, 3, none⟩ = false ∧ w.frozen? ⟨b, 4, none⟩ = false := ⟨h.frozen 0, h.frozen 1, h.frozen 2, h.frozen 3, h.frozen 4⟩
set_option maxHeartbeats 4000000 in
set_option maxRecDepth 100000 in
theorem toStmt_any (n : Nat) (hS : ToIs n) (x : SS (TL n)) (vb ve : Value) (w : World) (hb : RdT w n vb x.body) (he : RdT w n ve x.els) (h1 : sizeT n x.body ≤ 1048576) (h2 : sizeT n x.els ≤ 1048576) :
    Calls Tryz.prog 22 #[.agg #[.int .i64 x.k, .int .i64 x.a, .int .i64 x.b, vb, ve]] w fun e w' => ∃ vb' ve', e = .returned (.agg #[.int .i64 x.k, .int .i64 x.a, .int .i64 x.b, vb', ve']) ∧ OwnT w' w.heap.size n vb' x.body ∧ OwnT w' w.heap.size n ve' x.els ∧ Below w.heap.size w w' := by
  have HS : Hid (ToIs n) := hS
  obtain ⟨a1, c1, rfl⟩ := hb.is_slice
  obtain ⟨a2, c2, rfl⟩ := he.is_slice
  have H : Hid (RdT w n (.slice a1 (lenT n x.body) c1) x.body ∧ RdT w n (.slice a2 (lenT n x.els) c2) x.els ∧ sizeT n x.body ≤ 1048576 ∧ sizeT n x.els ≤ 1048576) := ⟨hb, he, h1, h2⟩
  clear hb he h1 h2 hS
  generalize lenT n x.body = lb at H ⊢
  generalize lenT n x.els = le at H ⊢
  have F0 : Hid _ := TsAt.of w #[.int .i64 x.k, .int .i64 x.a, .int .i64 x.b, .slice a1 lb c1, .slice a2 le c2] #[.int .i64 0, .int .i64 0, .int .i64 0, .slice none 0 0, .slice none 0 0] #[.int .i64 0, .int .i64 0, .int .i64 0, .slice none 0 0, .slice none 0 0]
  go_enter Tryz.func22, Tryz.ntmps22
  go_upto_region 2 with fail
  refine wp_world (fun u => Hid (TsAt w u #[.int .i64 x.k, .int .i64 x.a, .int .i64 x.b, .slice a1 lb c1, .slice a2 le c2] #[.int .i64 0, .int .i64 0, .int .i64 0, .slice none 0 0, .slice none 0 0] #[.int .i64 0, .int .i64 0, .int .i64 0, .slice none 0 0, .slice none 0 0])) F0 ?_
  rintro U F1
  clear F0
  obtain ⟨p0, p1, p2, p3, p4⟩ := blk5 F1.out.par
  obtain ⟨z0, z1, z2, z3, z4⟩ := frz5 F1.out.loc
  obtain ⟨o0, o1, o2, o3, o4⟩ := blk5 F1.out.loc
  go_upto_region 5 with fail
  have F2 : Hid _ := ((F1.out.set 0 (.int .i64 x.k)).set 1 (.int .i64 x.a)).set 2 (.int .i64 x.b)
  simp only [List.setIfInBounds_toArray, List.set_cons_zero, List.set_cons_succ] at F2
  clear p0 p1 p2 p3 p4 z0 z1 z2 z3 z4 o0 o1 o2 o3 o4 F1
  refine wp_world (fun u => Hid (TsAt w u #[.int .i64 x.k, .int .i64 x.a, .int .i64 x.b, .slice a1 lb c1, .slice a2 le c2] #[.int .i64 0, .int .i64 0, .int .i64 0, .slice none 0 0, .slice none 0 0] #[.int .i64 x.k, .int .i64 x.a, .int .i64 x.b, .slice none 0 0, .slice none 0 0])) F2 ?_
  rintro U1 F3
  clear F2
  clear U
  obtain ⟨p0, p1, p2, p3, p4⟩ := blk5 F3.out.par
  go_wp2_with fail
  refine (HS.out _ x.body U1 (H.out.1.keep F3.out.bel (Nat.le_refl _)) H.out.2.2.1).mono ?_
  rintro e u1 ⟨vb', rfl, ob, b1⟩
  obtain ⟨a3, c3, rfl⟩ := ob.is_slice
  generalize lenT n x.body = lb' at ob ⊢
  have F4 : Hid (TsAt w u1 #[.int .i64 x.k, .int .i64 x.a, .int .i64 x.b, .slice a1 lb c1, .slice a2 le c2] #[.int .i64 0, .int .i64 0, .int .i64 0, .slice none 0 0, .slice none 0 0] #[.int .i64 x.k, .int .i64 x.a, .int .i64 x.b, .slice none 0 0, .slice none 0 0]) := F3.out.keep b1
  have O1 : Hid (OwnT u1 (w.heap.size + 3) n (.slice a3 lb' c3) x.body) := ob.base F3.out.siz
  clear ob b1 F3 p0 p1 p2 p3 p4
  obtain ⟨z0, z1, z2, z3, z4⟩ := frz5 F4.out.loc
  obtain ⟨o0, o1, o2, o3, o4⟩ := blk5 F4.out.loc
  go_upto_region 6 with fail
  have F5 : Hid _ := F4.out.set 3 (.slice a3 lb' c3)
  simp only [List.setIfInBounds_toArray, List.set_cons_zero, List.set_cons_succ] at F5
  have F6 : Hid (TsAt w (u1.setCell ⟨w.heap.size + 1 + 1, 3, none⟩ (.slice a3 lb' c3)) #[.int .i64 x.k, .int .i64 x.a, .int .i64 x.b, .slice a1 lb c1, .slice a2 le c2] #[.int .i64 0, .int .i64 0, .int .i64 0, .slice none 0 0, .slice none 0 0] #[.int .i64 x.k, .int .i64 x.a, .int .i64 x.b, .slice a3 lb' c3, .slice none 0 0] ∧ OwnT (u1.setCell ⟨w.heap.size + 1 + 1, 3, none⟩ (.slice a3 lb' c3)) (w.heap.size + 3) n (.slice a3 lb' c3) x.body) := ⟨F5.out, O1.out.below (by simp only []; omega) _⟩
  clear z0 z1 z2 z3 z4 o0 o1 o2 o3 o4 F4 F5 O1
  refine wp_world (fun u => Hid (TsAt w u #[.int .i64 x.k, .int .i64 x.a, .int .i64 x.b, .slice a1 lb c1, .slice a2 le c2] #[.int .i64 0, .int .i64 0, .int .i64 0, .slice none 0 0, .slice none 0 0] #[.int .i64 x.k, .int .i64 x.a, .int .i64 x.b, .slice a3 lb' c3, .slice none 0 0] ∧ OwnT u (w.heap.size + 3) n (.slice a3 lb' c3) x.body)) F6 ?_
  rintro U2 F7
  clear F6
  clear u1
  obtain ⟨p0, p1, p2, p3, p4⟩ := blk5 F7.out.1.par
  go_wp2_with fail
  refine (HS.out _ x.els U2 (H.out.2.1.keep F7.out.1.bel (Nat.le_refl _)) H.out.2.2.2).mono ?_
  rintro e u2 ⟨ve', rfl, oe, b2⟩
  obtain ⟨a4, c4, rfl⟩ := oe.is_slice
  generalize lenT n x.els = le' at oe ⊢
  have F8 : Hid (TsAt w u2 #[.int .i64 x.k, .int .i64 x.a, .int .i64 x.b, .slice a1 lb c1, .slice a2 le c2] #[.int .i64 0, .int .i64 0, .int .i64 0, .slice none 0 0, .slice none 0 0] #[.int .i64 x.k, .int .i64 x.a, .int .i64 x.b, .slice a3 lb' c3, .slice none 0 0] ∧ OwnT u2 (w.heap.size + 3) n (.slice a3 lb' c3) x.body ∧ OwnT u2 (w.heap.size + 3) n (.slice a4 le' c4) x.els) := ⟨F7.out.1.keep b2, F7.out.2.keep b2 (Nat.le_refl _), oe.base F7.out.1.siz⟩
  clear oe b2 F7 p0 p1 p2 p3 p4
  obtain ⟨z0, z1, z2, z3, z4⟩ := frz5 F8.out.1.loc
  obtain ⟨o0, o1, o2, o3, o4⟩ := blk5 F8.out.1.loc
  go_upto_region 7 with fail
  have F9 : Hid _ := F8.out.1.set 4 (.slice a4 le' c4)
  simp only [List.setIfInBounds_toArray, List.set_cons_zero, List.set_cons_succ] at F9
  have F10 : Hid (TsAt w (u2.setCell ⟨w.heap.size + 1 + 1, 4, none⟩ (.slice a4 le' c4)) #[.int .i64 x.k, .int .i64 x.a, .int .i64 x.b, .slice a1 lb c1, .slice a2 le c2] #[.int .i64 0, .int .i64 0, .int .i64 0, .slice none 0 0, .slice none 0 0] #[.int .i64 x.k, .int .i64 x.a, .int .i64 x.b, .slice a3 lb' c3, .slice a4 le' c4] ∧ OwnT (u2.setCell ⟨w.heap.size + 1 + 1, 4, none⟩ (.slice a4 le' c4)) (w.heap.size + 3) n (.slice a3 lb' c3) x.body ∧ OwnT (u2.setCell ⟨w.heap.size + 1 + 1, 4, none⟩ (.slice a4 le' c4)) (w.heap.size + 3) n (.slice a4 le' c4) x.els) := ⟨F9.out, F8.out.2.1.below (by simp only []; omega) _, F8.out.2.2.below (by simp only []; omega) _⟩
  clear z0 z1 z2 z3 z4 o0 o1 o2 o3 o4 F8 F9
  refine wp_world (fun u => Hid (TsAt w u #[.int .i64 x.k, .int .i64 x.a, .int .i64 x.b, .slice a1 lb c1, .slice a2 le c2] #[.int .i64 0, .int .i64 0, .int .i64 0, .slice none 0 0, .slice none 0 0] #[.int .i64 x.k, .int .i64 x.a, .int .i64 x.b, .slice a3 lb' c3, .slice a4 le' c4] ∧ OwnT u (w.heap.size + 3) n (.slice a3 lb' c3) x.body ∧ OwnT u (w.heap.size + 3) n (.slice a4 le' c4) x.els)) F10 ?_
  rintro U3 F11
  clear F10
  clear u2
  obtain ⟨o0, o1, o2, o3, o4⟩ := blk5 F11.out.1.loc
  obtain ⟨z0, z1, z2, z3, z4⟩ := frz5 F11.out.1.res
  obtain ⟨r0, r1, r2, r3, r4⟩ := blk5 F11.out.1.res
  go_wp2_with fail
  have G : Hid _ := ((((F11.out.1.set' 0 (.int .i64 x.k)).set' 1 (.int .i64 x.a)).set' 2 (.int .i64 x.b)).set' 3 (.slice a3 lb' c3)).set' 4 (.slice a4 le' c4)
  simp only [List.setIfInBounds_toArray, List.set_cons_zero, List.set_cons_succ] at G
  clear o0 o1 o2 o3 o4 z0 z1 z2 z3 z4 r0 r1 r2 r3 r4
  obtain ⟨q0, q1, q2, q3, q4⟩ := blk5 G.out.res
  have hall : ∀ {s : Value} {t : TL n}, OwnT U3 (w.heap.size + 3) n s t → OwnT (((((U3.setCell ⟨w.heap.size + 1, 0, none⟩ (.int .i64 x.k)).setCell ⟨w.heap.size + 1, 1, none⟩ (.int .i64 x.a)).setCell ⟨w.heap.size + 1, 2, none⟩ (.int .i64 x.b)).setCell ⟨w.heap.size + 1, 3, none⟩ (.slice a3 lb' c3)).setCell ⟨w.heap.size + 1, 4, none⟩ (.slice a4 le' c4)) w.heap.size n s t := fun h => (((((h.below (by simp only []; omega) _).below (by simp only []; omega) _).below (by simp only []; omega) _).below (by simp only []; omega) _).below (by simp only []; omega) _).base (by omega)
  exact bodyPost_ret (v := .agg #[.int .i64 x.k, .int .i64 x.a, .int .i64 x.b, .slice a3 lb' c3, .slice a4 le' c4]) (by simp [results, Tryz.results22, go_sem, q0, q1, q2, q3, q4]) rfl ⟨_, _, rfl, hall F11.out.2.1, hall F11.out.2.2, G.out.bel⟩
end Go.Proofs.YtalkpddhpmjgcaaGreat
namespace Go.Proofs.YtalkpddhpmjgcaaGreat
open Go.ChangeShapes Go.WideShapes Go.ChangeAt Go.RowKit
set_option linter.unusedVariables false
/-- Copied up to the elements ys, zeros behind. -/
def newToK {α : Type} (f : α → List Value) (z : List Value) (ys : List α) (n : Nat) : List Value := ys.flatMap f ++ (List.replicate (n - ys.length) z).flatten
theorem newTo_zeroK {α : Type} (f : α → List Value) (z : List Value) (n : Nat) (v : Value) (m : Nat) (hv : v.cells = z.toArray) (hm : z.length = m) (h0 : 0 < m) : (madeCells v.cells (n * m)).toList = newToK f z [] n := by
  rw [flatTo_zero f z [] n v m hv hm h0]
  simp [flatTo, newToK]
theorem newTo_partsK {α : Type} (f : α → List Value) (z : List Value) (ys : List α) (k n : Nat) (hk : k < n) (hl : ys.length = k) : newToK f z ys n = ys.flatMap f ++ (z ++ (List.replicate (n - (k + 1)) z).flatten) := by
  unfold newToK
  have e : n - ys.length = (n - (k + 1)) + 1 := by omega
  rw [e, List.replicate_succ, List.flatten_cons]
theorem newTo_nextK {α : Type} (f : α → List Value) (z : List Value) (ys : List α) (k n : Nat) (y : α) (hl : ys.length = k) : newToK f z (ys ++ [y]) n = ys.flatMap f ++ (f y ++ (List.replicate (n - (k + 1)) z).flatten) := by
  unfold newToK
  rw [List.flatMap_append, List.append_assoc]
  simp [hl]
theorem newTo_allK {α : Type} (f : α → List Value) (z : List Value) (ys : List α) (n : Nat) (h : ys.length = n) : newToK f z ys n = ys.flatMap f := by simp [newToK, ← h]
theorem own_ltK {w : World} {base : Nat} {e : TypeId} {g k n c : Nat} {xs : List Value} (h : w.ownsRow base e k (.slice (some ⟨g, 0, none⟩) n c) n xs) : g + 1 ≤ w.heap.size := by
  rcases h.2 with ⟨h', _⟩ | ⟨g', cap', cur, h', _, hg, _⟩
  · cases h'
  · cases h'
    exact (Array.getElem?_eq_some_iff.1 hg).1
theorem set5 (A R : List Value) (z0 z1 z2 z3 z4 c0 c1 c2 c3 c4 : Value) (i : Nat) (h : A.length = i) : (((((A ++ ([z0, z1, z2, z3, z4] ++ R)).set i c0).set (i + 1) c1).set (i + 2) c2).set (i + 3) c3).set (i + 4) c4 = A ++ ([c0, c1, c2, c3, c4] ++ R) := by
  subst h
  simp [List.set_append_right]
theorem fst_nextK {α β : Type} {fs : List α} {ys : List (α × β)} {k : Nat} (h : ys.map Prod.fst = fs.take k) {f : α} (hf : fs[k]? = some f) (v : β) : (ys ++ [(f, v)]).map Prod.fst = fs.take (k + 1) := by
  obtain ⟨hlt, rfl⟩ := List.getElem?_eq_some_iff.1 hf
  rw [List.map_append, h, List.take_succ_eq_append_getElem hlt]
  rfl
def zS : List Value := [.int .i64 0, .int .i64 0, .int .i64 0, .slice none 0 0, .slice none 0 0]
/-- Where the copying stands. -/
structure TSt (w wr : World) (n : Nat) (l : List (SS (TL n))) (L k : Nat) (ys : List (SS (TL n) × Value × Value)) : Prop where
  fst : ys.map Prod.fst = l.take k
  len : ys.length = k
  row : wr.ownsRow w.heap.size 54 5 (.slice (some ⟨w.heap.size, 0, none⟩) L L) L (newToK sCells zS ys L)
  els : ∀ y, List.Mem y ys → OwnT wr (w.heap.size + 1) n y.2.1 y.1.body ∧ OwnT wr (w.heap.size + 1) n y.2.2 y.1.els
  bel : Below w.heap.size w wr
  siz : w.heap.size + 1 ≤ wr.heap.size
theorem TSt.places {w wr : World} {n : Nat} {l : List (SS (TL n))} {L k : Nat} {ys : List (SS (TL n) × Value × Value)} (h : TSt w wr n l L k ys) (hk : k < L) {u : World} (hb : Below wr.heap.size wr u) :
    u.cell? ⟨w.heap.size, k * 5, none⟩ = some (.int .i64 0) ∧ u.cell? ⟨w.heap.size, k * 5 + 1, none⟩ = some (.int .i64 0) ∧ u.cell? ⟨w.heap.size, k * 5 + 2, none⟩ = some (.int .i64 0) ∧ u.cell? ⟨w.heap.size, k * 5 + 3, none⟩ = some (.slice none 0 0) ∧ u.cell? ⟨w.heap.size, k * 5 + 4, none⟩ = some (.slice none 0 0) ∧ u.frozen? ⟨w.heap.size, k * 5, none⟩ = false ∧ u.frozen? ⟨w.heap.size, k * 5 + 1, none⟩ = false ∧ u.frozen? ⟨w.heap.size, k * 5 + 2, none⟩ = false ∧ u.frozen? ⟨w.heap.size, k * 5 + 3, none⟩ = false ∧ u.frozen? ⟨w.heap.size, k * 5 + 4, none⟩ = false := by
  have hown := own_keep h.row hb (Nat.le_refl _)
  rw [newTo_partsK sCells _ ys k L hk h.len] at hown
  have hA : (ys.flatMap sCells).length = k * 5 := by rw [flat_length sCells 5 sCells_length, h.len]
  have d0 := hown.cellAt (k * 5) (by omega)
  have d1 := hown.cellAt (k * 5 + 1) (by omega)
  have d2 := hown.cellAt (k * 5 + 2) (by omega)
  have d3 := hown.cellAt (k * 5 + 3) (by omega)
  have d4 := hown.cellAt (k * 5 + 4) (by omega)
  rw [List.getElem?_append_right (by omega), hA] at d0 d1 d2 d3 d4
  rw [Nat.sub_self] at d0
  rw [Nat.add_sub_cancel_left] at d1 d2 d3 d4
  exact ⟨d0, d1, d2, d3, d4, hown.frozenAt _, hown.frozenAt _, hown.frozenAt _, hown.frozenAt _, hown.frozenAt _⟩
theorem TSt.next {w wr : World} {n : Nat} {l : List (SS (TL n))} {L k : Nat} {ys : List (SS (TL n) × Value × Value)} (h : TSt w wr n l L k ys) (hk : k < L) {u : World} (hb : Below wr.heap.size wr u) {x : SS (TL n)} (hx : l[k]? = some x) {vb ve : Value} (ob : OwnT u wr.heap.size n vb x.body) (oe : OwnT u wr.heap.size n ve x.els) :
    TSt w (((((u.setCell ⟨w.heap.size, k * 5, none⟩ (.int .i64 x.k)).setCell ⟨w.heap.size, k * 5 + 1, none⟩ (.int .i64 x.a)).setCell ⟨w.heap.size, k * 5 + 2, none⟩ (.int .i64 x.b)).setCell ⟨w.heap.size, k * 5 + 3, none⟩ vb).setCell ⟨w.heap.size, k * 5 + 4, none⟩ ve) n l L (k + 1) (ys ++ [(x, vb, ve)]) := by
  have hown := own_keep h.row hb (Nat.le_refl _)
  rw [newTo_partsK sCells _ ys k L hk h.len] at hown
  have hA : (ys.flatMap sCells).length = k * 5 := by rw [flat_length sCells 5 sCells_length, h.len]
  have s0 := (hown.stored (k * 5) (.int .i64 x.k)).1
  have s1 := (s0.stored (k * 5 + 1) (.int .i64 x.a)).1
  have s2 := (s1.stored (k * 5 + 2) (.int .i64 x.b)).1
  have s3 := (s2.stored (k * 5 + 3) vb).1
  have s4 := (s3.stored (k * 5 + 4) ve).1
  unfold zS at s4
  rw [set5 _ _ _ _ _ _ _ _ _ _ _ _ (k * 5) hA] at s4
  refine ⟨fst_nextK h.fst hx (vb, ve), by simp [h.len], ?_, ?_, ?_, ?_⟩
  · rw [newTo_nextK sCells _ ys k L (x, vb, ve) h.len]
    exact s4
  · intro y hy
    have hy' : OwnT u (w.heap.size + 1) n y.2.1 y.1.body ∧ OwnT u (w.heap.size + 1) n y.2.2 y.1.els := by
      rcases List.mem_append.1 hy with hy | hy
      · exact ⟨(h.els y hy).1.keep hb (Nat.le_refl _), (h.els y hy).2.keep hb (Nat.le_refl _)⟩
      · simp only [List.mem_singleton] at hy
        subst hy
        exact ⟨ob.base h.siz, oe.base h.siz⟩
    exact ⟨((((hy'.1.below (by simp) _).below (by simp) _).below (by simp) _).below (by simp) _).below (by simp) _, ((((hy'.2.below (by simp) _).below (by simp) _).below (by simp) _).below (by simp) _).below (by simp) _⟩
  · exact (((((h.bel.trans (hb.mono (by have := h.siz; omega))).setCell (Nat.le_refl _) _).setCell (Nat.le_refl _) _).setCell (Nat.le_refl _) _).setCell (Nat.le_refl _) _).setCell (Nat.le_refl _) _
  · have := hb.size
    have := h.siz
    simp
    omega
set_option maxHeartbeats 2000000 in
set_option maxRecDepth 100000 in
theorem toStmtS_none (a : Option Addr) (c : Nat) (w : World) : Calls Tryz.prog 7 #[.slice a 0 c] w fun e w' => ∃ v', e = .returned v' ∧ w'.ownsRow w.heap.size 54 5 v' 0 [] ∧ Below w.heap.size w w' := by
  obtain ⟨i0, hi, hz0, hz1, hz2⟩ := info_parts infoS
  go_enter Tryz.func7, Tryz.ntmps7
  go_wp2_with (at_make; refine wpList_make_full _ rfl _ _ 33 rfl w.heap.size 54 i0 (.agg #[.int .i64 0, .int .i64 0, .int .i64 0, .slice none 0 0, .slice none 0 0]) 5 Tryz.underlying33 hi hz0 hz1 .i64 .i64 _ _ 0 rfl rfl rfl rfl (by rw [hz2]; omega) (by unfold maxLen; omega) (Nat.le_refl _) ?_; intro w1 hown hgrow)
  have HO : Hid (w1.ownsRow w.heap.size 54 5 (.slice (some ⟨w.heap.size, 0, none⟩) 0 0) 0 [] ∧ Below w.heap.size w w1) := ⟨by
    rw [newTo_zeroK (sCells (α := Unit)) zS 0 (.agg #[.int .i64 0, .int .i64 0, .int .i64 0, .slice none 0 0, .slice none 0 0]) 5 rfl rfl (by omega)] at hown
    exact hown, (Below.refl _ _).grown hgrow (Nat.le_refl _) (fun k hk => by cases hk)⟩
  clear hown hgrow
  go_loopw [4] (fun i wr => i = .int .i64 0 ∧ wr = w1) (fun _ _ => 0)
  case atStart => exact ⟨rfl, rfl⟩
  case round =>
    obtain ⟨rfl, rfl⟩ := hrel
    go_wp2_with fail
    go_ret
    exact ⟨_, rfl, HO.out.1, HO.out.2⟩
set_option maxHeartbeats 4000000 in
set_option maxRecDepth 100000 in
theorem toStmtS_succ (n : Nat) (ih : ToIs n) (v : Value) (l : List (SS (TL n))) (w : World) (h : RdT w (n + 1) v l) (hsz : sizeT (n + 1) l ≤ 1048576) : Calls Tryz.prog 7 #[v] w fun e w' => ∃ v', e = .returned v' ∧ OwnT w' w.heap.size (n + 1) v' l ∧ Below w.heap.size w w' := by
  obtain ⟨i0, hi, hz0, hz1, hz2⟩ := info_parts infoS
  have HI : Hid (ToIs n) := ih
  obtain ⟨a1, c1, e1⟩ : ∃ a c, v = .slice a l.length c := h.is_slice
  subst e1
  have H : Hid (RdT w (n + 1) (.slice a1 l.length c1) l ∧ sizeT (n + 1) l ≤ 1048576) := ⟨h, hsz⟩
  have hL : l.length ≤ 1048576 := by have := len_le_size (n + 1) l; have e : lenT (n + 1) l = l.length := rfl; omega
  clear h ih hsz
  generalize hLL : l.length = L at H hL ⊢
  have HL : Hid (l.length = L) := hLL
  clear hLL
  go_enter Tryz.func7, Tryz.ntmps7
  go_wp2_with (at_make; refine wpList_make_full _ rfl _ _ 33 rfl w.heap.size 54 i0 (.agg #[.int .i64 0, .int .i64 0, .int .i64 0, .slice none 0 0, .slice none 0 0]) 5 Tryz.underlying33 hi hz0 hz1 .i64 .i64 _ _ L rfl rfl rfl rfl (by rw [hz2]; omega) (by unfold maxLen; omega) (Nat.le_refl _) ?_; intro w1 hown hgrow)
  rw [newTo_zeroK (sCells (α := TL n)) zS L (.agg #[.int .i64 0, .int .i64 0, .int .i64 0, .slice none 0 0, .slice none 0 0]) 5 rfl rfl (by omega)] at hown
  have hB : Below w.heap.size w w1 := (Below.refl _ _).grown hgrow (Nat.le_refl _) (fun k hk => by cases hk)
  have HST : Hid (TSt w w1 n l L 0 []) := ⟨by simp, rfl, hown, (fun y hy => by cases hy), hB, own_ltK hown⟩
  clear hgrow hown hB
  go_loopw [4] (fun i wr => ∃ k : Nat, k ≤ L ∧ i = .int .i64 k ∧ ∃ ys, Hid (TSt w wr n l L k ys)) (fun i _ => L - (intOf i).toNat)
  case atStart => exact ⟨0, by omega, rfl, _, HST⟩
  case round =>
    clear HST
    obtain ⟨k, hk, rfl, ys, HST⟩ := hrel
    by_cases hlt : k < L
    · obtain ⟨x, hx⟩ : ∃ x, l[k]? = some x := ⟨_, List.getElem?_eq_getElem (by rw [HL.out]; exact hlt)⟩
      obtain ⟨g, o, c, vb, ve, e1, i0, i1, i2, i3, i4, rb, re⟩ := (H.out.1.keep HST.out.bel (Nat.le_refl _)).elem hx
      rw [HL.out] at e1
      simp only [Value.slice.injEq, true_and] at e1
      obtain ⟨rfl, rfl⟩ := e1
      have HX : Hid (l[k]? = some x ∧ RdT wr n vb x.body ∧ RdT wr n ve x.els ∧ 1 + sizeT n x.body + sizeT n x.els ≤ 1048576) := ⟨hx, rb, re, Nat.le_trans (size_mem (List.mem_of_getElem? hx)) H.out.2⟩
      obtain ⟨ab, cb, rfl⟩ := rb.is_slice
      obtain ⟨ae, ce, rfl⟩ := re.is_slice
      clear rb re hx
      go_wp2_with fail
      refine (toStmt_any n HI.out x _ _ wr HX.out.2.1 HX.out.2.2.1 (by have := HX.out.2.2.2; omega) (by have := HX.out.2.2.2; omega)).mono ?_
      rintro e u ⟨vb', ve', rfl, ob, oe, hbu⟩
      obtain ⟨a3, c3, e3⟩ := ob.is_slice
      obtain ⟨a4, c4, e4⟩ := oe.is_slice
      subst e3 e4
      obtain ⟨q0, q1, q2, q3, q4, f0, f1, f2, f3, f4⟩ := HST.out.places hlt hbu
      have HN : Hid _ := HST.out.next hlt hbu HX.out.1 ob oe
      clear ob oe hbu i0 i1 i2 i3 i4 HST HX
      go_wp2
      go_roundw
      case rel => exact ⟨k + 1, by omega, by go_num, _, HN⟩
      case measure => simp [intOf]; omega
    · have hkn : k = L := by omega
      subst hkn
      go_wp2
      go_ret
      refine ⟨_, rfl, ⟨ys, ?_, ?_, fun y hy => ⟨(HST.out.els y hy).1.base (by omega), (HST.out.els y hy).2.base (by omega)⟩⟩, HST.out.bel⟩
      · have := HST.out.fst
        rw [← HL.out, List.take_length] at this
        exact this
      · have hrow := HST.out.row
        rw [newTo_allK _ _ _ _ HST.out.len] at hrow
        show World.ownsRow _ _ _ _ _ (List.length l) _
        rw [HL.out]
        exact hrow
theorem toStmtS_any (n : Nat) : ToIs n := by
  induction n with
  | zero =>
    intro v t w h hs
    obtain ⟨a, c, rfl⟩ := h
    exact toStmtS_none a c w
  | succ n ih => exact fun v t w h hs => toStmtS_succ n ih v t w h hs
end Go.Proofs.YtalkpddhpmjgcaaGreat
