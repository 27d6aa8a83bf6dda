/- KEq: eqStmt, eqStmtS. -/
import Derived.Test.YtjlnglgfehefdaaKTo2
import Derived.Deep.RegionWith
namespace Go.Proofs.Ytjlnglgfehefdaa
open Go.ChangeShapes Go.WideShapes Go.ChangeAt Go.RowKit
set_option linter.unusedVariables false
theorem below_drew_trans {w u : World} {B : Nat} (h : Below w.drew.heap.size w.drew u) (hB : B ≤ w.heap.size) : Below B w u := by
  have h2 := h.mono (show B ≤ w.drew.heap.size from hB)
  exact (⟨rfl, rfl, rfl, Nat.le_refl _, fun _ _ => rfl⟩ : Below B w w.drew).trans h2
/-- What eqStmtS is asked for. -/
def EqIs (n : Nat) : Prop := ∀ (v v' : Value) (t : TL n) (w : World), RdT w n v t → RdT w n v' t → sizeT n t ≤ 1048576 → Calls Try.prog 8 #[v, v'] w fun e w' => e = .returned (.bool true) ∧ Below w.heap.size w w'
/-- Two blocks of statements. -/
structure Eq2 (w u : World) (p r : Array Value) : Prop where
  par : Blk u w.heap.size p 35
  par' : Blk u (w.heap.size + 1) r 35
  bel : Below w.heap.size w u
theorem Eq2.keep {w u u' : World} {p r : Array Value} (h : Eq2 w u p r) (hb : Below u.heap.size u u') : Eq2 w u' p r := ⟨h.par.keep hb, h.par'.keep hb, below_on h.bel (Nat.le_refl _) hb⟩
theorem Eq2.of (w : World) (p r : Array Value) : Eq2 w ((w.alloc (.cells p 35)).alloc (.cells r 35)) p r := by
  have b1 := below_alloc w (.cells p 35)
  have b2 := below_alloc (w.alloc (.cells p 35)) (.cells r 35)
  have e1 : (w.alloc (.cells p 35)).heap.size = w.heap.size + 1 := by simp
  refine ⟨(Blk.new w p _).keep b2, ?_, below_on b1 (Nat.le_refl _) b2⟩
  have := Blk.new (w.alloc (.cells p 35)) r 35
  rw [e1] at this
  exact this
set_option maxHeartbeats 2000000 in
set_option maxRecDepth 100000 in
theorem eqStmt_same (n : Nat) (hS : EqIs n) (x : SS (TL n)) (vb ve vb' ve' : Value) (w : World) (hb : RdT w n vb x.body) (he : RdT w n ve x.els) (hb' : RdT w n vb' x.body) (he' : RdT w n ve' x.els) (h1 : sizeT n x.body ≤ 1048576) (h2 : sizeT n x.els ≤ 1048576) :
    Calls Try.prog 14 #[.agg #[.int .i64 x.k, .int .i64 x.a, .int .i64 x.b, vb, ve], .agg #[.int .i64 x.k, .int .i64 x.a, .int .i64 x.b, vb', ve']] w fun e w' => e = .returned (.bool true) ∧ Below w.heap.size w w' := by
  have HS : Hid (EqIs n) := hS
  obtain ⟨a1, c1, rfl⟩ := hb.is_slice
  obtain ⟨a2, c2, rfl⟩ := he.is_slice
  obtain ⟨a3, c3, rfl⟩ := hb'.is_slice
  obtain ⟨a4, c4, rfl⟩ := he'.is_slice
  have H : Hid (RdT w n (.slice a1 (lenT n x.body) c1) x.body ∧ RdT w n (.slice a2 (lenT n x.els) c2) x.els ∧ RdT w n (.slice a3 (lenT n x.body) c3) x.body ∧ RdT w n (.slice a4 (lenT n x.els) c4) x.els ∧ sizeT n x.body ≤ 1048576 ∧ sizeT n x.els ≤ 1048576) := ⟨hb, he, hb', he', h1, h2⟩
  clear hb he hb' he' h1 h2 hS
  generalize lenT n x.body = lb at H ⊢
  generalize lenT n x.els = le at H ⊢
  have F0 : Hid _ := Eq2.of w #[.int .i64 x.k, .int .i64 x.a, .int .i64 x.b, .slice a1 lb c1, .slice a2 le c2] #[.int .i64 x.k, .int .i64 x.a, .int .i64 x.b, .slice a3 lb c3, .slice a4 le c4]
  go_enter Try.func14, Try.ntmps14
  go_upto_region 1 with fail
  refine wp_world (fun u => Hid (Eq2 w u #[.int .i64 x.k, .int .i64 x.a, .int .i64 x.b, .slice a1 lb c1, .slice a2 le c2] #[.int .i64 x.k, .int .i64 x.a, .int .i64 x.b, .slice a3 lb c3, .slice a4 le c4])) F0 ?_
  rintro U F1
  clear F0
  obtain ⟨p0, p1, p2, p3, p4⟩ := blk5 F1.out.par
  obtain ⟨o0, o1, o2, o3, o4⟩ := blk5 F1.out.par'
  go_wp2_with fail
  refine (HS.out _ _ x.body U (H.out.1.keep F1.out.bel (Nat.le_refl _)) (H.out.2.2.1.keep F1.out.bel (Nat.le_refl _)) H.out.2.2.2.2.1).mono ?_
  rintro e u1 ⟨rfl, b1⟩
  have F2 : Hid _ := F1.out.keep b1
  clear b1 F1 p0 p1 p2 p3 p4 o0 o1 o2 o3 o4
  obtain ⟨p0, p1, p2, p3, p4⟩ := blk5 F2.out.par
  obtain ⟨o0, o1, o2, o3, o4⟩ := blk5 F2.out.par'
  go_wp2_with fail
  refine (HS.out _ _ x.els u1 (H.out.2.1.keep F2.out.bel (Nat.le_refl _)) (H.out.2.2.2.1.keep F2.out.bel (Nat.le_refl _)) H.out.2.2.2.2.2).mono ?_
  rintro e u2 ⟨rfl, b2⟩
  have F3 : Hid (Below w.heap.size w u2) := below_on F2.out.bel (Nat.le_refl _) b2
  clear b2 F2 p0 p1 p2 p3 p4 o0 o1 o2 o3 o4
  go_wp2_with fail
  go_ret
  exact ⟨rfl, F3.out⟩
set_option maxHeartbeats 2000000 in
set_option maxRecDepth 100000 in
theorem eqStmtS_none (a a' : Option Addr) (c c' : Nat) (w : World) : Calls Try.prog 8 #[.slice a 0 c, .slice a' 0 c'] w fun e w' => e = .returned (.bool true) ∧ Below w.heap.size w w' := by
  go_enter Try.func8, Try.ntmps8
  go_wp2_with fail
  go_loopw [5] (fun i wr => i = .int .i64 0 ∧ wr = w) (fun _ _ => 0)
  case atStart => exact ⟨rfl, rfl⟩
  case round =>
    obtain ⟨rfl, rfl⟩ := hrel
    go_wp2_with fail
    go_ret
    exact ⟨rfl, Below.refl _ _⟩
set_option maxHeartbeats 4000000 in
set_option maxRecDepth 100000 in
theorem eqStmtS_succ (n : Nat) (ih : EqIs n) (v v' : Value) (l : List (SS (TL n))) (w : World) (h : RdT w (n + 1) v l) (h' : RdT w (n + 1) v' l) (hsz : sizeT (n + 1) l ≤ 1048576) : Calls Try.prog 8 #[v, v'] w fun e w' => e = .returned (.bool true) ∧ Below w.heap.size w w' := by
  have HI : Hid (EqIs n) := ih
  obtain ⟨a1, c1, e1⟩ : ∃ a c, v = .slice a l.length c := h.is_slice
  obtain ⟨a2, c2, e2⟩ : ∃ a c, v' = .slice a l.length c := h'.is_slice
  subst e1 e2
  have H : Hid (RdT w (n + 1) (.slice a1 l.length c1) l ∧ RdT w (n + 1) (.slice a2 l.length c2) l ∧ sizeT (n + 1) l ≤ 1048576) := ⟨h, h', hsz⟩
  have hL : l.length ≤ 1048576 := by have := len_le_size (n + 1) l; have e : lenT (n + 1) l = l.length := rfl; omega
  clear h h' ih hsz
  generalize hLL : l.length = L at H hL ⊢
  have HL : Hid (l.length = L) := hLL
  clear hLL
  go_enter Try.func8, Try.ntmps8
  go_wp2_with fail
  go_loopw [5] (fun i wr => ∃ k : Nat, k ≤ L ∧ i = .int .i64 k ∧ Hid (Below w.heap.size w wr)) (fun i _ => L - (intOf i).toNat)
  case atStart => exact ⟨0, by omega, rfl, Below.refl _ _⟩
  case round =>
    obtain ⟨k, hk, rfl, HB⟩ := hrel
    by_cases hlt : k < L
    · obtain ⟨x, hx⟩ : ∃ x, l[k]? = some x := ⟨_, List.getElem?_eq_getElem (by rw [HL.out]; exact hlt)⟩
      obtain ⟨g, o, c, vb, ve, e1, i0, i1, i2, i3, i4, rb, re⟩ := (H.out.1.keep HB.out (Nat.le_refl _)).elem hx
      obtain ⟨g', o', c', vb', ve', e2, j0, j1, j2, j3, j4, rb', re'⟩ := (H.out.2.1.keep HB.out (Nat.le_refl _)).elem hx
      rw [HL.out] at e1 e2
      simp only [Value.slice.injEq, true_and] at e1 e2
      obtain ⟨rfl, rfl⟩ := e1
      obtain ⟨rfl, rfl⟩ := e2
      have HX : Hid (RdT wr n vb x.body ∧ RdT wr n ve x.els ∧ RdT wr n vb' x.body ∧ RdT wr n ve' x.els ∧ 1 + sizeT n x.body + sizeT n x.els ≤ 1048576) := ⟨rb, re, rb', re', Nat.le_trans (size_mem (List.mem_of_getElem? hx)) H.out.2.2⟩
      obtain ⟨ab, cb, rfl⟩ := rb.is_slice
      obtain ⟨ae, ce, rfl⟩ := re.is_slice
      obtain ⟨ab', cb', rfl⟩ := rb'.is_slice
      obtain ⟨ae', ce', rfl⟩ := re'.is_slice
      clear rb re rb' re' hx
      go_wp2_with fail
      go_region_with (go_at_call 14; refine (eqStmt_same n HI.out x _ _ _ _ _ (HX.out.1.keep (below_drew1 _) (Nat.le_refl _)) (HX.out.2.1.keep (below_drew1 _) (Nat.le_refl _)) (HX.out.2.2.1.keep (below_drew1 _) (Nat.le_refl _)) (HX.out.2.2.2.1.keep (below_drew1 _) (Nat.le_refl _)) (by have := HX.out.2.2.2.2; omega) (by have := HX.out.2.2.2.2; omega)).mono ?_; rintro e u ⟨rfl, hbu⟩)
      all_goals
        have HB2 : Hid (Below w.heap.size w u) := HB.out.trans (below_drew_trans hbu HB.out.size)
        clear hbu HB i0 i1 i2 i3 i4 j0 j1 j2 j3 j4
        go_wp2
        go_roundw
        case rel => exact ⟨k + 1, by omega, by go_num, HB2⟩
        case measure => simp [intOf]; omega
    · go_wp2
      go_ret
      exact ⟨rfl, HB.out⟩
theorem eqStmtS_any (n : Nat) : EqIs n := by
  induction n with
  | zero =>
    intro v v' t w h h' hs
    obtain ⟨a, c, rfl⟩ := h
    obtain ⟨a', c', rfl⟩ := h'
    exact eqStmtS_none a a' c c' w
  | succ n ih => exact fun v v' t w h h' hs => eqStmtS_succ n ih v v' t w h h' hs
end Go.Proofs.Ytjlnglgfehefdaa
