import Derived.Test.YtalkpddhpmjgcaaGreatCm4
import Derived.Deep.RegionWith
import Derived.Test.YtalkpddhpmjgcaaGreatCm3
namespace Go.Proofs.YtalkpddhpmjgcaaGreat
open Go.ChangeShapes Go.WideShapes Go.ChangeAt Go.RowKit
set_option linter.unusedVariables false
theorem below_drew_transK {w u : World} {B : Nat} (h : Below w.drew.heap.size w.drew u) (hB : B ≤ w.heap.size) : Below B w u := by
  have h2 := h.mono (show B ≤ w.drew.heap.size from hB)
  exact (⟨rfl, rfl, rfl, Nat.le_refl _, fun _ _ => rfl⟩ : Below B w w.drew).trans h2
/-- What eqStmtS is asked for. -/
def EqIs (n : Nat) : Prop := ∀ (v v' : Value) (t : TL n) (w : World), RdT w n v t → RdT w n v' t → sizeT n t ≤ 1048576 → Calls Tryz.prog 11 #[v, v'] w fun e w' => e = .returned (.bool true) ∧ Below w.heap.size w w'
/-- Two blocks of statements. -/
structure Eq2 (w u : World) (p r : Array Value) : Prop where
  par : Blk u w.heap.size p 54
  par' : Blk u (w.heap.size + 1) r 54
  bel : Below w.heap.size w u
theorem Eq2.keep {w u u' : World} {p r : Array Value} (h : Eq2 w u p r) (hb : Below u.heap.size u u') : Eq2 w u' p r := ⟨h.par.keep hb, h.par'.keep hb, below_on h.bel (Nat.le_refl _) hb⟩
theorem Eq2.of (w : World) (p r : Array Value) : Eq2 w ((w.alloc (.cells p 54)).alloc (.cells r 54)) p r := by
  have b1 := below_alloc w (.cells p 54)
  have b2 := below_alloc (w.alloc (.cells p 54)) (.cells r 54)
  have e1 : (w.alloc (.cells p 54)).heap.size = w.heap.size + 1 := by simp
  refine ⟨(Blk.new w p _).keep b2, ?_, below_on b1 (Nat.le_refl _) b2⟩
  have := Blk.new (w.alloc (.cells p 54)) r 54
  rw [e1] at this
  exact this
set_option maxHeartbeats 2000000 in
set_option maxRecDepth 100000 in
theorem eqStmt_same (n : Nat) (hS : EqIs n) (x : SS (TL n)) (vb ve vb' ve' : Value) (w : World) (hb : RdT w n vb x.body) (he : RdT w n ve x.els) (hb' : RdT w n vb' x.body) (he' : RdT w n ve' x.els) (h1 : sizeT n x.body ≤ 1048576) (h2 : sizeT n x.els ≤ 1048576) :
    Calls Tryz.prog 31 #[.agg #[.int .i64 x.k, .int .i64 x.a, .int .i64 x.b, vb, ve], .agg #[.int .i64 x.k, .int .i64 x.a, .int .i64 x.b, vb', ve']] w fun e w' => e = .returned (.bool true) ∧ Below w.heap.size w w' := by
  have HS : Hid (EqIs n) := hS
  obtain ⟨a1, c1, rfl⟩ := hb.is_slice
  obtain ⟨a2, c2, rfl⟩ := he.is_slice
  obtain ⟨a3, c3, rfl⟩ := hb'.is_slice
  obtain ⟨a4, c4, rfl⟩ := he'.is_slice
  have H : Hid (RdT w n (.slice a1 (lenT n x.body) c1) x.body ∧ RdT w n (.slice a2 (lenT n x.els) c2) x.els ∧ RdT w n (.slice a3 (lenT n x.body) c3) x.body ∧ RdT w n (.slice a4 (lenT n x.els) c4) x.els ∧ sizeT n x.body ≤ 1048576 ∧ sizeT n x.els ≤ 1048576) := ⟨hb, he, hb', he', h1, h2⟩
  clear hb he hb' he' h1 h2 hS
  generalize lenT n x.body = lb at H ⊢
  generalize lenT n x.els = le at H ⊢
  have F0 : Hid _ := Eq2.of w #[.int .i64 x.k, .int .i64 x.a, .int .i64 x.b, .slice a1 lb c1, .slice a2 le c2] #[.int .i64 x.k, .int .i64 x.a, .int .i64 x.b, .slice a3 lb c3, .slice a4 le c4]
  go_enter Tryz.func31, Tryz.ntmps31
  go_upto_region 1 with fail
  refine wp_world (fun u => Hid (Eq2 w u #[.int .i64 x.k, .int .i64 x.a, .int .i64 x.b, .slice a1 lb c1, .slice a2 le c2] #[.int .i64 x.k, .int .i64 x.a, .int .i64 x.b, .slice a3 lb c3, .slice a4 le c4])) F0 ?_
  rintro U F1
  clear F0
  obtain ⟨p0, p1, p2, p3, p4⟩ := blk5 F1.out.par
  obtain ⟨o0, o1, o2, o3, o4⟩ := blk5 F1.out.par'
  go_wp2_with fail
  refine (HS.out _ _ x.body U (H.out.1.keep F1.out.bel (Nat.le_refl _)) (H.out.2.2.1.keep F1.out.bel (Nat.le_refl _)) H.out.2.2.2.2.1).mono ?_
  rintro e u1 ⟨rfl, b1⟩
  have F2 : Hid _ := F1.out.keep b1
  clear b1 F1 p0 p1 p2 p3 p4 o0 o1 o2 o3 o4
  obtain ⟨p0, p1, p2, p3, p4⟩ := blk5 F2.out.par
  obtain ⟨o0, o1, o2, o3, o4⟩ := blk5 F2.out.par'
  go_wp2_with fail
  refine (HS.out _ _ x.els u1 (H.out.2.1.keep F2.out.bel (Nat.le_refl _)) (H.out.2.2.2.1.keep F2.out.bel (Nat.le_refl _)) H.out.2.2.2.2.2).mono ?_
  rintro e u2 ⟨rfl, b2⟩
  have F3 : Hid (Below w.heap.size w u2) := below_on F2.out.bel (Nat.le_refl _) b2
  clear b2 F2 p0 p1 p2 p3 p4 o0 o1 o2 o3 o4
  go_wp2_with fail
  go_ret
  exact ⟨rfl, F3.out⟩
set_option maxHeartbeats 2000000 in
set_option maxRecDepth 100000 in
theorem eqStmtS_none (a a' : Option Addr) (c c' : Nat) (w : World) : Calls Tryz.prog 11 #[.slice a 0 c, .slice a' 0 c'] w fun e w' => e = .returned (.bool true) ∧ Below w.heap.size w w' := by
  go_enter Tryz.func11, Tryz.ntmps11
  go_wp2_with fail
  go_loopw [5] (fun i wr => i = .int .i64 0 ∧ wr = w) (fun _ _ => 0)
  case atStart => exact ⟨rfl, rfl⟩
  case round =>
    obtain ⟨rfl, rfl⟩ := hrel
    go_wp2_with fail
    go_ret
    exact ⟨rfl, Below.refl _ _⟩
set_option maxHeartbeats 4000000 in
set_option maxRecDepth 100000 in
theorem eqStmtS_succ (n : Nat) (ih : EqIs n) (v v' : Value) (l : List (SS (TL n))) (w : World) (h : RdT w (n + 1) v l) (h' : RdT w (n + 1) v' l) (hsz : sizeT (n + 1) l ≤ 1048576) : Calls Tryz.prog 11 #[v, v'] w fun e w' => e = .returned (.bool true) ∧ Below w.heap.size w w' := by
  have HI : Hid (EqIs n) := ih
  obtain ⟨a1, c1, e1⟩ : ∃ a c, v = .slice a l.length c := h.is_slice
  obtain ⟨a2, c2, e2⟩ : ∃ a c, v' = .slice a l.length c := h'.is_slice
  subst e1 e2
  have H : Hid (RdT w (n + 1) (.slice a1 l.length c1) l ∧ RdT w (n + 1) (.slice a2 l.length c2) l ∧ sizeT (n + 1) l ≤ 1048576) := ⟨h, h', hsz⟩
  have hL : l.length ≤ 1048576 := by have := len_le_size (n + 1) l; have e : lenT (n + 1) l = l.length := rfl; omega
  clear h h' ih hsz
  generalize hLL : l.length = L at H hL ⊢
  have HL : Hid (l.length = L) := hLL
  clear hLL
  go_enter Tryz.func11, Tryz.ntmps11
  go_wp2_with fail
  go_loopw [5] (fun i wr => ∃ k : Nat, k ≤ L ∧ i = .int .i64 k ∧ Hid (Below w.heap.size w wr)) (fun i _ => L - (intOf i).toNat)
  case atStart => exact ⟨0, by omega, rfl, Below.refl _ _⟩
  case round =>
    obtain ⟨k, hk, rfl, HB⟩ := hrel
    by_cases hlt : k < L
    · obtain ⟨x, hx⟩ : ∃ x, l[k]? = some x := ⟨_, List.getElem?_eq_getElem (by rw [HL.out]; exact hlt)⟩
      obtain ⟨g, o, c, vb, ve, e1, i0, i1, i2, i3, i4, rb, re⟩ := (H.out.1.keep HB.out (Nat.le_refl _)).elem hx
      obtain ⟨g', o', c', vb', ve', e2, j0, j1, j2, j3, j4, rb', re'⟩ := (H.out.2.1.keep HB.out (Nat.le_refl _)).elem hx
      rw [HL.out] at e1 e2
      simp only [Value.slice.injEq, true_and] at e1 e2
      obtain ⟨rfl, rfl⟩ := e1
      obtain ⟨rfl, rfl⟩ := e2
      have HX : Hid (RdT wr n vb x.body ∧ RdT wr n ve x.els ∧ RdT wr n vb' x.body ∧ RdT wr n ve' x.els ∧ 1 + sizeT n x.body + sizeT n x.els ≤ 1048576) := ⟨rb, re, rb', re', Nat.le_trans (size_mem (List.mem_of_getElem? hx)) H.out.2.2⟩
      obtain ⟨ab, cb, rfl⟩ := rb.is_slice
      obtain ⟨ae, ce, rfl⟩ := re.is_slice
      obtain ⟨ab', cb', rfl⟩ := rb'.is_slice
      obtain ⟨ae', ce', rfl⟩ := re'.is_slice
      clear rb re rb' re' hx
      go_wp2_with fail
      go_region_with (go_at_call 31; refine (eqStmt_same n HI.out x _ _ _ _ _ (HX.out.1.keep (below_drew1 _) (Nat.le_refl _)) (HX.out.2.1.keep (below_drew1 _) (Nat.le_refl _)) (HX.out.2.2.1.keep (below_drew1 _) (Nat.le_refl _)) (HX.out.2.2.2.1.keep (below_drew1 _) (Nat.le_refl _)) (by have := HX.out.2.2.2.2; omega) (by have := HX.out.2.2.2.2; omega)).mono ?_; rintro e u ⟨rfl, hbu⟩)
      all_goals
        have HB2 : Hid (Below w.heap.size w u) := HB.out.trans (below_drew_transK hbu HB.out.size)
        clear hbu HB i0 i1 i2 i3 i4 j0 j1 j2 j3 j4
        go_wp2
        go_roundw
        case rel => exact ⟨k + 1, by omega, by go_num, HB2⟩
        case measure => simp [intOf]; omega
    · go_wp2
      go_ret
      exact ⟨rfl, HB.out⟩
theorem eqStmtS_any (n : Nat) : EqIs n := by
  induction n with
  | zero =>
    intro v v' t w h h' hs
    obtain ⟨a, c, rfl⟩ := h
    obtain ⟨a', c', rfl⟩ := h'
    exact eqStmtS_none a a' c c' w
  | succ n ih => exact fun v v' t w h h' hs => eqStmtS_succ n ih v v' t w h h' hs
end Go.Proofs.YtalkpddhpmjgcaaGreat
namespace Go.Proofs.YtalkpddhpmjgcaaGreat
open Go.ChangeShapes Go.WideShapes Go.ChangeAt Go.RowKit
set_option linter.unusedVariables false
/-- Blocks outside of R are as they were. -/
structure Chg (R : Nat → Prop) (u u' : World) : Prop where
  os : u'.os = u.os
  tape : u'.tape = u.tape
  output : u'.output = u.output
  size : u.heap.size ≤ u'.heap.size
  block : ∀ k, k < u.heap.size → ¬ R k → u'.heap[k]? = u.heap[k]?
theorem Chg.of {R : Nat → Prop} {u u' : World} (h : Below u.heap.size u u') : Chg R u u' := ⟨h.os, h.tape, h.output, h.size, fun k hk _ => h.block k hk⟩
theorem Chg.refl (R : Nat → Prop) (u : World) : Chg R u u := ⟨rfl, rfl, rfl, Nat.le_refl _, fun _ _ _ => rfl⟩
theorem Chg.trans {R R' : Nat → Prop} {a b c : World} (h : Chg R a b) (h' : Chg R' b c) (hR : ∀ k, k < a.heap.size → R' k → R k) : Chg R a c := ⟨h'.os.trans h.os, h'.tape.trans h.tape, h'.output.trans h.output, Nat.le_trans h.size h'.size, fun k hk hn => (h'.block k (Nat.lt_of_lt_of_le hk h.size) (fun e => hn (hR k hk e))).trans (h.block k hk hn)⟩
theorem Chg.on {R : Nat → Prop} {a b c : World} (h : Chg R a b) (h' : Chg R b c) : Chg R a c := h.trans h' (fun _ _ e => e)
theorem Chg.below {R : Nat → Prop} {a b : World} (h : Chg R a b) {B : Nat} (hB : B ≤ a.heap.size) (hR : ∀ k, k < B → ¬ R k) : Below B a b := ⟨h.os, h.tape, h.output, h.size, fun k hk => h.block k (by omega) (hR k hk)⟩
theorem Chg.blk {R : Nat → Prop} {a b : World} (h : Chg R a b) {g : Nat} {cur : Array Value} {ty : TypeId} (hg : Blk a g cur ty) (hn : ¬ R g) : Blk b g cur ty := by
  unfold Blk at *
  rw [h.block g (Array.getElem?_eq_some_iff.1 hg).1 hn]
  exact hg
theorem Chg.setCell {R : Nat → Prop} {a b : World} (h : Chg R a b) {ad : Addr} (ha : R ad.block ∨ a.heap.size ≤ ad.block) (x : Value) : Chg R a (b.setCell ad x) := by
  refine ⟨h.os, h.tape, h.output, by rw [World.size_setCell]; exact h.size, fun k hk hn => ?_⟩
  have hne : k ≠ ad.block := fun e => by
    rcases ha with ha | ha
    · exact hn (e ▸ ha)
    · omega
  rw [Below.heap_setCell _ _ _ _ hne]
  exact h.block k hk hn
theorem Chg.grown {R : Nat → Prop} {a b c : World} (h : Chg R a b) {r : Option Nat} (hg : b.grownBy c r) (hr : ∀ k, k < a.heap.size → some k = r → R k) : Chg R a c := ⟨hg.os.trans h.os, hg.tape.trans h.tape, hg.output.trans h.output, Nat.le_trans h.size hg.size, fun k hk hn => (hg.block k (Nat.lt_of_lt_of_le hk h.size) (fun e => hn (hr k hk e))).trans (h.block k hk hn)⟩
theorem Chg.own {R : Nat → Prop} {u u' : World} (hc : Chg R u u') {B : Nat} {e : TypeId} {k n : Nat} {s : Value} {xs : List Value} (h : u.ownsRow B e k s n xs) (hn : ∀ b, s.ownBlock = some b → ¬ R b) : u'.ownsRow B e k s n xs := by
  refine ⟨h.1, ?_⟩
  rcases h.2 with h2 | ⟨g, cap, cur, e1, hb1, hg, hr⟩
  · exact .inl h2
  · refine .inr ⟨g, cap, cur, e1, hb1, ?_, hr⟩
    rw [hc.block g (Array.getElem?_eq_some_iff.1 hg).1 (hn g (by rw [e1]; rfl))]
    exact hg
theorem Chg.cell {R : Nat → Prop} {u u' : World} (h : Chg R u u') {ad : Addr} {v : Value} (hc : u.cell? ad = some v) (hn : ¬ R ad.block) : u'.cell? ad = some v := by
  rw [World.cell?_of_block (h.block _ (block_lt_of_cell hc) hn)]
  exact hc
end Go.Proofs.YtalkpddhpmjgcaaGreat
namespace Go.Proofs.YtalkpddhpmjgcaaGreat
open Go.ChangeShapes Go.WideShapes Go.ChangeAt Go.RowKit
set_option linter.unusedVariables false
theorem Chg.onB {R : Nat → Prop} {a b c : World} (h : Chg R a b) (h' : Below b.heap.size b c) : Chg R a c := h.trans (Chg.of (R := R) h') (fun _ _ e => e)
end Go.Proofs.YtalkpddhpmjgcaaGreat
