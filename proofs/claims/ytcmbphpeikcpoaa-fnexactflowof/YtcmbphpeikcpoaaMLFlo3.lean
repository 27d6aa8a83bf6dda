/- LFlo1, LFlo2, LFlo3 -/
import Derived.Test.YtcmbphpeikcpoaaFImpl12
/- LFlo1: loops and flows compared. -/
namespace Go.Proofs.Ytcmbphpeikcpoaa
open Go.ChangeShapes Go.WideShapes Go.ChangeAt Go.RowKit
set_option linter.unusedVariables false
def ML.small (f : ML) : Prop := f.back.length ≤ 1048576 ∧ f.blocks.length ≤ 1048576
theorem RdL.keep {w w' : World} {y : ML × Value × Value} (h : RdL w y) {B : Nat} (hb : Below B w w') (hB : w.heap.size ≤ B) : RdL w' y := ⟨h.1.keep hb hB, h.2.keep hb hB⟩
/-- Two arguments, each in a block of its own. -/
structure Two (w u : World) (x y : Array Value) (t : TypeId) : Prop where
  a : Blk u w.heap.size x t
  b : Blk u (w.heap.size + 1) y t
theorem Two.new (w : World) (x y : Array Value) (t : TypeId) : Two w ((w.alloc (.cells x t)).alloc (.cells y t)) x y t := by
  have h := Blk.new (w.alloc (.cells x t)) y t
  rw [show (w.alloc (.cells x t)).heap.size = w.heap.size + 1 from Array.size_push _] at h
  exact ⟨(Blk.new w x t).keep (below_alloc _ _), h⟩
theorem Two.keep {w u u' : World} {x y : Array Value} {t : TypeId} (h : Two w u x y t) (hb : Below u.heap.size u u') : Two w u' x y t := ⟨h.a.keep hb, h.b.keep hb⟩
set_option maxHeartbeats 2000000 in
set_option maxRecDepth 100000 in
theorem eqLoop_same (v1 v2 v1' v2' : Value) (f : ML) (w : World) (hs : f.small) (h : RdL w (f, v1, v2)) (h' : RdL w (f, v1', v2')) :
    Calls Try.prog 58 #[.agg #[.int .i64 f.head, v1, v2], .agg #[.int .i64 f.head, v1', v2']] w fun e w' => e = .returned (.bool true) ∧ Below w.heap.size w w' := by
  have B0 : Hid (Below w.heap.size w ((w.alloc (.cells #[.int .i64 f.head, v1, v2] 62)).alloc (.cells #[.int .i64 f.head, v1', v2'] 62))) := below_on (below_alloc _ _) (Nat.le_refl _) (below_alloc _ _)
  have T0 : Hid (Two w ((w.alloc (.cells #[.int .i64 f.head, v1, v2] 62)).alloc (.cells #[.int .i64 f.head, v1', v2'] 62)) #[.int .i64 f.head, v1, v2] #[.int .i64 f.head, v1', v2'] 62) := Two.new _ _ _ _
  have H : Hid (RdL w (f, v1, v2) ∧ RdL w (f, v1', v2') ∧ f.small) := ⟨h, h', hs⟩
  clear h h' hs
  go_enter Try.func58, Try.ntmps58
  go_wp2_with fail
  refine (eqInt64S_same v1 v1' f.back _ (Nat.le_trans H.out.2.2.1 (by omega)) (Rd.keep H.out.1.1 B0.out (Nat.le_refl _)) (Rd.keep H.out.2.1.1 B0.out (Nat.le_refl _))).mono ?_
  rintro e u1 ⟨rfl, b1⟩
  have B1 : Hid (Below w.heap.size w u1) := below_on B0.out (Nat.le_refl _) b1
  have T1 := T0.out.keep b1
  have c1 : u1.cell? ⟨w.heap.size, 2, none⟩ = some v2 := T1.a.cell 2
  have c2 : u1.cell? ⟨w.heap.size + 1, 2, none⟩ = some v2' := T1.b.cell 2
  clear b1 B0 T0 T1
  go_wp2_with fail
  refine (eqInt64S_same v2 v2' f.blocks _ (Nat.le_trans H.out.2.2.2 (by omega)) (Rd.keep H.out.1.2 B1.out (Nat.le_refl _)) (Rd.keep H.out.2.1.2 B1.out (Nat.le_refl _))).mono ?_
  rintro e u2 ⟨rfl, b2⟩
  have B2 : Hid (Below w.heap.size w u2) := below_on B1.out (Nat.le_refl _) b2
  clear b2 B1
  go_wp2
  go_ret
  exact ⟨rfl, B2.out⟩
set_option maxHeartbeats 2000000 in
set_option maxRecDepth 100000 in
theorem eqLoopS_same (s s' : Value) (fs : List ML) (w : World) (hL : fs.length ≤ 1048576) (hs : ∀ f ∈ fs, f.small) (h : RdLs w s fs) (h' : RdLs w s' fs) :
    Calls Try.prog 41 #[s, s'] w fun e w' => e = .returned (.bool true) ∧ Below w.heap.size w w' := by
  obtain ⟨xs, hxs, hrd, hel⟩ := h
  obtain ⟨xs', hxs', hrd', hel'⟩ := h'
  have hxl : xs.length = fs.length := by rw [← hxs]; simp
  have hxl' : xs'.length = fs.length := by rw [← hxs']; simp
  have H1 : Hid (Rd w 3 s fs.length (xs.flatMap lCells) ∧ xs.map Prod.fst = fs ∧ (∀ x ∈ xs, RdL w x) ∧ (∀ f ∈ fs, f.small) ∧ xs.length = fs.length) := ⟨hrd, hxs, hel, hs, hxl⟩
  have H2 : Hid (Rd w 3 s' fs.length (xs'.flatMap lCells) ∧ xs'.map Prod.fst = fs ∧ (∀ x ∈ xs', RdL w x) ∧ (∀ f ∈ fs, f.small) ∧ xs'.length = fs.length) := ⟨hrd', hxs', hel', hs, hxl'⟩
  obtain ⟨a1, c1, rfl⟩ := hrd.is_slice
  obtain ⟨a2, c2, rfl⟩ := hrd'.is_slice
  clear hrd hxs hel hs hxl hrd' hxs' hel' hxl'
  generalize hLL : fs.length = n at hL H1 H2
  clear hLL
  go_enter Try.func41, Try.ntmps41
  go_wp2
  go_loopw [5] (fun i wr => ∃ k : Nat, k ≤ n ∧ i = .int .i64 k ∧ Below w.heap.size w wr) (fun i _ => n - (intOf i).toNat)
  case atStart => exact ⟨0, by omega, rfl, Below.refl _ _⟩
  case round =>
    obtain ⟨k, hk, rfl, hbel⟩ := hrel
    have HB : Hid (Below w.heap.size w wr) := hbel
    clear hbel
    by_cases hlt : k < n
    · obtain ⟨⟨f, v1, v2⟩, hx⟩ : ∃ x, xs[k]? = some x := ⟨_, List.getElem?_eq_getElem (by rw [H1.out.2.2.2.2]; exact hlt)⟩
      obtain ⟨⟨f', v1', v2'⟩, hx'⟩ : ∃ x, xs'[k]? = some x := ⟨_, List.getElem?_eq_getElem (by rw [H2.out.2.2.2.2]; exact hlt)⟩
      have e1 := fst_at H1.out.2.1 hx
      have e2 := fst_at H2.out.2.1 hx'
      have hff : f' = f := by
        rw [e1] at e2
        exact (Option.some.inj e2).symm
      subst hff
      have HX : Hid (RdL wr (f', v1, v2) ∧ RdL wr (f', v1', v2') ∧ f'.small) := ⟨(H1.out.2.2.1 _ (List.mem_of_getElem? hx)).keep HB.out (Nat.le_refl _), (H2.out.2.2.1 _ (List.mem_of_getElem? hx')).keep HB.out (Nat.le_refl _), H1.out.2.2.2.1 _ (List.mem_of_getElem? e1)⟩
      clear e1 e2
      rcases H1.out.1.2 with ⟨e0, _⟩ | ⟨g, o, c, e1, hc1⟩
      · omega
      · rcases H2.out.1.2 with ⟨e0, _⟩ | ⟨g', o', c', e2, hc2⟩
        · omega
        · simp only [Value.slice.injEq, true_and] at e1 e2
          obtain ⟨rfl, rfl⟩ := e1
          obtain ⟨rfl, rfl⟩ := e2
          have i0 := Rd.elem lCells_length hc1 k _ hx 0 _ rfl
          have i1 := Rd.elem lCells_length hc1 k _ hx 1 _ rfl
          have i2 := Rd.elem lCells_length hc1 k _ hx 2 _ rfl
          have j0 := Rd.elem lCells_length hc2 k _ hx' 0 _ rfl
          have j1 := Rd.elem lCells_length hc2 k _ hx' 1 _ rfl
          have j2 := Rd.elem lCells_length hc2 k _ hx' 2 _ rfl
          rw [← HB.out.cell (block_lt_of_cell i0), Nat.add_zero] at i0
          rw [← HB.out.cell (block_lt_of_cell i1)] at i1
          rw [← HB.out.cell (block_lt_of_cell i2)] at i2
          rw [← HB.out.cell (block_lt_of_cell j0), Nat.add_zero] at j0
          rw [← HB.out.cell (block_lt_of_cell j1)] at j1
          rw [← HB.out.cell (block_lt_of_cell j2)] at j2
          clear hc1 hc2 hx hx'
          simp only [] at i0 i1 i2 j0 j1 j2
          go_wp2_with fail
          go_region_with (go_at_call 58; refine (eqLoop_same v1 v2 v1' v2' f' _ HX.out.2.2 (by exact HX.out.1) (by exact HX.out.2.1)).mono ?_; rintro e u ⟨rfl, hbu⟩)
          all_goals
            have HB2 : Hid (Below w.heap.size w u) := HB.out.trans (below_drew_trans hbu HB.out.size)
            clear hbu HB i0 i1 i2 j0 j1 j2
            go_wp2
            go_roundw
            case rel => exact ⟨k + 1, by omega, by go_num, HB2.out⟩
            case measure => simp [intOf]; omega
    · go_wp2
      go_ret
      exact ⟨rfl, HB.out⟩
def MFl.small (r : MFl) : Prop := r.blocks.length ≤ 1048576 ∧ (∀ f ∈ r.blocks, f.small) ∧ r.order.length ≤ 1048576 ∧ r.idom.length ≤ 1048576 ∧ r.loops.length ≤ 1048576 ∧ ∀ f ∈ r.loops, f.small
theorem RdFl.keep {w w' : World} {vb vo vi vl : Value} {r : MFl} (h : RdFl w vb vo vi vl r) {B : Nat} (hb : Below B w w') (hB : w.heap.size ≤ B) : RdFl w' vb vo vi vl r := ⟨h.blocks.keep hb hB, h.order.keep hb hB, h.idom.keep hb hB, h.loops.keep hb hB⟩
def flV (r : MFl) (vb vo vi vl : Value) : Value := .agg #[.int .i64 r.code, .int .i64 r.at_, vb, vo, vi, vl]
set_option maxHeartbeats 2000000 in
set_option maxRecDepth 100000 in
theorem eqFlow_same (vb vo vi vl vb' vo' vi' vl' : Value) (r : MFl) (w : World) (hs : r.small) (h : RdFl w vb vo vi vl r) (h' : RdFl w vb' vo' vi' vl' r) :
    Calls Try.prog 16 #[.agg #[.int .i64 r.code, .int .i64 r.at_, vb, vo, vi, vl], .agg #[.int .i64 r.code, .int .i64 r.at_, vb', vo', vi', vl']] w fun e w' => e = .returned (.bool true) ∧ Below w.heap.size w w' := by
  have B0 : Hid (Below w.heap.size w ((w.alloc (.cells #[.int .i64 r.code, .int .i64 r.at_, vb, vo, vi, vl] 36)).alloc (.cells #[.int .i64 r.code, .int .i64 r.at_, vb', vo', vi', vl'] 36))) := below_on (below_alloc _ _) (Nat.le_refl _) (below_alloc _ _)
  have T0 : Hid (Two w ((w.alloc (.cells #[.int .i64 r.code, .int .i64 r.at_, vb, vo, vi, vl] 36)).alloc (.cells #[.int .i64 r.code, .int .i64 r.at_, vb', vo', vi', vl'] 36)) #[.int .i64 r.code, .int .i64 r.at_, vb, vo, vi, vl] #[.int .i64 r.code, .int .i64 r.at_, vb', vo', vi', vl'] 36) := Two.new _ _ _ _
  have H : Hid (RdFl w vb vo vi vl r ∧ RdFl w vb' vo' vi' vl' r ∧ r.small) := ⟨h, h', hs⟩
  clear h h' hs
  go_enter Try.func16, Try.ntmps16
  go_wp2_with fail
  refine (eqBlockS_same vb vb' r.blocks _ H.out.2.2.1 H.out.2.2.2.1 (H.out.1.blocks.keep B0.out (Nat.le_refl _)) (H.out.2.1.blocks.keep B0.out (Nat.le_refl _))).mono ?_
  rintro e u1 ⟨rfl, b1⟩
  have B1 : Hid (Below w.heap.size w u1) := below_on B0.out (Nat.le_refl _) b1
  have T1 : Hid _ := T0.out.keep b1
  have c1 : u1.cell? ⟨w.heap.size, 3, none⟩ = some vo := T1.out.a.cell 3
  have d1 : u1.cell? ⟨w.heap.size + 1, 3, none⟩ = some vo' := T1.out.b.cell 3
  clear b1 B0 T0
  go_wp2_with fail
  refine (eqInt64S_same vo vo' r.order _ (Nat.le_trans H.out.2.2.2.2.1 (by omega)) (H.out.1.order.keep B1.out (Nat.le_refl _)) (H.out.2.1.order.keep B1.out (Nat.le_refl _))).mono ?_
  rintro e u2 ⟨rfl, b2⟩
  have B2 : Hid (Below w.heap.size w u2) := below_on B1.out (Nat.le_refl _) b2
  have T2 : Hid _ := T1.out.keep b2
  have c2 : u2.cell? ⟨w.heap.size, 4, none⟩ = some vi := T2.out.a.cell 4
  have d2 : u2.cell? ⟨w.heap.size + 1, 4, none⟩ = some vi' := T2.out.b.cell 4
  clear b2 B1 T1
  go_wp2_with fail
  refine (eqInt64S_same vi vi' r.idom _ (Nat.le_trans H.out.2.2.2.2.2.1 (by omega)) (H.out.1.idom.keep B2.out (Nat.le_refl _)) (H.out.2.1.idom.keep B2.out (Nat.le_refl _))).mono ?_
  rintro e u3 ⟨rfl, b3⟩
  have B3 : Hid (Below w.heap.size w u3) := below_on B2.out (Nat.le_refl _) b3
  have T3 : Hid _ := T2.out.keep b3
  have c3 : u3.cell? ⟨w.heap.size, 5, none⟩ = some vl := T3.out.a.cell 5
  have d3 : u3.cell? ⟨w.heap.size + 1, 5, none⟩ = some vl' := T3.out.b.cell 5
  clear b3 B2 T2
  go_wp2_with fail
  refine (eqLoopS_same vl vl' r.loops _ H.out.2.2.2.2.2.2.1 H.out.2.2.2.2.2.2.2 (H.out.1.loops.keep B3.out (Nat.le_refl _)) (H.out.2.1.loops.keep B3.out (Nat.le_refl _))).mono ?_
  rintro e u4 ⟨rfl, b4⟩
  have B4 : Hid (Below w.heap.size w u4) := below_on B3.out (Nat.le_refl _) b4
  clear b4 B3
  go_wp2
  go_ret
  exact ⟨rfl, B4.out⟩
end Go.Proofs.Ytcmbphpeikcpoaa
/- LFlo2: markLoopS, heldLoopS to the letter. -/
namespace Go.Proofs.Ytcmbphpeikcpoaa
open Go.ChangeShapes Go.WideShapes Go.ChangeAt Go.RowKit
set_option linter.unusedVariables false
def markL (k : Int) (x : ML × Value × Value) : ML × Value × Value := (⟨k, markIs (k + 1) x.1.back.length, markIs (k + 1 + (x.1.back.length : Int)) x.1.blocks.length⟩, x.2)
def nextL (k : Int) (x : ML × Value × Value) : Int := k + 1 + (x.1.back.length : Int) + (x.1.blocks.length : Int)
def markLs : Int → List (ML × Value × Value) → List (ML × Value × Value)
  | _, [] => []
  | k, x :: r => markL k x :: markLs (nextL k x) r
def endL : Int → List (ML × Value × Value) → Int
  | k, [] => k
  | k, x :: r => endL (nextL k x) r
theorem endL_snoc (k : Int) (L : List (ML × Value × Value)) (x : ML × Value × Value) : endL k (L ++ [x]) = nextL (endL k L) x := by
  induction L generalizing k with
  | nil => rfl
  | cons y r ih => simp only [List.cons_append, endL]; exact ih _
theorem markLs_app (k : Int) (L M : List (ML × Value × Value)) : markLs k (L ++ M) = markLs k L ++ markLs (endL k L) M := by
  induction L generalizing k with
  | nil => rfl
  | cons y r ih => simp only [List.cons_append, markLs, endL]; rw [ih]
theorem markLs_snoc (k : Int) (L : List (ML × Value × Value)) (x : ML × Value × Value) : markLs k (L ++ [x]) = markLs k L ++ [markL (endL k L) x] := by rw [markLs_app]; rfl
theorem markLs_length (k : Int) (L : List (ML × Value × Value)) : (markLs k L).length = L.length := by
  induction L generalizing k with
  | nil => rfl
  | cons x r ih => simp [markLs, ih]
theorem endL_le (k : Int) (L : List (ML × Value × Value)) (h : ∀ x ∈ L, x.1.small) : k ≤ endL k L ∧ endL k L ≤ k + 2097153 * (L.length : Int) := by
  induction L generalizing k with
  | nil => simp [endL]
  | cons x r ih =>
    have h1 := h x (by simp)
    have h2 := ih (nextL k x) (fun y hy => h y (by simp [hy]))
    simp only [endL, List.length_cons]
    unfold nextL at h2 ⊢
    unfold ML.small at h1
    omega
/-- Rows of numbers and of loops from base on have turned; all else is as it was. -/
structure Wl (base : Nat) (w w' : World) : Prop where
  bel : Below base w w'
  blk : ∀ (k : Nat) (cur : Array Value) (t : TypeId), w.heap[k]? = some (Obj.cells cur t (0, 0)) → t ≠ 2 → t ≠ 62 → w'.heap[k]? = some (Obj.cells cur t (0, 0))
theorem Wl.refl (base : Nat) (w : World) : Wl base w w := ⟨Below.refl _ _, fun _ _ _ h _ _ => h⟩
theorem Wl.trans {base : Nat} {u v w : World} (h : Wl base u v) (h' : Wl base v w) : Wl base u w := ⟨h.bel.trans h'.bel, fun k cur t hk h1 h2 => h'.blk k cur t (h.blk k cur t hk h1 h2) h1 h2⟩
theorem Wv.wl {base : Nat} {w w' : World} (h : Wv base w w') : Wl base w w' := ⟨h.bel, fun k cur t hk h1 _ => h.blk k cur t hk h1⟩
theorem Wl.of_set {base g : Nat} {w : World} {cur : Array Value} (hg : w.heap[g]? = some (Obj.cells cur 62 (0, 0))) (hb : base ≤ g) (i : Nat) (x : Value) : Wl base w (w.setCell ⟨g, i, none⟩ x) := by
  refine ⟨(Below.refl _ _).setCell hb _, fun k c t hk h1 h2 => ?_⟩
  rw [heap_setCell_other w _ k x ?_]
  · exact hk
  · intro e
    simp only [] at e
    subst e
    rw [hk] at hg
    simp only [Option.some.injEq, Obj.cells.injEq] at hg
    exact h2 hg.2.1
theorem Wl.own {base b : Nat} {w w' : World} (h : Wl base w w') {e : TypeId} {s : Value} {k n : Nat} {xs : List Value} (ho : w.ownsRow b e k s n xs) (h1 : e ≠ 2) (h2 : e ≠ 62) : w'.ownsRow b e k s n xs := by
  refine ⟨ho.1, ?_⟩
  rcases ho.2 with h' | ⟨g, cap, cur, e1, hb1, hg, hr⟩
  · exact .inl h'
  · exact .inr ⟨g, cap, cur, e1, hb1, h.blk g cur e hg h1 h2, hr⟩
theorem set1of3 (A R : List Value) (z0 z1 z2 c0 : Value) (i : Nat) (h : A.length = i) : ((A ++ ([z0, z1, z2] ++ R)).set i c0) = A ++ ([c0, z1, z2] ++ R) := by
  subst h
  simp [List.set_append_right]
set_option maxHeartbeats 4000000 in
set_option maxRecDepth 100000 in
theorem markLoopS_ex (base : Nat) (s : Value) (A : List (Value × List Int)) (F : List (ML × Value × Value)) (k0 : Int) (w : World) (hB : base ≤ w.heap.size) (hn : F.length ≤ 1048576) (hr : ∀ x ∈ F, x.1.small) (h0 : 0 ≤ k0) (h1 : k0 ≤ 281474976710656) (h : w.ownsRow base 62 3 s F.length (F.flatMap lCells)) (hf : Fam w base (A ++ lrows F)) :
    Calls Try.prog 42 #[s, .int .i64 k0] w fun e w' => e = .returned (.int .i64 (endL k0 F)) ∧ w'.ownsRow base 62 3 s F.length ((markLs k0 F).flatMap lCells) ∧ Fam w' base (A ++ lrows (markLs k0 F)) ∧ Wl base w w' := by
  have H : Hid (w.ownsRow base 62 3 s F.length (F.flatMap lCells) ∧ (∀ x ∈ F, x.1.small)) := ⟨h, hr⟩
  have HF0 : Hid (Fam w base (A ++ lrows F)) := hf
  clear hr hf
  rcases own_row h with ⟨rfl, hz⟩ | ⟨g, c, rfl⟩
  · obtain rfl : F = [] := List.eq_nil_of_length_eq_zero hz
    clear h
    go_enter Try.func42, Try.ntmps42
    go_wp2
    go_loopw [1, 5] (fun q i wr => q = .int .i64 k0 ∧ i = .int .i64 0 ∧ wr = w) (fun _ _ _ => 0)
    case atStart => exact ⟨rfl, rfl, rfl⟩
    case round =>
      obtain ⟨rfl, rfl, rfl⟩ := hrel
      go_wp2
      go_ret
      exact ⟨rfl, H.out.1, HF0.out, Wl.refl _ _⟩
  · clear h
    generalize hLL : F.length = n at hn H ⊢
    have HL : Hid (F.length = n) := hLL
    clear hLL
    go_enter Try.func42, Try.ntmps42
    go_wp2
    go_loopw [1, 5] (fun q i wr => ∃ D E : List (ML × Value × Value), Hid (F = D ++ E) ∧ D.length ≤ n ∧ q = .int .i64 (endL k0 D) ∧ i = .int .i64 (D.length : Nat) ∧ Hid (wr.ownsRow base 62 3 (.slice (some ⟨g, 0, none⟩) n c) n ((markLs k0 D ++ E).flatMap lCells) ∧ Fam wr base (A ++ lrows (markLs k0 D) ++ lrows E) ∧ Wl base w wr)) (fun _ i _ => n - (intOf i).toNat)
    case atStart => exact ⟨[], F, rfl, by simp, rfl, rfl, ⟨by simpa [markLs] using H.out.1, by simpa [markLs, lrows] using HF0.out, Wl.refl _ _⟩⟩
    case round =>
      obtain ⟨D, E, HD, hk, rfl, rfl, HM⟩ := hrel
      have hlen : D.length + E.length = n := by have := HL.out; rw [HD.out, List.length_append] at this; exact this
      have hend := endL_le k0 D (fun x hx => H.out.2 x (by rw [HD.out]; simp [hx]))
      generalize hK : endL k0 D = K at hend ⊢
      have HK : Hid (endL k0 D = K) := hK
      clear hK
      cases E with
      | cons x E' =>
        obtain ⟨f, v, v2⟩ := x
        have hlt : D.length < n := by simp only [List.length_cons] at hlen; omega
        have hcl : f.back.length ≤ 1048576 ∧ f.blocks.length ≤ 1048576 := H.out.2 (f, v, v2) (by rw [HD.out]; simp)
        obtain ⟨hcl1, hcl2⟩ := hcl
        have hA : ((markLs k0 D).flatMap lCells).length = D.length * 3 := by rw [flat_length lCells 3 lCells_length, markLs_length]
        have hsp : (markLs k0 D ++ (f, v, v2) :: E').flatMap lCells = (markLs k0 D).flatMap lCells ++ ([.int .i64 f.head, v, v2] ++ E'.flatMap lCells) := by
          rw [List.flatMap_append, List.flatMap_cons]
          rfl
        have hrow := HM.out.1
        rw [hsp] at hrow
        have d0 := hrow.cellAt (D.length * 3) (by omega)
        have d1 := hrow.cellAt (D.length * 3 + 1) (by omega)
        rw [List.getElem?_append_right (by omega), hA] at d0 d1
        rw [Nat.sub_self] at d0
        rw [Nat.add_sub_cancel_left] at d1
        simp only [List.cons_append, List.getElem?_cons_zero, List.getElem?_cons_succ] at d0 d1
        have z0 := hrow.frozenAt (D.length * 3)
        have hdl : (D.length : Int) < (n : Int) := by omega
        have HS : Hid ((wr.setCell ⟨g, D.length * 3, none⟩ (.int .i64 K)).ownsRow base 62 3 (.slice (some ⟨g, 0, none⟩) n c) n ((markLs k0 D).flatMap lCells ++ ([.int .i64 K, v, v2] ++ E'.flatMap lCells)) ∧ Fam (wr.setCell ⟨g, D.length * 3, none⟩ (.int .i64 K)) base (A ++ lrows (markLs k0 D) ++ lrows ((f, v, v2) :: E')) ∧ Wl base w (wr.setCell ⟨g, D.length * 3, none⟩ (.int .i64 K))) := by
          have r1 := (hrow.stored (D.length * 3) (.int .i64 K)).1
          obtain ⟨b0, cur0, g0⟩ := own_blk hrow
          refine ⟨?_, HM.out.2.1.set g0 (by decide) _ _, HM.out.2.2.trans (Wl.of_set g0 b0 _ _)⟩
          rw [set1of3 _ _ _ _ _ _ _ hA] at r1
          exact r1
        have hov := HS.out.2.1.own (v, f.back) (by simp [lrows])
        have hov2 := HS.out.2.1.own (v2, f.blocks) (by simp [lrows])
        simp only [] at hov hov2
        obtain ⟨av, cv, ev⟩ := own_slice hov
        subst ev
        obtain ⟨av2, cv2, ev2⟩ := own_slice hov2
        subst ev2
        have HO : Hid _ := hov
        clear hrow hov hov2 hsp hA
        go_wp2_with fail
        refine (markInt64S_ex base (.slice av f.back.length cv) f.back (K + 1) _ hcl1 (by omega) (by omega) HO.out).mono ?_
        rintro e u ⟨rfl, ho', hg⟩
        have HN : Hid (u.ownsRow base 62 3 (.slice (some ⟨g, 0, none⟩) n c) n ((markLs k0 D).flatMap lCells ++ ([.int .i64 K, .slice av f.back.length cv, .slice av2 f.blocks.length cv2] ++ E'.flatMap lCells)) ∧ Fam u base ((A ++ lrows (markLs k0 D) ++ [(.slice av f.back.length cv, markIs (K + 1) f.back.length)]) ++ (.slice av2 f.blocks.length cv2, f.blocks) :: lrows E') ∧ Wl base w u) := by
          have hwv := Wv.of_row HO.out hg (Nat.le_trans hB HS.out.2.2.bel.size)
          refine ⟨hwv.own HS.out.1 (by decide), ?_, HS.out.2.2.trans hwv.wl⟩
          have hff := HS.out.2.1
          rw [show lrows ((f, Value.slice av f.back.length cv, Value.slice av2 f.blocks.length cv2) :: E') = (Value.slice av f.back.length cv, f.back) :: (Value.slice av2 f.blocks.length cv2, f.blocks) :: lrows E' from rfl] at hff
          have := Fam.put (c' := markIs (K + 1) f.back.length) hff (markIs_length _ _) ho' hg
          simpa [List.append_assoc] using this
        have hA : ((markLs k0 D).flatMap lCells).length = D.length * 3 := by rw [flat_length lCells 3 lCells_length, markLs_length]
        have d2 := HN.out.1.cellAt (D.length * 3 + 2) (by omega)
        rw [List.getElem?_append_right (by omega), hA, Nat.add_sub_cancel_left] at d2
        simp only [List.cons_append, List.getElem?_cons_zero, List.getElem?_cons_succ] at d2
        have HO2 : Hid _ := HN.out.2.1.own (.slice av2 f.blocks.length cv2, f.blocks) (by simp)
        clear ho' hg d0 d1 z0 hA HO HS
        go_wp2_with fail
        refine (markInt64S_ex base (.slice av2 f.blocks.length cv2) f.blocks (K + 1 + (f.back.length : Int)) _ hcl2 (by omega) (by omega) HO2.out).mono ?_
        rintro e u2 ⟨rfl, ho', hg⟩
        have HN2 : Hid (u2.ownsRow base 62 3 (.slice (some ⟨g, 0, none⟩) n c) n ((markLs k0 (D ++ [(f, .slice av f.back.length cv, .slice av2 f.blocks.length cv2)]) ++ E').flatMap lCells) ∧ Fam u2 base (A ++ lrows (markLs k0 (D ++ [(f, .slice av f.back.length cv, .slice av2 f.blocks.length cv2)])) ++ lrows E') ∧ Wl base w u2) := by
          have hwv := Wv.of_row HO2.out hg (Nat.le_trans hB HN.out.2.2.bel.size)
          refine ⟨?_, ?_, HN.out.2.2.trans hwv.wl⟩
          · have := hwv.own HN.out.1 (by decide)
            rw [markLs_snoc, HK.out, List.append_assoc, List.flatMap_append]
            exact this
          · have := Fam.put (c' := markIs (K + 1 + (f.back.length : Int)) f.blocks.length) HN.out.2.1 (markIs_length _ _) ho' hg
            rw [markLs_snoc, HK.out]
            simpa [lrows, markL, List.append_assoc] using this
        have hes : endL k0 (D ++ [(f, .slice av f.back.length cv, .slice av2 f.blocks.length cv2)]) = K + 1 + (f.back.length : Int) + (f.blocks.length : Int) := by rw [endL_snoc, HK.out]; rfl
        clear ho' hg d2 HN HO2
        go_wp2
        go_roundw
        case rel => exact ⟨D ++ [(f, .slice av f.back.length cv, .slice av2 f.blocks.length cv2)], E', by show _ = _; rw [HD.out]; simp, by simp; omega, by rw [hes], by simp, HN2⟩
        case measure => simp [intOf]; omega
      | nil =>
        have hDn : D.length = n := by simpa using hlen
        have hDL : D = F := by rw [HD.out]; simp
        subst hDL
        have HE : Hid (wr.ownsRow base 62 3 (.slice (some ⟨g, 0, none⟩) n c) n ((markLs k0 D).flatMap lCells) ∧ Fam wr base (A ++ lrows (markLs k0 D)) ∧ Wl base w wr) := ⟨by simpa using HM.out.1, by simpa [lrows] using HM.out.2.1, HM.out.2.2⟩
        have hKe := HK.out
        go_wp2
        go_ret
        exact ⟨by simp [hKe], HE.out.1, HE.out.2.1, HE.out.2.2⟩
set_option maxHeartbeats 2000000 in
set_option maxRecDepth 100000 in
theorem heldLoopS_ex (s : Value) (F : List (ML × Value × Value)) (k0 : Int) (w : World) (hn : F.length ≤ 1048576) (hr : ∀ x ∈ F, x.1.small) (h0 : 0 ≤ k0) (h1 : k0 ≤ 281474976710656) (h : Rd w 3 s F.length ((markLs k0 F).flatMap lCells)) (hf : ∀ x ∈ lrows (markLs k0 F), Rd w 1 x.1 x.2.length (x.2.flatMap intCell)) :
    Calls Try.prog 43 #[s, .int .i64 k0] w fun e w' => e = .returned (.int .i64 (endL k0 F)) ∧ w' = w := by
  have H : Hid (Rd w 3 s F.length ((markLs k0 F).flatMap lCells) ∧ (∀ x ∈ F, x.1.small) ∧ ∀ x ∈ lrows (markLs k0 F), Rd w 1 x.1 x.2.length (x.2.flatMap intCell)) := ⟨h, hr, hf⟩
  obtain ⟨a1, c1, rfl⟩ := h.is_slice
  clear h hr hf
  generalize hLL : F.length = n at hn H
  have HL : Hid (F.length = n) := hLL
  clear hLL
  go_enter Try.func43, Try.ntmps43
  go_wp2
  go_loopw [1, 5] (fun q i wr => ∃ D E : List (ML × Value × Value), Hid (F = D ++ E) ∧ D.length ≤ n ∧ q = .int .i64 (endL k0 D) ∧ i = .int .i64 (D.length : Nat) ∧ wr = w) (fun _ i _ => n - (intOf i).toNat)
  case atStart => exact ⟨[], F, rfl, by simp, rfl, rfl, rfl⟩
  case round =>
    obtain ⟨D, E, HD, hk, rfl, rfl, rfl⟩ := hrel
    have hlen : D.length + E.length = n := by have := HL.out; rw [HD.out, List.length_append] at this; exact this
    have hend := endL_le k0 D (fun x hx => H.out.2.1 x (by rw [HD.out]; simp [hx]))
    generalize hK : endL k0 D = K at hend ⊢
    have HK : Hid (endL k0 D = K) := hK
    clear hK
    cases E with
    | cons x E' =>
      obtain ⟨f, v, v2⟩ := x
      have hlt : D.length < n := by simp only [List.length_cons] at hlen; omega
      have hcl : f.back.length ≤ 1048576 ∧ f.blocks.length ≤ 1048576 := H.out.2.1 (f, v, v2) (by rw [HD.out]; simp)
      obtain ⟨hcl1, hcl2⟩ := hcl
      have hsplit : markLs k0 F = markLs k0 D ++ markL K (f, v, v2) :: markLs (nextL K (f, v, v2)) E' := by
        rw [HD.out, markLs_app, HK.out]
        rfl
      have hx : (markLs k0 F)[D.length]? = some (markL K (f, v, v2)) := by
        rw [hsplit, List.getElem?_append_right (by rw [markLs_length]; omega), markLs_length, Nat.sub_self]
        rfl
      have hov := H.out.2.2 (v, markIs (K + 1) f.back.length) (by rw [hsplit]; simp [lrows, markL])
      have hov2 := H.out.2.2 (v2, markIs (K + 1 + (f.back.length : Int)) f.blocks.length) (by rw [hsplit]; simp [lrows, markL])
      simp only [markIs_length] at hov hov2
      rcases H.out.1.2 with ⟨e0, _⟩ | ⟨g, o, cc, e1, hc1⟩
      · omega
      simp only [Value.slice.injEq, true_and] at e1
      obtain ⟨rfl, rfl⟩ := e1
      have j0 := Rd.elem lCells_length hc1 D.length _ hx 0 _ rfl
      have j1 := Rd.elem lCells_length hc1 D.length _ hx 1 _ rfl
      have j2 := Rd.elem lCells_length hc1 D.length _ hx 2 _ rfl
      rw [Nat.add_zero] at j0
      simp only [markL] at j0 j1 j2
      have HO : Hid (Rd wr 1 v f.back.length ((markIs (K + 1) f.back.length).flatMap intCell)) := hov
      have HO2 : Hid (Rd wr 1 v2 f.blocks.length ((markIs (K + 1 + (f.back.length : Int)) f.blocks.length).flatMap intCell)) := hov2
      clear hc1 hx hov hov2 hsplit
      have hdl : (D.length : Int) < (n : Int) := by omega
      have hes : endL k0 (D ++ [(f, v, v2)]) = K + 1 + (f.back.length : Int) + (f.blocks.length : Int) := by rw [endL_snoc, HK.out]; rfl
      have hn0 : ¬ K + 1 + (f.back.length : Int) < 0 := by omega
      have hn1 : ¬ K + 1 + (f.back.length : Int) + (f.blocks.length : Int) < 0 := by omega
      go_wp2_with fail
      refine (heldInt64S_ex v f.back.length (K + 1) _ hcl1 (by omega) (by omega) HO.out).mono ?_
      rintro e u ⟨rfl, rfl⟩
      go_wp2_with fail
      refine (heldInt64S_ex v2 f.blocks.length (K + 1 + (f.back.length : Int)) _ hcl2 (by omega) (by omega) HO2.out).mono ?_
      rintro e u ⟨rfl, rfl⟩
      clear j0 j1 j2
      go_wp2
      go_roundw
      case rel => exact ⟨D ++ [(f, v, v2)], E', by show _ = _; rw [HD.out]; simp, by simp; omega, by rw [hes], by simp, by trivial⟩
      case measure => simp [intOf]; omega
    | nil =>
      have hDn : D.length = n := by simpa using hlen
      have hDL : D = F := by rw [HD.out]; simp
      subst hDL
      have hKe := HK.out
      go_wp2
      go_ret
      exact ⟨by simp [hKe], rfl⟩
end Go.Proofs.Ytcmbphpeikcpoaa
/- LFlo3: markFlow, heldFlow; what the law of FlowOf needs beside its walk. -/
namespace Go.Proofs.Ytcmbphpeikcpoaa
open Go.ChangeShapes Go.WideShapes Go.ChangeAt Go.RowKit
set_option linter.unusedVariables false
theorem Wb.own {base b : Nat} {w w' : World} (h : Wb base w w') {e : TypeId} {s : Value} {k n : Nat} {xs : List Value} (ho : w.ownsRow b e k s n xs) (h1 : e ≠ 2) (h2 : e ≠ 46) : w'.ownsRow b e k s n xs := by
  refine ⟨ho.1, ?_⟩
  rcases ho.2 with h' | ⟨g, cap, cur, e1, hb1, hg, hr⟩
  · exact .inl h'
  · exact .inr ⟨g, cap, cur, e1, hb1, h.blk g cur e hg h1 h2, hr⟩
theorem OwFl.keep {w w' : World} {base : Nat} {vb vo vi vl : Value} {F : List (MB × Value)} {ys : List (ML × Value × Value)} {r : MFl} (h : OwFl w base vb vo vi vl F ys r) (hb : Below w.heap.size w w') : OwFl w' base vb vo vi vl F ys r := ⟨own_keep h.brow hb (Nat.le_refl _), own_keep h.lrow hb (Nat.le_refl _), h.fam.keep hb, h.eb, h.el⟩
theorem OwFl.marks {w w' : World} {base lo hi : Nat} {vb vo vi vl : Value} {F : List (MB × Value)} {ys : List (ML × Value × Value)} {r : MFl} (h : OwFl w base vb vo vi vl F ys r) (mg : Marks lo hi w w') (hb : hi ≤ base) : OwFl w' base vb vo vi vl F ys r := by
  have g := MarksG.of (Below.refl w.heap.size w) (Nat.le_refl _) mg
  exact ⟨g.own h.brow hb, g.own h.lrow hb, ⟨fun r hr => g.own (h.fam.own r hr) hb, h.fam.sep⟩, h.eb, h.el⟩
theorem lrows_mem {ys : List (ML × Value × Value)} {y : ML × Value × Value} (h : y ∈ ys) : (y.2.1, y.1.back) ∈ lrows ys ∧ (y.2.2, y.1.blocks) ∈ lrows ys := ⟨List.mem_flatMap.2 ⟨y, h, by simp⟩, List.mem_flatMap.2 ⟨y, h, by simp⟩⟩
theorem OwFl.rd {w : World} {base : Nat} {vb vo vi vl : Value} {F : List (MB × Value)} {ys : List (ML × Value × Value)} {r : MFl} (h : OwFl w base vb vo vi vl F ys r) : RdFl w vb vo vi vl r := by
  have hbl : F.length = r.blocks.length := by rw [← h.eb, List.length_map]
  have hll : ys.length = r.loops.length := by rw [← h.el, List.length_map]
  refine ⟨⟨F, h.eb, ?_, fun x hx => ?_⟩, Rd.of_own (h.fam.own (vo, r.order) (by simp)), Rd.of_own (h.fam.own (vi, r.idom) (by simp)), ⟨ys, h.el, ?_, fun y hy => ?_⟩⟩
  · rw [← hbl]
    exact Rd.of_own h.brow
  · exact Rd.of_own (h.fam.own (x.2, x.1.next) (by
      refine List.mem_append.2 (.inl ?_)
      unfold nrows
      exact List.mem_map_of_mem (f := fun x => (x.2, x.1.next)) hx))
  · rw [← hll]
    exact Rd.of_own h.lrow
  · have := lrows_mem hy
    exact ⟨Rd.of_own (h.fam.own (y.2.1, y.1.back) (List.mem_append.2 (.inr (by simp [this.1])))), Rd.of_own (h.fam.own (y.2.2, y.1.blocks) (List.mem_append.2 (.inr (by simp [this.2]))))⟩
/-- A flow that is marked from k on. -/
structure MkFl (w : World) (base : Nat) (vb vo vi vl : Value) (F : List (MB × Value)) (a b : Nat) (ys : List (ML × Value × Value)) (k : Int) : Prop where
  brow : w.ownsRow base 46 3 vb F.length ((markBs k F).flatMap bCells)
  lrow : w.ownsRow base 62 3 vl ys.length ((markLs (endB k F + (a : Int) + (b : Int)) ys).flatMap lCells)
  fam : Fam w base ((nrows (markBs k F) ++ [(vo, markIs (endB k F) a), (vi, markIs (endB k F + (a : Int)) b)]) ++ lrows (markLs (endB k F + (a : Int) + (b : Int)) ys))
theorem MkFl.keep {w w' : World} {base : Nat} {vb vo vi vl : Value} {F : List (MB × Value)} {a b : Nat} {ys : List (ML × Value × Value)} {k : Int} (h : MkFl w base vb vo vi vl F a b ys k) (hb : Below w.heap.size w w') : MkFl w' base vb vo vi vl F a b ys k := ⟨own_keep h.brow hb (Nat.le_refl _), own_keep h.lrow hb (Nat.le_refl _), h.fam.keep hb⟩
def flSmall (F : List (MB × Value)) (a b : Nat) (ys : List (ML × Value × Value)) : Prop := F.length ≤ 1048576 ∧ (∀ x ∈ F, x.1.next.length ≤ 1048576) ∧ a ≤ 1048576 ∧ b ≤ 1048576 ∧ ys.length ≤ 1048576 ∧ ∀ y ∈ ys, y.1.small
theorem flSmall.of {w : World} {base : Nat} {vb vo vi vl : Value} {F : List (MB × Value)} {ys : List (ML × Value × Value)} {r : MFl} (h : OwFl w base vb vo vi vl F ys r) (hs : r.small) : flSmall F r.order.length r.idom.length ys := by
  refine ⟨?_, fun x hx => hs.2.1 x.1 ?_, hs.2.2.1, hs.2.2.2.1, ?_, fun y hy => hs.2.2.2.2.2 y.1 ?_⟩
  · have := hs.1
    rw [← h.eb, List.length_map] at this
    exact this
  · rw [← h.eb]
    exact List.mem_map_of_mem hx
  · have := hs.2.2.2.2.1
    rw [← h.el, List.length_map] at this
    exact this
  · rw [← h.el]
    exact List.mem_map_of_mem hy
set_option maxHeartbeats 4000000 in
set_option maxRecDepth 100000 in
theorem markFlow_ex (base : Nat) (c0 c1 : Int) (vb vo vi vl : Value) (F : List (MB × Value)) (ys : List (ML × Value × Value)) (r : MFl) (w : World) (hB : base ≤ w.heap.size) (hs : flSmall F r.order.length r.idom.length ys) (h : OwFl w base vb vo vi vl F ys r) :
    Calls Try.prog 17 #[.agg #[.int .i64 c0, .int .i64 c1, vb, vo, vi, vl], .int .i64 1] w fun e w' => e = .returned (.int .i64 (endL (endB 1 F + (r.order.length : Int) + (r.idom.length : Int)) ys)) ∧ MkFl w' base vb vo vi vl F r.order.length r.idom.length ys 1 ∧ Below base w w' ∧ ∀ k cur, Blk w k cur 36 → Blk w' k cur 36 := by
  have B0 : Below w.heap.size w (w.alloc (.cells #[.int .i64 c0, .int .i64 c1, vb, vo, vi, vl] 36)) := below_alloc _ _
  have K0 : Blk (w.alloc (.cells #[.int .i64 c0, .int .i64 c1, vb, vo, vi, vl] 36)) w.heap.size #[.int .i64 c0, .int .i64 c1, vb, vo, vi, vl] 36 := Blk.new _ _ _
  have O0 := h.keep B0
  have hS0 : base ≤ (w.alloc (.cells #[.int .i64 c0, .int .i64 c1, vb, vo, vi, vl] 36)).heap.size := Nat.le_trans hB B0.size
  have H : Hid (Below base w (w.alloc (.cells #[.int .i64 c0, .int .i64 c1, vb, vo, vi, vl] 36)) ∧ Blk (w.alloc (.cells #[.int .i64 c0, .int .i64 c1, vb, vo, vi, vl] 36)) w.heap.size #[.int .i64 c0, .int .i64 c1, vb, vo, vi, vl] 36 ∧ OwFl (w.alloc (.cells #[.int .i64 c0, .int .i64 c1, vb, vo, vi, vl] 36)) base vb vo vi vl F ys r ∧ base ≤ (w.alloc (.cells #[.int .i64 c0, .int .i64 c1, vb, vo, vi, vl] 36)).heap.size) := ⟨B0.mono hB, K0, O0, hS0⟩
  have Z0 : Hid (∀ k cur, Blk w k cur 36 → Blk (w.alloc (.cells #[.int .i64 c0, .int .i64 c1, vb, vo, vi, vl] 36)) k cur 36) := fun k cur hk => hk.keep B0
  have HS : Hid (flSmall F r.order.length r.idom.length ys) := hs
  have hEB := endB_le 1 F hs.2.1
  have hEF := hs.1
  have hEa := hs.2.2.1
  have hEb := hs.2.2.2.1
  clear B0 K0 O0 hS0 h hs
  go_enter Try.func17, Try.ntmps17
  go_wp2_with fail
  refine (markBlockS_ex base vb [] ((vo, r.order) :: (vi, r.idom) :: lrows ys) F 1 _ H.out.2.2.2 HS.out.1 HS.out.2.1 (by omega) (by omega) H.out.2.2.1.brow (by simpa using H.out.2.2.1.fam)).mono ?_
  rintro e u1 ⟨rfl, row1, fam1, wb1⟩
  have K1 : Blk u1 w.heap.size #[.int .i64 c0, .int .i64 c1, vb, vo, vi, vl] 36 := wb1.blk _ _ _ H.out.2.1 (by decide) (by decide)
  have H1 : Hid (Below base w u1 ∧ Blk u1 w.heap.size #[.int .i64 c0, .int .i64 c1, vb, vo, vi, vl] 36 ∧ u1.ownsRow base 46 3 vb F.length ((markBs 1 F).flatMap bCells) ∧ u1.ownsRow base 62 3 vl ys.length (ys.flatMap lCells) ∧ Fam u1 base (nrows (markBs 1 F) ++ (vo, r.order) :: (vi, r.idom) :: lrows ys)) := ⟨H.out.1.trans wb1.bel, K1, row1, wb1.own H.out.2.2.1.lrow (by decide) (by decide), by simpa using fam1⟩
  have Z1 : Hid (∀ k cur, Blk w k cur 36 → Blk u1 k cur 36) := fun k cur hk => wb1.blk _ _ _ (Z0.out k cur hk) (by decide) (by decide)
  clear row1 fam1 wb1 H Z0
  have q1 : u1.cell? ⟨w.heap.size, 3, none⟩ = some vo := K1.cell 3
  clear K1
  go_wp2_with fail
  refine (markInt64S_ex base vo r.order (endB 1 F) _ HS.out.2.2.1 (by omega) (by omega) (H1.out.2.2.2.2.own (vo, r.order) (by simp))).mono ?_
  rintro e u2 ⟨rfl, ho, hg⟩
  have hwv := Wv.of_row (H1.out.2.2.2.2.own (vo, r.order) (by simp)) hg (Nat.le_trans hB H1.out.1.size)
  have K2 : Blk u2 w.heap.size #[.int .i64 c0, .int .i64 c1, vb, vo, vi, vl] 36 := hwv.blk _ _ _ H1.out.2.1 (by decide)
  have H2 : Hid (Below base w u2 ∧ Blk u2 w.heap.size #[.int .i64 c0, .int .i64 c1, vb, vo, vi, vl] 36 ∧ u2.ownsRow base 46 3 vb F.length ((markBs 1 F).flatMap bCells) ∧ u2.ownsRow base 62 3 vl ys.length (ys.flatMap lCells) ∧ Fam u2 base ((nrows (markBs 1 F) ++ [(vo, markIs (endB 1 F) r.order.length)]) ++ (vi, r.idom) :: lrows ys)) := by
    refine ⟨H1.out.1.trans hwv.bel, K2, hwv.own H1.out.2.2.1 (by decide), hwv.own H1.out.2.2.2.1 (by decide), ?_⟩
    have := Fam.put (c' := markIs (endB 1 F) r.order.length) H1.out.2.2.2.2 (markIs_length _ _) ho hg
    simpa [List.append_assoc] using this
  have Z2 : Hid (∀ k cur, Blk w k cur 36 → Blk u2 k cur 36) := fun k cur hk => hwv.blk _ _ _ (Z1.out k cur hk) (by decide)
  clear ho hg hwv H1 q1 Z1
  have q2 : u2.cell? ⟨w.heap.size, 4, none⟩ = some vi := K2.cell 4
  clear K2
  go_wp2_with fail
  refine (markInt64S_ex base vi r.idom (endB 1 F + (r.order.length : Int)) _ HS.out.2.2.2.1 (by omega) (by omega) (H2.out.2.2.2.2.own (vi, r.idom) (by simp))).mono ?_
  rintro e u3 ⟨rfl, ho, hg⟩
  have hwv := Wv.of_row (H2.out.2.2.2.2.own (vi, r.idom) (by simp)) hg (Nat.le_trans hB H2.out.1.size)
  have K3 : Blk u3 w.heap.size #[.int .i64 c0, .int .i64 c1, vb, vo, vi, vl] 36 := hwv.blk _ _ _ H2.out.2.1 (by decide)
  have H3 : Hid (Below base w u3 ∧ u3.ownsRow base 46 3 vb F.length ((markBs 1 F).flatMap bCells) ∧ u3.ownsRow base 62 3 vl ys.length (ys.flatMap lCells) ∧ Fam u3 base ((nrows (markBs 1 F) ++ [(vo, markIs (endB 1 F) r.order.length), (vi, markIs (endB 1 F + (r.order.length : Int)) r.idom.length)]) ++ lrows ys)) := by
    refine ⟨H2.out.1.trans hwv.bel, hwv.own H2.out.2.2.1 (by decide), hwv.own H2.out.2.2.2.1 (by decide), ?_⟩
    have := Fam.put (c' := markIs (endB 1 F + (r.order.length : Int)) r.idom.length) H2.out.2.2.2.2 (markIs_length _ _) ho hg
    simpa [List.append_assoc] using this
  have Z3 : Hid (∀ k cur, Blk w k cur 36 → Blk u3 k cur 36) := fun k cur hk => hwv.blk _ _ _ (Z2.out k cur hk) (by decide)
  clear ho hg hwv H2 q2 Z2
  have q3 : u3.cell? ⟨w.heap.size, 5, none⟩ = some vl := K3.cell 5
  clear K3
  go_wp2_with fail
  refine (markLoopS_ex base vl (nrows (markBs 1 F) ++ [(vo, markIs (endB 1 F) r.order.length), (vi, markIs (endB 1 F + (r.order.length : Int)) r.idom.length)]) ys (endB 1 F + (r.order.length : Int) + (r.idom.length : Int)) _ (Nat.le_trans hB H3.out.1.size) HS.out.2.2.2.2.1 HS.out.2.2.2.2.2 (by omega) (by omega) H3.out.2.2.1 H3.out.2.2.2).mono ?_
  rintro e u4 ⟨rfl, row4, fam4, wl4⟩
  have H4 : Hid (MkFl u4 base vb vo vi vl F r.order.length r.idom.length ys 1 ∧ Below base w u4) := ⟨⟨wl4.own H3.out.2.1 (by decide) (by decide), row4, fam4⟩, H3.out.1.trans wl4.bel⟩
  have Z4 : Hid (∀ k cur, Blk w k cur 36 → Blk u4 k cur 36) := fun k cur hk => wl4.blk _ _ _ (Z3.out k cur hk) (by decide) (by decide)
  clear row4 fam4 wl4 H3 q3 Z3
  go_wp2
  go_ret
  exact ⟨rfl, H4.out.1, H4.out.2, Z4.out⟩
set_option maxHeartbeats 4000000 in
set_option maxRecDepth 100000 in
theorem heldFlow_ex (base : Nat) (c0 c1 : Int) (vb vo vi vl : Value) (F : List (MB × Value)) (a b : Nat) (ys : List (ML × Value × Value)) (w : World) (hs : flSmall F a b ys) (h : MkFl w base vb vo vi vl F a b ys 1) :
    Calls Try.prog 18 #[.agg #[.int .i64 c0, .int .i64 c1, vb, vo, vi, vl], .int .i64 1] w fun e w' => e = .returned (.int .i64 (endL (endB 1 F + (a : Int) + (b : Int)) ys)) ∧ Below w.heap.size w w' := by
  have B0 : Hid (Below w.heap.size w (w.alloc (.cells #[.int .i64 c0, .int .i64 c1, vb, vo, vi, vl] 36))) := below_alloc _ _
  have O0 := h.keep B0.out
  have H : Hid ((Rd (w.alloc (.cells #[.int .i64 c0, .int .i64 c1, vb, vo, vi, vl] 36)) 3 vb F.length ((markBs 1 F).flatMap bCells) ∧ ∀ x ∈ nrows (markBs 1 F), Rd (w.alloc (.cells #[.int .i64 c0, .int .i64 c1, vb, vo, vi, vl] 36)) 1 x.1 x.2.length (x.2.flatMap intCell)) ∧ Rd (w.alloc (.cells #[.int .i64 c0, .int .i64 c1, vb, vo, vi, vl] 36)) 1 vo a ((markIs (endB 1 F) a).flatMap intCell) ∧ Rd (w.alloc (.cells #[.int .i64 c0, .int .i64 c1, vb, vo, vi, vl] 36)) 1 vi b ((markIs (endB 1 F + (a : Int)) b).flatMap intCell) ∧ Rd (w.alloc (.cells #[.int .i64 c0, .int .i64 c1, vb, vo, vi, vl] 36)) 3 vl ys.length ((markLs (endB 1 F + (a : Int) + (b : Int)) ys).flatMap lCells) ∧ ∀ x ∈ lrows (markLs (endB 1 F + (a : Int) + (b : Int)) ys), Rd (w.alloc (.cells #[.int .i64 c0, .int .i64 c1, vb, vo, vi, vl] 36)) 1 x.1 x.2.length (x.2.flatMap intCell)) := by
    refine ⟨⟨Rd.of_own O0.brow, fun x hx => Rd.of_own (O0.fam.own x (by simp [hx]))⟩, ?_, ?_, Rd.of_own O0.lrow, fun x hx => Rd.of_own (O0.fam.own x (by simp [hx]))⟩
    · have := O0.fam.own (vo, markIs (endB 1 F) a) (by simp)
      simp only [markIs_length] at this
      exact Rd.of_own this
    · have := O0.fam.own (vi, markIs (endB 1 F + (a : Int)) b) (by simp)
      simp only [markIs_length] at this
      exact Rd.of_own this
  have HS : Hid (flSmall F a b ys) := hs
  have hEB := endB_le 1 F hs.2.1
  have hEF := hs.1
  have hEa := hs.2.2.1
  have hEb := hs.2.2.2.1
  have hEL := endL_le (endB 1 F + (a : Int) + (b : Int)) ys hs.2.2.2.2.2
  have n1 : ¬ endB 1 F < 0 := by omega
  have n2 : ¬ endB 1 F + (a : Int) < 0 := by omega
  have n3 : ¬ endB 1 F + (a : Int) + (b : Int) < 0 := by omega
  have n4 : ¬ endL (endB 1 F + (a : Int) + (b : Int)) ys < 0 := by omega
  clear O0 h hs
  go_enter Try.func18, Try.ntmps18
  go_wp2_with fail
  refine (heldBlockS_ex vb F 1 _ HS.out.1 HS.out.2.1 (by omega) (by omega) H.out.1.1 H.out.1.2).mono ?_
  rintro e u1 ⟨rfl, rfl⟩
  go_wp2_with fail
  refine (heldInt64S_ex vo a (endB 1 F) _ HS.out.2.2.1 (by omega) (by omega) H.out.2.1).mono ?_
  rintro e u2 ⟨rfl, rfl⟩
  go_wp2_with fail
  refine (heldInt64S_ex vi b (endB 1 F + (a : Int)) _ HS.out.2.2.2.1 (by omega) (by omega) H.out.2.2.1).mono ?_
  rintro e u3 ⟨rfl, rfl⟩
  go_wp2_with fail
  refine (heldLoopS_ex vl ys (endB 1 F + (a : Int) + (b : Int)) _ HS.out.2.2.2.2.1 HS.out.2.2.2.2.2 (by omega) (by omega) H.out.2.2.2.1 H.out.2.2.2.2).mono ?_
  rintro e u4 ⟨rfl, rfl⟩
  go_wp2
  go_ret
  exact ⟨rfl, B0.out⟩
/-- A flow in a block, and what it reads. -/
structure FlB (u : World) (X : Nat) (r : MFl) (vb vo vi vl : Value) : Prop where
  blk : Blk u X #[.int .i64 r.code, .int .i64 r.at_, vb, vo, vi, vl] 36
  rd : RdFl u vb vo vi vl r
theorem FlB.new {u : World} {r : MFl} {vb vo vi vl : Value} (h : RdFl u vb vo vi vl r) : FlB (u.alloc (.cells #[.int .i64 r.code, .int .i64 r.at_, vb, vo, vi, vl] 36)) u.heap.size r vb vo vi vl := ⟨Blk.new _ _ _, h.keep (below_alloc _ _) (Nat.le_refl _)⟩
theorem FlB.keep {u u' : World} {X : Nat} {r : MFl} {vb vo vi vl : Value} (h : FlB u X r vb vo vi vl) (hb : Below u.heap.size u u') : FlB u' X r vb vo vi vl := ⟨h.blk.keep hb, h.rd.keep hb (Nat.le_refl _)⟩
/-- A flow of one's own, in a block. -/
structure GB (u : World) (base Y : Nat) (r : MFl) (vb vo vi vl : Value) (F : List (MB × Value)) (ys : List (ML × Value × Value)) : Prop where
  own : OwFl u base vb vo vi vl F ys r
  blk : Blk u Y #[.int .i64 r.code, .int .i64 r.at_, vb, vo, vi, vl] 36
  ge : base ≤ Y
theorem GB.new {u : World} {base : Nat} {r : MFl} {vb vo vi vl : Value} {F : List (MB × Value)} {ys : List (ML × Value × Value)} (h : OwFl u base vb vo vi vl F ys r) (hb : base ≤ u.heap.size) : GB (u.alloc (.cells #[.int .i64 r.code, .int .i64 r.at_, vb, vo, vi, vl] 36)) base u.heap.size r vb vo vi vl F ys := ⟨h.keep (below_alloc _ _), Blk.new _ _ _, hb⟩
theorem GB.keep {u u' : World} {base Y : Nat} {r : MFl} {vb vo vi vl : Value} {F : List (MB × Value)} {ys : List (ML × Value × Value)} (h : GB u base Y r vb vo vi vl F ys) (hb : Below u.heap.size u u') : GB u' base Y r vb vo vi vl F ys := ⟨h.own.keep hb, h.blk.keep hb, h.ge⟩
theorem GB.marks {u u' : World} {base Y lo hi : Nat} {r : MFl} {vb vo vi vl : Value} {F : List (MB × Value)} {ys : List (ML × Value × Value)} (h : GB u base Y r vb vo vi vl F ys) (mg : Marks lo hi u u') (hb : hi ≤ base) : GB u' base Y r vb vo vi vl F ys := by
  refine ⟨h.own.marks mg hb, ?_, h.ge⟩
  have := h.blk
  unfold Blk at *
  rw [mg.out Y (.inr (Nat.le_trans hb h.ge))]
  exact this
/-- A flow that is marked, in a block. -/
structure HB (u : World) (base Y : Nat) (r : MFl) (vb vo vi vl : Value) (F : List (MB × Value)) (ys : List (ML × Value × Value)) : Prop where
  mkd : MkFl u base vb vo vi vl F r.order.length r.idom.length ys 1
  blk : Blk u Y #[.int .i64 r.code, .int .i64 r.at_, vb, vo, vi, vl] 36
theorem HB.keep {u u' : World} {base Y : Nat} {r : MFl} {vb vo vi vl : Value} {F : List (MB × Value)} {ys : List (ML × Value × Value)} (h : HB u base Y r vb vo vi vl F ys) (hb : Below u.heap.size u u') : HB u' base Y r vb vo vi vl F ys := ⟨h.mkd.keep hb, h.blk.keep hb⟩
theorem blk6 {u : World} {X : Nat} {x0 x1 x2 x3 x4 x5 : Value} {t : TypeId} (h : Blk u X #[x0, x1, x2, x3, x4, x5] t) : u.cell? ⟨X, 0, none⟩ = some x0 ∧ u.cell? ⟨X, 1, none⟩ = some x1 ∧ u.cell? ⟨X, 2, none⟩ = some x2 ∧ u.cell? ⟨X, 3, none⟩ = some x3 ∧ u.cell? ⟨X, 4, none⟩ = some x4 ∧ u.cell? ⟨X, 5, none⟩ = some x5 :=
  ⟨h.cell 0, h.cell 1, h.cell 2, h.cell 3, h.cell 4, h.cell 5⟩
theorem RdFl.slices {w : World} {vb vo vi vl : Value} {r : MFl} (h : RdFl w vb vo vi vl r) : ∃ a1 c1 a2 c2 a3 c3 a4 c4, vb = .slice a1 r.blocks.length c1 ∧ vo = .slice a2 r.order.length c2 ∧ vi = .slice a3 r.idom.length c3 ∧ vl = .slice a4 r.loops.length c4 := by
  obtain ⟨xs, _, h1, _⟩ := h.blocks
  obtain ⟨ys, _, h4, _⟩ := h.loops
  obtain ⟨a1, c1, rfl⟩ := h1.is_slice
  obtain ⟨a2, c2, rfl⟩ := h.order.is_slice
  obtain ⟨a3, c3, rfl⟩ := h.idom.is_slice
  obtain ⟨a4, c4, rfl⟩ := h4.is_slice
  exact ⟨a1, c1, a2, c2, a3, c3, a4, c4, rfl, rfl, rfl, rfl⟩
theorem back_small (E : Nat → List Nat) (D : Nat → Nat → Bool) (n h : Nat) (hE : ∀ b, (E b).length ≤ 2) : (backL E D n h).length ≤ 2 * n := by
  unfold backL
  induction n with
  | zero => simp
  | succ m ih =>
    rw [List.range_succ, List.flatMap_append, List.length_append]
    have := List.length_filter_le (fun x => decide (x = h) && D h m) (E m)
    have := hE m
    simp only [List.flatMap_cons, List.flatMap_nil, List.append_nil, List.length_map]
    omega
theorem noFl_small (c a : Int) : (noFl c a).small := ⟨by simp [noFl], by simp [noFl], by simp [noFl], by simp [noFl], by simp [noFl], by simp [noFl]⟩
theorem FlowOk.small {xs : List MI} {r : MFl} (h : FlowOk xs r) : r.small := by
  cases h with
  | none _ => exact noFl_small _ _
  | off _ _ _ => exact noFl_small _ _
  | lost _ _ _ _ _ _ _ _ => exact noFl_small _ _
  | two _ _ _ _ _ _ _ _ => exact noFl_small _ _
  | good g _ _ vs _ _ _ _ _ =>
    have hl := specL_le g
    have hf := vs_facts (lds_pos g) (nx_lt g) vs
    refine ⟨?_, fun f hf => ?_, ?_, ?_, ?_, fun f hf => ?_⟩
    · exact Nat.le_trans hl (by omega)
    · exact Nat.le_trans (specL_two xs f hf) (by omega)
    · simp only [ints_length, List.length_reverse]
      omega
    · simp only [List.length_map, List.length_range]
      omega
    · simp only [loopsTo]
      refine Nat.le_trans (List.length_filterMap_le _ _) ?_
      simp only [List.length_range]
      omega
    · simp only [loopsTo, List.mem_filterMap] at hf
      obtain ⟨h, _, q⟩ := hf
      split at q
      · cases q
      · simp only [Option.some.injEq] at q
        subst q
        refine ⟨?_, ?_⟩
        · simp only [ints_length]
          exact Nat.le_trans (back_small (nx (specL xs)) _ (specL xs).length h (nx_small _ (specL_two xs))) (by omega)
        · simp only [ints_length]
          refine Nat.le_trans (List.length_filter_le _ _) ?_
          simp only [List.length_range]
          omega
end Go.Proofs.Ytcmbphpeikcpoaa
