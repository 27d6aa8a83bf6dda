import Derived.Test.YtalkpddhpmjgcaaGreatCm47
namespace Go.Proofs.YtalkpddhpmjgcaaGreat
open Go.ChangeShapes Go.WideShapes Go.ChangeAt Go.RowKit
set_option linter.unusedVariables false
/-- Blocks from lo to hi may have turned, but their lists stand. -/
structure Mks (lo hi : Nat) (w w' : World) : Prop where
  os : w'.os = w.os
  tape : w'.tape = w.tape
  output : w'.output = w.output
  size : w'.heap.size = w.heap.size
  block : ∀ k, ¬ (lo ≤ k ∧ k < hi) → w'.heap[k]? = w.heap[k]?
  inner : ∀ (k : Nat) (cur : Array Value) (t : TypeId), w.heap[k]? = some (Obj.cells cur t (0, 0)) → ∃ cur' : Array Value, w'.heap[k]? = some (Obj.cells cur' t (0, 0)) ∧ cur'.size = cur.size ∧ ∀ i, (i % 5 = 3 ∨ i % 5 = 4) → cur'[i]? = cur[i]?
theorem Mks.refl (lo hi : Nat) (w : World) : Mks lo hi w w := ⟨rfl, rfl, rfl, rfl, fun _ _ => rfl, fun k cur t h => ⟨cur, h, rfl, fun _ _ => rfl⟩⟩
theorem Mks.trans {lo hi : Nat} {a b c : World} (h : Mks lo hi a b) (h' : Mks lo hi b c) : Mks lo hi a c := ⟨h'.os.trans h.os, h'.tape.trans h.tape, h'.output.trans h.output, h'.size.trans h.size, fun k hk => (h'.block k hk).trans (h.block k hk), fun k cur t hk => by
  obtain ⟨c1, h1, s1, e1⟩ := h.inner k cur t hk
  obtain ⟨c2, h2, s2, e2⟩ := h'.inner k c1 t h1
  exact ⟨c2, h2, s2.trans s1, fun i hi => (e2 i hi).trans (e1 i hi)⟩⟩
theorem Mks.below {lo hi : Nat} {w w' : World} (h : Mks lo hi w w') : Below lo w w' := ⟨h.os, h.tape, h.output, by rw [h.size]; exact Nat.le_refl _, fun k hk => h.block k (by omega)⟩
theorem Mks.chg {lo hi : Nat} {w w' : World} (h : Mks lo hi w w') : Chg (fun k => lo ≤ k ∧ k < hi) w w' := ⟨h.os, h.tape, h.output, by rw [h.size]; exact Nat.le_refl _, fun k _ hk => h.block k hk⟩
theorem Mks.set {lo hi : Nat} {w : World} {g i : Nat} {cur : Array Value} {t : TypeId} (hg : w.heap[g]? = some (Obj.cells cur t (0, 0))) (h1 : lo ≤ g) (h2 : g < hi) (hi5 : i % 5 < 3) (x : Value) : Mks lo hi w (w.setCell ⟨g, i, none⟩ x) := by
  refine ⟨rfl, rfl, rfl, World.size_setCell _ _ _, fun k hk => Below.heap_setCell _ _ _ _ (by intro e; simp only [] at e; subst e; exact hk ⟨h1, h2⟩), fun k c1 t1 hk => ?_⟩
  by_cases e : k = g
  · subst e
    rw [hg] at hk
    simp only [Option.some.injEq, Obj.cells.injEq] at hk
    obtain ⟨rfl, rfl, _⟩ := hk
    refine ⟨cur.setIfInBounds i x, heap_setCell_same w k i cur t x hg, by simp, fun j hj => ?_⟩
    rw [Array.getElem?_setIfInBounds_ne (by omega)]
  · exact ⟨c1, by rw [Below.heap_setCell _ _ _ _ e]; exact hk, rfl, fun _ _ => rfl⟩
/-- The shape of lists of statements: what marks leave. -/
def ShT (w : World) (lo hi : Nat) : (n : Nat) → Value → TL n → Prop
  | 0, s, _ => ∃ a c, s = .slice a 0 c
  | n + 1, s, l => (List.length l = 0 ∧ ∃ a c, s = .slice a 0 c) ∨ ∃ (g c : Nat) (cur : Array Value), s = .slice (some ⟨g, 0, none⟩) (List.length l) c ∧ lo ≤ g ∧ g < hi ∧ w.heap[g]? = some (Obj.cells cur 54 (0, 0)) ∧ List.length l * 5 ≤ cur.size ∧ ∀ (i : Nat) (x : SS (TL n)), (show List (SS (TL n)) from l)[i]? = some x → ∃ vb ve, cur[i * 5 + 3]? = some vb ∧ cur[i * 5 + 4]? = some ve ∧ ShT w lo hi n vb x.body ∧ ShT w lo hi n ve x.els
theorem ShT.is_slice {w : World} {lo hi n : Nat} {s : Value} {t : TL n} (h : ShT w lo hi n s t) : ∃ a c, s = .slice a (lenT n t) c := by
  cases n with
  | zero => exact h
  | succ n =>
    rcases h with ⟨e, a, c, rfl⟩ | ⟨g, c, cur, rfl, _⟩
    · have e2 : lenT (n + 1) t = 0 := e
      rw [e2]; exact ⟨a, c, rfl⟩
    · exact ⟨_, c, rfl⟩
theorem ShT.mks {w w' : World} {lo hi lo' hi' n : Nat} {s : Value} {t : TL n} (h : ShT w lo hi n s t) (hm : Mks lo' hi' w w') : ShT w' lo hi n s t := by
  induction n generalizing s with
  | zero => exact h
  | succ n ih =>
    rcases h with h | ⟨g, c, cur, e, h1, h2, hg, hs, hx⟩
    · exact .inl h
    · obtain ⟨cur', hg', hs', he⟩ := hm.inner g cur _ hg
      exact .inr ⟨g, c, cur', e, h1, h2, hg', by rw [hs']; exact hs, fun i x hi => by
        obtain ⟨vb, ve, e3, e4, hb, hel⟩ := hx i x hi
        exact ⟨vb, ve, by rw [he _ (by omega)]; exact e3, by rw [he _ (by omega)]; exact e4, ih hb, ih hel⟩⟩
theorem ShT.keep {w w' : World} {lo hi n : Nat} {s : Value} {t : TL n} (h : ShT w lo hi n s t) (hb : Below w.heap.size w w') : ShT w' lo hi n s t := by
  induction n generalizing s with
  | zero => exact h
  | succ n ih =>
    rcases h with h | ⟨g, c, cur, e, h1, h2, hg, hs, hx⟩
    · exact .inl h
    · exact .inr ⟨g, c, cur, e, h1, h2, by rw [hb.block g (Array.getElem?_eq_some_iff.1 hg).1]; exact hg, hs, fun i x hi => by
        obtain ⟨vb, ve, e3, e4, hb2, hel⟩ := hx i x hi
        exact ⟨vb, ve, e3, e4, ih hb2, ih hel⟩⟩
theorem OwnT.shape {w : World} {base hi n : Nat} {s : Value} {t : TL n} (h : OwnT w base n s t) (hh : w.heap.size ≤ hi) : ShT w base hi n s t := by
  induction n generalizing s with
  | zero => exact h.is_slice
  | succ n ih =>
    obtain ⟨xs, h1, h2, h3⟩ := h
    have hl : xs.length = List.length t := by have := congrArg List.length h1; rw [List.length_map] at this; exact this
    rcases h2.2 with ⟨rfl, e⟩ | ⟨g, cap, cur, e, hb, hg, hc, hm, hs, hx⟩
    · exact .inl ⟨e, _, _, rfl⟩
    · refine .inr ⟨g, cap, cur, e, hb, Nat.lt_of_lt_of_le (Array.getElem?_eq_some_iff.1 hg).1 hh, hg, ?_, fun i x hi => ?_⟩
      · rw [hs]
        exact Nat.mul_le_mul_right _ hc
      · have hx' : (List.map Prod.fst xs)[i]? = some x := by rw [h1]; exact hi
        obtain ⟨y, hy, rfl⟩ : ∃ y, xs[i]? = some y ∧ y.1 = x := by
          rw [List.getElem?_map] at hx'
          cases hy : xs[i]? with
          | none => rw [hy] at hx'; cases hx'
          | some y => rw [hy] at hx'; exact ⟨y, rfl, Option.some.inj hx'⟩
        have hm2 := h3 y (List.mem_of_getElem? hy)
        have hcell : ∀ j v, j < 5 → (sCells y)[j]? = some v → cur[i * 5 + j]? = some v := fun j v hj hv => by
          have hat := flat_at sCells 5 sCells_length xs i j y hy hj
          have hlt : i < xs.length := (List.getElem?_eq_some_iff.1 hy).1
          have h9 : (cur.toList.take (List.length t * 5))[i * 5 + j]? = (xs.flatMap sCells)[i * 5 + j]? := by rw [hx]
          rw [hat, hv, List.getElem?_take_of_lt (by rw [← hl]; omega)] at h9
          simpa using h9
        exact ⟨y.2.1, y.2.2, hcell 3 _ (by omega) rfl, hcell 4 _ (by omega) rfl, ih hm2.1, ih hm2.2⟩
/-- What markStmtS is asked for. -/
def MsIs (n : Nat) : Prop := ∀ (lo hi : Nat) (v : Value) (t : TL n) (k : Int) (w : World), ShT w lo hi n v t → sizeT n t ≤ 1048576 → 0 ≤ k → k + 3 * (sizeT n t : Int) ≤ 1152921504606846976 → Calls Tryz.prog 13 #[v, .int .i64 k] w fun e w' => e = .returned (.int .i64 (k + 3 * (sizeT n t : Int))) ∧ Mks lo hi w w'
set_option maxHeartbeats 2000000 in
set_option maxRecDepth 100000 in
theorem markStmtS_none (a : Option Addr) (c : Nat) (k : Int) (lo hi : Nat) (w : World) : Calls Tryz.prog 13 #[.slice a 0 c, .int .i64 k] w fun e w' => e = .returned (.int .i64 k) ∧ Mks lo hi w w' := by
  go_enter Tryz.func13, Tryz.ntmps13
  go_wp2_with fail
  go_loopw [1, 5] (fun kk i wr => kk = .int .i64 k ∧ i = .int .i64 0 ∧ wr = w) (fun _ _ _ => 0)
  case atStart => exact ⟨rfl, rfl, rfl⟩
  case round =>
    obtain ⟨rfl, rfl, rfl⟩ := hrel
    go_wp2_with fail
    go_ret
    exact ⟨rfl, Mks.refl _ _ _⟩
set_option maxHeartbeats 8000000 in
set_option maxRecDepth 100000 in
theorem markStmtS_succ (n : Nat) (ih : MsIs n) (lo hi : Nat) (v : Value) (l : List (SS (TL n))) (k : Int) (w : World) (h : ShT w lo hi (n + 1) v l) (hsz : sizeT (n + 1) l ≤ 1048576) (h0 : 0 ≤ k) (h1 : k + 3 * (sizeT (n + 1) l : Int) ≤ 1152921504606846976) : Calls Tryz.prog 13 #[v, .int .i64 k] w fun e w' => e = .returned (.int .i64 (k + 3 * (sizeT (n + 1) l : Int))) ∧ Mks lo hi w w' := by
  rcases h with ⟨e, a, c, rfl⟩ | ⟨g, c, cur0, rfl, hlo, hhi, hg, hs, hx⟩
  · have e2 : sizeT (n + 1) l = 0 := size_len0 (n := n + 1) (t := l) e
    rw [e2]
    have := markStmtS_none a c k lo hi w
    simpa using this
  have HI : Hid (MsIs n) := ih
  have H : Hid (sizeT (n + 1) l ≤ 1048576 ∧ k + 3 * (sizeT (n + 1) l : Int) ≤ 1152921504606846976 ∧ lo ≤ g ∧ g < hi) := ⟨hsz, h1, hlo, hhi⟩
  have HS : Hid (ShT w lo hi (n + 1) (.slice (some ⟨g, 0, none⟩) l.length c) l) := .inr ⟨g, c, cur0, rfl, hlo, hhi, hg, hs, hx⟩
  have hL : l.length ≤ 1048576 := by have := len_le_size (n + 1) l; have e : lenT (n + 1) l = l.length := rfl; omega
  have hk1 : k ≤ 1152921504606846976 := by omega
  clear ih hsz h1 hlo hhi hg hs hx cur0
  generalize hLL : l.length = L at HS hL ⊢
  have HL : Hid (l.length = L) := hLL
  clear hLL
  go_enter Tryz.func13, Tryz.ntmps13
  go_wp2_with fail
  go_loopw [1, 5] (fun kk i wr => ∃ j : Nat, j ≤ L ∧ i = .int .i64 j ∧ kk = .int .i64 (k + 3 * ((j : Int) + (sumT n l j : Int))) ∧ Hid (Mks lo hi w wr)) (fun _ i _ => L - (intOf i).toNat)
  case atStart => exact ⟨0, by omega, rfl, by simp [sumT], Mks.refl _ _ _⟩
  case round =>
    obtain ⟨j, hj, rfl, rfl, HM⟩ := hrel
    by_cases hlt : j < L
    · obtain ⟨x, hx⟩ : ∃ x, l[j]? = some x := ⟨_, List.getElem?_eq_getElem (by rw [HL.out]; exact hlt)⟩
      have hsn := sumT_next hx
      have hsl := sumT_le (n := n) (l := l) (j + 1)
      have hsm := size_mem (List.mem_of_getElem? hx)
      have HX : Hid (sumT n l (j + 1) = sumT n l j + (sizeT n x.body + sizeT n x.els) ∧ L + sumT n l (j + 1) ≤ sizeT (n + 1) l ∧ 1 + sizeT n x.body + sizeT n x.els ≤ sizeT (n + 1) l ∧ l[j]? = some x) := ⟨hsn, by rw [← HL.out]; exact hsl, hsm, hx⟩
      clear hsn hsl hsm hx
      generalize hkj : k + 3 * ((j : Int) + (sumT n l j : Int)) = kj
      have HKJ : Hid (k + 3 * ((j : Int) + (sumT n l j : Int)) = kj) := hkj
      have hkj0 : 0 ≤ kj ∧ kj ≤ 1152921504606846973 := by
        have a := HX.out
        have b := H.out
        omega
      clear hkj
      -- the shape at any such world
      have HP : Hid (∀ u, Mks lo hi w u → ∃ (cur : Array Value) (vb ve : Value), u.heap[g]? = some (Obj.cells cur 54 (0, 0)) ∧ L * 5 ≤ cur.size ∧ u.cell? ⟨g, j * 5 + 3, none⟩ = some vb ∧ u.cell? ⟨g, j * 5 + 4, none⟩ = some ve ∧ ShT u lo hi n vb x.body ∧ ShT u lo hi n ve x.els) := fun u hu => by
        have h9 := HS.out.mks hu
        rcases h9 with ⟨e, _⟩ | ⟨g', c', cur, e, _, _, hg, hs, hx⟩
        · rw [HL.out] at e; omega
        · rw [HL.out] at e hs
          simp only [Value.slice.injEq, Option.some.injEq, Addr.mk.injEq, true_and, and_true] at e
          obtain ⟨rfl, rfl⟩ := e
          obtain ⟨vb, ve, e3, e4, hb, hel⟩ := hx j x HX.out.2.2.2
          exact ⟨cur, vb, ve, hg, hs, by rw [cell_of_row u g (j * 5 + 3) cur _ _ hg]; exact e3, by rw [cell_of_row u g (j * 5 + 4) cur _ _ hg]; exact e4, hb, hel⟩
      have HC : Hid (∀ u i, Mks lo hi w u → i < 3 → (∃ q, u.cell? ⟨g, j * 5 + i, none⟩ = some q) ∧ u.frozen? ⟨g, j * 5 + i, none⟩ = false ∧ ∀ y, Mks lo hi w (u.setCell ⟨g, j * 5 + i, none⟩ y)) := fun u i hu hi3 => by
        obtain ⟨cur, vb, ve, hg, hs, _⟩ := HP.out u hu
        refine ⟨⟨cur[j * 5 + i]'(by omega), ?_⟩, frozen_of_row u g (j * 5 + i) cur _ hg, fun y => hu.trans (Mks.set hg H.out.2.2.1 H.out.2.2.2 (by omega) y)⟩
        rw [cell_of_row u g (j * 5 + i) cur _ _ hg]
        exact Array.getElem?_eq_getElem (by omega)
      obtain ⟨⟨q0, c0⟩, f0, s0⟩ := HC.out wr 0 HM.out (by omega)
      rw [Nat.add_zero] at c0 f0
      have M1 : Hid (Mks lo hi w (wr.setCell ⟨g, j * 5, none⟩ (.int .i64 kj))) := by have := s0 (.int .i64 kj); rwa [Nat.add_zero] at this
      clear s0
      go_upto_region 5 with fail
      clear c0 f0 HM
      refine wp_world (fun u => Hid (Mks lo hi w u)) M1 ?_
      clear M1
      rintro U1 M1
      obtain ⟨⟨q1, c1⟩, f1, s1⟩ := HC.out U1 1 M1.out (by omega)
      have M2 : Hid (Mks lo hi w (U1.setCell ⟨g, j * 5 + 1, none⟩ (.int .i64 (kj + 1)))) := s1 _
      clear s1
      go_upto_region 7 with fail
      clear c1 f1 M1
      refine wp_world (fun u => Hid (Mks lo hi w u)) M2 ?_
      clear M2
      rintro U2 M2
      obtain ⟨⟨q2, c2⟩, f2, s2⟩ := HC.out U2 2 M2.out (by omega)
      have M3 : Hid (Mks lo hi w (U2.setCell ⟨g, j * 5 + 2, none⟩ (.int .i64 (kj + 1 + 1)))) := s2 _
      clear s2
      go_upto_region 9 with fail
      clear c2 f2 M2
      refine wp_world (fun u => Hid (Mks lo hi w u)) M3 ?_
      clear M3
      rintro U3 M3
      obtain ⟨_, vb, _, _, _, c3, _, sb, _⟩ := HP.out U3 M3.out
      obtain ⟨ab, cb, eb⟩ := sb.is_slice
      subst eb
      have HSB : Hid (ShT U3 lo hi n (.slice ab (lenT n x.body) cb) x.body) := sb
      clear sb
      generalize lenT n x.body = lb at HSB c3
      go_wp2_with fail
      refine (HI.out lo hi _ x.body (kj + 1 + 1 + 1) U3 HSB.out (by have := HX.out; have := H.out; omega) (by omega) (by have := HX.out; have := H.out; have := HKJ.out; omega)).mono ?_
      rintro e U4 ⟨rfl, m4⟩
      have M4 : Hid (Mks lo hi w U4) := M3.out.trans m4
      clear m4 c3 M3
      obtain ⟨_, _, ve, _, _, _, c4, _, se⟩ := HP.out U4 M4.out
      obtain ⟨ae, ce, ee⟩ := se.is_slice
      subst ee
      have HSE : Hid (ShT U4 lo hi n (.slice ae (lenT n x.els) ce) x.els) := se
      clear se
      generalize lenT n x.els = le at HSE c4
      generalize hk4 : kj + 1 + 1 + 1 + 3 * (sizeT n x.body : Int) = k4
      have HK4 : Hid (kj + 1 + 1 + 1 + 3 * (sizeT n x.body : Int) = k4) := hk4
      clear hk4
      go_wp2_with fail
      refine (HI.out lo hi _ x.els k4 U4 HSE.out (by have := HX.out; have := H.out; omega) (by have := HK4.out; omega) (by have := HK4.out; have := HX.out; have := H.out; have := HKJ.out; omega)).mono ?_
      rintro e U5 ⟨rfl, m5⟩
      have M5 : Hid (Mks lo hi w U5) := M4.out.trans m5
      clear m5 c4 M4
      have HE : Hid (k4 + 3 * (sizeT n x.els : Int) = k + 3 * (((j + 1 : Nat) : Int) + (sumT n l (j + 1) : Int))) := by
        have a := HX.out.1
        have b := HKJ.out
        have d := HK4.out
        show k4 + 3 * (sizeT n x.els : Int) = _
        omega
      rw [HE.out]
      go_wp2_with fail
      go_roundw
      case rel => exact ⟨j + 1, by omega, by go_num, rfl, M5⟩
      case measure => simp [intOf]; omega
    · have hjn : j = L := by omega
      subst hjn
      have HE : Hid (k + 3 * (sizeT (n + 1) l : Int) = k + 3 * ((j : Int) + (sumT n l j : Int))) := by
        have e := sumT_all (n := n) (l := l) (i := j) (by rw [HL.out]; exact Nat.le_refl _)
        rw [HL.out] at e
        show k + 3 * (sizeT (n + 1) l : Int) = _
        rw [e]
        omega
      go_wp2_with fail
      go_ret
      exact ⟨by rw [HE.out]; rfl, HM.out⟩
theorem markStmtS_any (n : Nat) : MsIs n := by
  induction n with
  | zero =>
    intro lo hi v t k w h _ _ _
    obtain ⟨a, c, rfl⟩ := h
    have := markStmtS_none a c k lo hi w
    simpa [sizeT] using this
  | succ n ih => exact fun lo hi v t k w h hs h0 h1 => markStmtS_succ n ih lo hi v t k w h hs h0 h1
/-- The shape of lists of lists. -/
def ShH (w : World) (lo hi n : Nat) (s : Value) (hs : List (TL n)) : Prop := ∃ xs : List (TL n × SL), xs.map Prod.fst = hs ∧ Rd w 1 s hs.length ((xs.map Prod.snd).flatMap slCell) ∧ ∀ x ∈ xs, ShT w lo hi n (slV x.2) x.1
set_option maxHeartbeats 4000000 in
set_option maxRecDepth 100000 in
/-- The list of lists itself lies below lo': it is not marked. -/
theorem markStmtSS_any (n lo hi : Nat) (s : Value) (hs : List (TL n)) (k : Int) (w : World) (hr : ∃ xs : List (TL n × SL), xs.map Prod.fst = hs ∧ (∀ u, Mks lo hi w u → Rd u 1 s hs.length ((xs.map Prod.snd).flatMap slCell)) ∧ ∀ x ∈ xs, ShT w lo hi n (slV x.2) x.1) (hz : sizeH hs ≤ 1048576) (h0 : 0 ≤ k) (h1 : k ≤ 1152921504600000000) :
    Calls Tryz.prog 14 #[s, .int .i64 k] w fun e w' => (∃ k' : Int, e = .returned (.int .i64 k') ∧ 0 ≤ k') ∧ Mks lo hi w w' := by
  obtain ⟨xs, hx1, hx2, hx3⟩ := hr
  obtain ⟨a1, c1, e1⟩ := (hx2 w (Mks.refl _ _ _)).is_slice
  subst e1
  have hl : hs.length ≤ 1048576 := by have := sumH_le hs 0; omega
  have hxl : xs.length = hs.length := by rw [← hx1, List.length_map]
  have H : Hid (xs.map Prod.fst = hs ∧ (∀ u, Mks lo hi w u → Rd u 1 (.slice a1 hs.length c1) hs.length ((xs.map Prod.snd).flatMap slCell)) ∧ (∀ x ∈ xs, ShT w lo hi n (slV x.2) x.1) ∧ sizeH hs ≤ 1048576 ∧ xs.length = hs.length) := ⟨hx1, hx2, hx3, hz, hxl⟩
  clear hx1 hx2 hx3 hz hxl
  generalize hN : hs.length = L at H hl ⊢
  have HL : Hid (hs.length = L) := hN
  clear hN
  go_enter Tryz.func14, Tryz.ntmps14
  go_wp2_with fail
  go_loopw [1, 5] (fun kk i wr => ∃ j : Nat, j ≤ L ∧ i = .int .i64 j ∧ kk = .int .i64 (k + 3 * (sumH hs j : Int)) ∧ Hid (Mks lo hi w wr)) (fun _ i _ => L - (intOf i).toNat)
  case atStart => exact ⟨0, by omega, rfl, by simp [sumH], Mks.refl _ _ _⟩
  case round =>
    obtain ⟨j, hj, rfl, rfl, HM⟩ := hrel
    have hsj := sumH_le hs j
    have hsj2 : (sumH hs j : Int) ≤ 1048576 := by have := H.out.2.2.2.1; omega
    by_cases hlt : j < L
    · obtain ⟨x, hx⟩ : ∃ x, xs[j]? = some x := ⟨_, List.getElem?_eq_getElem (by rw [H.out.2.2.2.2]; exact hlt)⟩
      obtain ⟨g, o, c, e1, i0⟩ := sl_at (H.out.2.1 wr HM.out) (i := j) (z := x.2) (by rw [List.getElem?_map, hx]; rfl)
      simp only [Value.slice.injEq, true_and] at e1
      obtain ⟨rfl, rfl⟩ := e1
      have hhx : hs[j]? = some x.1 := by rw [← H.out.1, List.getElem?_map, hx]; rfl
      have HX : Hid (ShT wr lo hi n (slV x.2) x.1 ∧ sumH hs (j + 1) = sumH hs j + sizeT n x.1 ∧ sizeT n x.1 ≤ 1048576) := ⟨(H.out.2.2.1 x (List.mem_of_getElem? hx)).mks HM.out, sumH_next hhx, Nat.le_trans (sizeH_mem (List.mem_of_getElem? hhx)) H.out.2.2.2.1⟩
      clear hx hhx hsj
      obtain ⟨xt, za, zl, zc⟩ := x
      simp only [slV] at i0 HX
      generalize hkj : k + 3 * (sumH hs j : Int) = kj
      have HKJ : Hid (k + 3 * (sumH hs j : Int) = kj) := hkj
      have hkj0 : 0 ≤ kj ∧ kj ≤ 1152921504603145728 := by omega
      clear hkj
      go_wp2_with fail
      refine (markStmtS_any n lo hi _ xt kj wr HX.out.1 HX.out.2.2 hkj0.1 (by have := HX.out.2.2; omega)).mono ?_
      rintro e U ⟨rfl, m⟩
      have M2 : Hid (Mks lo hi w U) := HM.out.trans m
      have HE : Hid (kj + 3 * (sizeT n xt : Int) = k + 3 * (sumH hs (j + 1) : Int)) := by have a := HX.out.2.1; have b := HKJ.out; show kj + 3 * (sizeT n xt : Int) = _; omega
      clear m HM i0
      rw [HE.out]
      go_wp2_with fail
      go_roundw
      case rel => exact ⟨j + 1, by omega, by go_num, rfl, M2⟩
      case measure => simp [intOf]; omega
    · go_wp2_with fail
      go_ret
      exact ⟨⟨_, rfl, by omega⟩, HM.out⟩
end Go.Proofs.YtalkpddhpmjgcaaGreat
