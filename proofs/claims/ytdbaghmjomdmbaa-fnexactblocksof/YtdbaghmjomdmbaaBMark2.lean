/- BMark2: blocks: what they read as; markBlockS, heldBlockS to the letter. -/
import Derived.Test.YtdbaghmjomdmbaaBMark1
namespace Go.Proofs.Ytdbaghmjomdmbaa
open Go.ChangeShapes Go.WideShapes Go.ChangeAt Go.RowKit
set_option linter.unusedVariables false
/-- A block. -/
structure MB where
  first : Int
  last : Int
  next : List Int
def bCells (x : MB × Value) : List Value := [.int .i64 x.1.first, .int .i64 x.1.last, x.2]
theorem bCells_length (x : MB × Value) : (bCells x).length = 3 := rfl
theorem infoB : (Try.prog.info? 46).map (fun i => (i.zero, i.size, i.bytes)) = some (some (.agg #[.int .i64 0, .int .i64 0, .slice none 0 0]), 3, 40) := by kernel_rfl
/-- The rows of frames' locals. -/
def nrows (F : List (MB × Value)) : List (Value × List Int) := F.map fun x => (x.2, x.1.next)
def markB (k : Int) (x : MB × Value) : MB × Value := (⟨k, k + 1, markIs (k + 1 + 1) x.1.next.length⟩, x.2)
def nextB (k : Int) (x : MB × Value) : Int := k + 1 + 1 + (x.1.next.length : Int)
def markBs : Int → List (MB × Value) → List (MB × Value)
  | _, [] => []
  | k, x :: r => markB k x :: markBs (nextB k x) r
def endB : Int → List (MB × Value) → Int
  | k, [] => k
  | k, x :: r => endB (nextB k x) r
theorem endB_snoc (k : Int) (L : List (MB × Value)) (x : MB × Value) : endB k (L ++ [x]) = nextB (endB k L) x := by
  induction L generalizing k with
  | nil => rfl
  | cons y r ih => simp only [List.cons_append, endB]; exact ih _
theorem markBs_app (k : Int) (L M : List (MB × Value)) : markBs k (L ++ M) = markBs k L ++ markBs (endB k L) M := by
  induction L generalizing k with
  | nil => rfl
  | cons y r ih => simp only [List.cons_append, markBs, endB]; rw [ih]
theorem markBs_snoc (k : Int) (L : List (MB × Value)) (x : MB × Value) : markBs k (L ++ [x]) = markBs k L ++ [markB (endB k L) x] := by rw [markBs_app]; rfl
theorem markBs_length (k : Int) (L : List (MB × Value)) : (markBs k L).length = L.length := by
  induction L generalizing k with
  | nil => rfl
  | cons x r ih => simp [markBs, ih]
theorem endB_le (k : Int) (L : List (MB × Value)) (h : ∀ x ∈ L, x.1.next.length ≤ 1048576) : k ≤ endB k L ∧ endB k L ≤ k + 1048578 * (L.length : Int) := by
  induction L generalizing k with
  | nil => simp [endB]
  | cons x r ih =>
    have h1 := h x (by simp)
    have h2 := ih (nextB k x) (fun y hy => h y (by simp [hy]))
    simp only [endB, List.length_cons]
    unfold nextB at h2 ⊢
    omega
theorem type_apart {w : World} {base g k n : Nat} {e t : TypeId} {s : Value} {xs : List Value} {cur : Array Value} {fr : Nat × Nat} (h : w.ownsRow base e k s n xs) (hg : w.heap[g]? = some (Obj.cells cur t fr)) (hne : e ≠ t) : ∀ j, s.ownBlock = some j → j ≠ g := by
  intro j hj e1
  subst e1
  rcases h.2 with ⟨rfl, _⟩ | ⟨g', cap', cur', rfl, _, hg', _⟩
  · cases hj
  · simp only [Value.ownBlock, Option.some.injEq] at hj
    subst hj
    rw [hg] at hg'
    simp only [Option.some.injEq, Obj.cells.injEq] at hg'
    exact hne hg'.2.1.symm
theorem Fam.set {w : World} {base g : Nat} {L : List (Value × List Int)} (h : Fam w base L) {cur : Array Value} {t : TypeId} {fr : Nat × Nat} (hg : w.heap[g]? = some (Obj.cells cur t fr)) (hne : 2 ≠ t) (i : Nat) (x : Value) : Fam (w.setCell ⟨g, i, none⟩ x) base L :=
  ⟨fun y hy => ownsRow_setCell_other (h.own y hy) (a := ⟨g, i, none⟩) (fun e => type_apart (h.own y hy) hg hne g e rfl) x, h.sep⟩
/-- Rows of values and of frames from base on have turned; all else is as it was. -/
structure Wb (base : Nat) (w w' : World) : Prop where
  bel : Below base w w'
  blk : ∀ (k : Nat) (cur : Array Value) (t : TypeId), w.heap[k]? = some (Obj.cells cur t (0, 0)) → t ≠ 2 → t ≠ 46 → w'.heap[k]? = some (Obj.cells cur t (0, 0))
theorem Wb.refl (base : Nat) (w : World) : Wb base w w := ⟨Below.refl _ _, fun _ _ _ h _ _ => h⟩
theorem Wb.trans {base : Nat} {u v w : World} (h : Wb base u v) (h' : Wb base v w) : Wb base u w := ⟨h.bel.trans h'.bel, fun k cur t hk h1 h2 => h'.blk k cur t (h.blk k cur t hk h1 h2) h1 h2⟩
theorem Wv.wb {base : Nat} {w w' : World} (h : Wv base w w') : Wb base w w' := ⟨h.bel, fun k cur t hk h1 _ => h.blk k cur t hk h1⟩
theorem Wb.of_set {base g : Nat} {w : World} {cur : Array Value} (hg : w.heap[g]? = some (Obj.cells cur 46 (0, 0))) (hb : base ≤ g) (i : Nat) (x : Value) : Wb base w (w.setCell ⟨g, i, none⟩ x) := by
  refine ⟨(Below.refl _ _).setCell hb _, fun k c t hk h1 h2 => ?_⟩
  rw [heap_setCell_other w _ k x ?_]
  · exact hk
  · intro e
    simp only [] at e
    subst e
    rw [hk] at hg
    simp only [Option.some.injEq, Obj.cells.injEq] at hg
    exact h2 hg.2.1
theorem own_blk {w : World} {base g k n c : Nat} {e : TypeId} {xs : List Value} (h : w.ownsRow base e k (.slice (some ⟨g, 0, none⟩) n c) n xs) : base ≤ g ∧ ∃ cur, w.heap[g]? = some (Obj.cells cur e (0, 0)) := by
  rcases h.2 with ⟨h', _⟩ | ⟨g', cap', cur, h', hb, hg, _⟩
  · cases h'
  · cases h'
    exact ⟨hb, cur, hg⟩
theorem set2of3 (A R : List Value) (z0 z1 z2 c0 c1 : Value) (i : Nat) (h : A.length = i) : ((A ++ ([z0, z1, z2] ++ R)).set i c0).set (i + 1) c1 = A ++ ([c0, c1, z2] ++ R) := by
  subst h
  simp [List.set_append_right]
set_option maxHeartbeats 4000000 in
set_option maxRecDepth 100000 in
theorem markBlockS_ex (base : Nat) (s : Value) (A B : List (Value × List Int)) (F : List (MB × Value)) (k0 : Int) (w : World) (hB : base ≤ w.heap.size) (hn : F.length ≤ 1048576) (hr : ∀ x ∈ F, x.1.next.length ≤ 1048576) (h0 : 0 ≤ k0) (h1 : k0 ≤ 281474976710656) (h : w.ownsRow base 46 3 s F.length (F.flatMap bCells)) (hf : Fam w base (A ++ nrows F ++ B)) :
    Calls Try.prog 12 #[s, .int .i64 k0] w fun e w' => e = .returned (.int .i64 (endB k0 F)) ∧ w'.ownsRow base 46 3 s F.length ((markBs k0 F).flatMap bCells) ∧ Fam w' base (A ++ nrows (markBs k0 F) ++ B) ∧ Wb base w w' := by
  have H : Hid (w.ownsRow base 46 3 s F.length (F.flatMap bCells) ∧ (∀ x ∈ F, x.1.next.length ≤ 1048576)) := ⟨h, hr⟩
  have HF0 : Hid (Fam w base (A ++ nrows F ++ B)) := hf
  clear hr hf
  rcases own_row h with ⟨rfl, hz⟩ | ⟨g, c, rfl⟩
  · obtain rfl : F = [] := List.eq_nil_of_length_eq_zero hz
    clear h
    go_enter Try.func12, Try.ntmps12
    go_wp2
    go_loopw [1, 5] (fun q i wr => q = .int .i64 k0 ∧ i = .int .i64 0 ∧ wr = w) (fun _ _ _ => 0)
    case atStart => exact ⟨rfl, rfl, rfl⟩
    case round =>
      obtain ⟨rfl, rfl, rfl⟩ := hrel
      go_wp2
      go_ret
      exact ⟨rfl, H.out.1, HF0.out, Wb.refl _ _⟩
  · clear h
    generalize hLL : F.length = n at hn H ⊢
    have HL : Hid (F.length = n) := hLL
    clear hLL
    go_enter Try.func12, Try.ntmps12
    go_wp2
    go_loopw [1, 5] (fun q i wr => ∃ D E : List (MB × Value), Hid (F = D ++ E) ∧ D.length ≤ n ∧ q = .int .i64 (endB k0 D) ∧ i = .int .i64 (D.length : Nat) ∧ Hid (wr.ownsRow base 46 3 (.slice (some ⟨g, 0, none⟩) n c) n ((markBs k0 D ++ E).flatMap bCells) ∧ Fam wr base (A ++ nrows (markBs k0 D) ++ (nrows E ++ B)) ∧ Wb base w wr)) (fun _ i _ => n - (intOf i).toNat)
    case atStart => exact ⟨[], F, rfl, by simp, rfl, rfl, ⟨by simpa [markBs] using H.out.1, by simpa [markBs, nrows] using HF0.out, Wb.refl _ _⟩⟩
    case round =>
      obtain ⟨D, E, HD, hk, rfl, rfl, HM⟩ := hrel
      have hlen : D.length + E.length = n := by have := HL.out; rw [HD.out, List.length_append] at this; exact this
      have hend := endB_le k0 D (fun x hx => H.out.2 x (by rw [HD.out]; simp [hx]))
      generalize hK : endB k0 D = K at hend ⊢
      have HK : Hid (endB k0 D = K) := hK
      clear hK
      cases E with
      | cons x E' =>
        obtain ⟨f, v⟩ := x
        have hlt : D.length < n := by simp only [List.length_cons] at hlen; omega
        have hcl : f.next.length ≤ 1048576 := H.out.2 (f, v) (by rw [HD.out]; simp)
        have hA : ((markBs k0 D).flatMap bCells).length = D.length * 3 := by rw [flat_length bCells 3 bCells_length, markBs_length]
        have hsp : (markBs k0 D ++ (f, v) :: E').flatMap bCells = (markBs k0 D).flatMap bCells ++ ([.int .i64 f.first, .int .i64 f.last, v] ++ E'.flatMap bCells) := by
          rw [List.flatMap_append, List.flatMap_cons]
          rfl
        have hrow := HM.out.1
        rw [hsp] at hrow
        have d0 := hrow.cellAt (D.length * 3) (by omega)
        have d1 := hrow.cellAt (D.length * 3 + 1) (by omega)
        have d2 := hrow.cellAt (D.length * 3 + 2) (by omega)
        rw [List.getElem?_append_right (by omega), hA] at d0 d1 d2
        rw [Nat.sub_self] at d0
        rw [Nat.add_sub_cancel_left] at d1 d2
        simp only [List.cons_append, List.getElem?_cons_zero, List.getElem?_cons_succ] at d0 d1 d2
        have z0 := hrow.frozenAt (D.length * 3)
        have z1 := hrow.frozenAt (D.length * 3 + 1)
        have hdl : (D.length : Int) < (n : Int) := by omega
        have HS : Hid (((wr.setCell ⟨g, D.length * 3, none⟩ (.int .i64 K)).setCell ⟨g, D.length * 3 + 1, none⟩ (.int .i64 (K + 1))).ownsRow base 46 3 (.slice (some ⟨g, 0, none⟩) n c) n ((markBs k0 D).flatMap bCells ++ ([.int .i64 K, .int .i64 (K + 1), v] ++ E'.flatMap bCells)) ∧ Fam ((wr.setCell ⟨g, D.length * 3, none⟩ (.int .i64 K)).setCell ⟨g, D.length * 3 + 1, none⟩ (.int .i64 (K + 1))) base (A ++ nrows (markBs k0 D) ++ (nrows ((f, v) :: E') ++ B)) ∧ Wb base w ((wr.setCell ⟨g, D.length * 3, none⟩ (.int .i64 K)).setCell ⟨g, D.length * 3 + 1, none⟩ (.int .i64 (K + 1)))) := by
          have r1 := (hrow.stored (D.length * 3) (.int .i64 K)).1
          have r2 := (r1.stored (D.length * 3 + 1) (.int .i64 (K + 1))).1
          obtain ⟨b0, cur0, g0⟩ := own_blk hrow
          obtain ⟨_, cur1, g1⟩ := own_blk r1
          refine ⟨?_, (HM.out.2.1.set g0 (by decide) _ _).set g1 (by decide) _ _, (HM.out.2.2.trans (Wb.of_set g0 b0 _ _)).trans (Wb.of_set g1 b0 _ _)⟩
          rw [set2of3 _ _ _ _ _ _ _ _ hA] at r2
          exact r2
        have hov := HS.out.2.1.own (v, f.next) (by simp [nrows])
        simp only [] at hov
        obtain ⟨av, cv, ev⟩ := own_slice hov
        subst ev
        have HO : Hid _ := hov
        clear hrow hov hsp hA
        go_wp2_with fail
        refine (markInt64S_ex base (.slice av f.next.length cv) f.next (K + 1 + 1) _ hcl (by omega) (by omega) HO.out).mono ?_
        rintro e u ⟨rfl, ho', hg⟩
        have HN : Hid (u.ownsRow base 46 3 (.slice (some ⟨g, 0, none⟩) n c) n ((markBs k0 (D ++ [(f, .slice av f.next.length cv)]) ++ E').flatMap bCells) ∧ Fam u base (A ++ nrows (markBs k0 (D ++ [(f, .slice av f.next.length cv)])) ++ (nrows E' ++ B)) ∧ Wb base w u) := by
          have hwv := Wv.of_row HO.out hg (Nat.le_trans hB HS.out.2.2.bel.size)
          refine ⟨?_, ?_, HS.out.2.2.trans hwv.wb⟩
          · have := hwv.own HS.out.1 (by decide)
            rw [markBs_snoc, HK.out, List.append_assoc, List.flatMap_append]
            exact this
          · have hff := HS.out.2.1
            rw [show nrows ((f, Value.slice av f.next.length cv) :: E') = (Value.slice av f.next.length cv, f.next) :: nrows E' from rfl, List.cons_append] at hff
            have := Fam.put (c' := markIs (K + 1 + 1) f.next.length) hff (markIs_length _ _) ho' hg
            rw [markBs_snoc, HK.out]
            simpa [nrows, markB, List.append_assoc] using this
        have hes : endB k0 (D ++ [(f, .slice av f.next.length cv)]) = K + 1 + 1 + (f.next.length : Int) := by rw [endB_snoc, HK.out]; rfl
        clear ho' hg d0 d1 d2 z0 z1
        go_wp2
        go_roundw
        case rel => exact ⟨D ++ [(f, .slice av f.next.length cv)], E', by show _ = _; rw [HD.out]; simp, by simp; omega, by rw [hes], by simp, HN⟩
        case measure => simp [intOf]; omega
      | nil =>
        have hDn : D.length = n := by simpa using hlen
        have hDL : D = F := by rw [HD.out]; simp
        subst hDL
        have HE : Hid (wr.ownsRow base 46 3 (.slice (some ⟨g, 0, none⟩) n c) n ((markBs k0 D).flatMap bCells) ∧ Fam wr base (A ++ nrows (markBs k0 D) ++ B) ∧ Wb base w wr) := ⟨by simpa using HM.out.1, by simpa [nrows] using HM.out.2.1, HM.out.2.2⟩
        have hKe := HK.out
        go_wp2
        go_ret
        exact ⟨by simp [hKe], HE.out.1, HE.out.2.1, HE.out.2.2⟩
set_option maxHeartbeats 2000000 in
set_option maxRecDepth 100000 in
theorem heldBlockS_ex (s : Value) (F : List (MB × Value)) (k0 : Int) (w : World) (hn : F.length ≤ 1048576) (hr : ∀ x ∈ F, x.1.next.length ≤ 1048576) (h0 : 0 ≤ k0) (h1 : k0 ≤ 281474976710656) (h : Rd w 3 s F.length ((markBs k0 F).flatMap bCells)) (hf : ∀ x ∈ nrows (markBs k0 F), Rd w 1 x.1 x.2.length (x.2.flatMap intCell)) :
    Calls Try.prog 13 #[s, .int .i64 k0] w fun e w' => e = .returned (.int .i64 (endB k0 F)) ∧ w' = w := by
  have H : Hid (Rd w 3 s F.length ((markBs k0 F).flatMap bCells) ∧ (∀ x ∈ F, x.1.next.length ≤ 1048576) ∧ ∀ x ∈ nrows (markBs k0 F), Rd w 1 x.1 x.2.length (x.2.flatMap intCell)) := ⟨h, hr, hf⟩
  obtain ⟨a1, c1, rfl⟩ := h.is_slice
  clear h hr hf
  generalize hLL : F.length = n at hn H
  have HL : Hid (F.length = n) := hLL
  clear hLL
  go_enter Try.func13, Try.ntmps13
  go_wp2
  go_loopw [1, 5] (fun q i wr => ∃ D E : List (MB × Value), Hid (F = D ++ E) ∧ D.length ≤ n ∧ q = .int .i64 (endB k0 D) ∧ i = .int .i64 (D.length : Nat) ∧ wr = w) (fun _ i _ => n - (intOf i).toNat)
  case atStart => exact ⟨[], F, rfl, by simp, rfl, rfl, rfl⟩
  case round =>
    obtain ⟨D, E, HD, hk, rfl, rfl, rfl⟩ := hrel
    have hlen : D.length + E.length = n := by have := HL.out; rw [HD.out, List.length_append] at this; exact this
    have hend := endB_le k0 D (fun x hx => H.out.2.1 x (by rw [HD.out]; simp [hx]))
    generalize hK : endB k0 D = K at hend ⊢
    have HK : Hid (endB k0 D = K) := hK
    clear hK
    cases E with
    | cons x E' =>
      obtain ⟨f, v⟩ := x
      have hlt : D.length < n := by simp only [List.length_cons] at hlen; omega
      have hcl : f.next.length ≤ 1048576 := H.out.2.1 (f, v) (by rw [HD.out]; simp)
      have hsplit : markBs k0 F = markBs k0 D ++ markB K (f, v) :: markBs (nextB K (f, v)) E' := by
        rw [HD.out, markBs_app, HK.out]
        rfl
      have hx : (markBs k0 F)[D.length]? = some (markB K (f, v)) := by
        rw [hsplit, List.getElem?_append_right (by rw [markBs_length]; omega), markBs_length, Nat.sub_self]
        rfl
      have hov := H.out.2.2 (v, markIs (K + 1 + 1) f.next.length) (by rw [hsplit]; simp [nrows, markB])
      simp only [markIs_length] at hov
      rcases H.out.1.2 with ⟨e0, _⟩ | ⟨g, o, cc, e1, hc1⟩
      · omega
      simp only [Value.slice.injEq, true_and] at e1
      obtain ⟨rfl, rfl⟩ := e1
      have j0 := Rd.elem bCells_length hc1 D.length _ hx 0 _ rfl
      have j1 := Rd.elem bCells_length hc1 D.length _ hx 1 _ rfl
      have j2 := Rd.elem bCells_length hc1 D.length _ hx 2 _ rfl
      rw [Nat.add_zero] at j0
      simp only [markB] at j0 j1 j2
      have HO : Hid (Rd wr 1 v f.next.length ((markIs (K + 1 + 1) f.next.length).flatMap intCell)) := hov
      clear hc1 hx hov hsplit
      have hdl : (D.length : Int) < (n : Int) := by omega
      have hes : endB k0 (D ++ [(f, v)]) = K + 1 + 1 + (f.next.length : Int) := by rw [endB_snoc, HK.out]; rfl
      have hn0 : ¬ K + 1 + 1 + (f.next.length : Int) < 0 := by omega
      go_wp2_with fail
      refine (heldInt64S_ex v f.next.length (K + 1 + 1) _ hcl (by omega) (by omega) HO.out).mono ?_
      rintro e u ⟨rfl, rfl⟩
      clear j0 j1 j2
      go_wp2
      go_roundw
      case rel => exact ⟨D ++ [(f, v)], E', by show _ = _; rw [HD.out]; simp, by simp; omega, by rw [hes], by simp, by trivial⟩
      case measure => simp [intOf]; omega
    | nil =>
      have hDn : D.length = n := by simpa using hlen
      have hDL : D = F := by rw [HD.out]; simp
      subst hDL
      have hKe := HK.out
      go_wp2
      go_ret
      exact ⟨by simp [hKe], rfl⟩
end Go.Proofs.Ytdbaghmjomdmbaa
