/- MarkY, MarkZ -/
import Derived.Test.YtkpajiahpmdobaaGreatMMarkX
/- MarkY: markFrameS, heldFrameS to the letter. -/
namespace Go.Proofs.YtkpajiahpmdobaaGreat
open Go.ChangeShapes Go.WideShapes Go.ChangeAt Go.RowKit
set_option linter.unusedVariables false
/-- The rows of frames' locals. -/
def lrows (F : List (MG × Value)) : List (Value × List MC) := F.map fun x => (x.2, x.1.locals)
def markF (k : Int) (x : MG × Value) : MG × Value := (⟨k, k + 1, k + 1 + 1, markVs (k + 1 + 1 + 1) x.1.locals.length⟩, x.2)
def nextF (k : Int) (x : MG × Value) : Int := k + 1 + 1 + 1 + 2 * (x.1.locals.length : Int)
def markFs : Int → List (MG × Value) → List (MG × Value)
  | _, [] => []
  | k, x :: r => markF k x :: markFs (nextF k x) r
def endF : Int → List (MG × Value) → Int
  | k, [] => k
  | k, x :: r => endF (nextF k x) r
theorem endF_snoc (k : Int) (L : List (MG × Value)) (x : MG × Value) : endF k (L ++ [x]) = nextF (endF k L) x := by
  induction L generalizing k with
  | nil => rfl
  | cons y r ih => simp only [List.cons_append, endF]; exact ih _
theorem markFs_app (k : Int) (L M : List (MG × Value)) : markFs k (L ++ M) = markFs k L ++ markFs (endF k L) M := by
  induction L generalizing k with
  | nil => rfl
  | cons y r ih => simp only [List.cons_append, markFs, endF]; rw [ih]
theorem markFs_snoc (k : Int) (L : List (MG × Value)) (x : MG × Value) : markFs k (L ++ [x]) = markFs k L ++ [markF (endF k L) x] := by rw [markFs_app]; rfl
theorem markFs_length (k : Int) (L : List (MG × Value)) : (markFs k L).length = L.length := by
  induction L generalizing k with
  | nil => rfl
  | cons x r ih => simp [markFs, ih]
theorem endF_le (k : Int) (L : List (MG × Value)) (h : ∀ x ∈ L, x.1.locals.length ≤ 1048576) : k ≤ endF k L ∧ endF k L ≤ k + 2097155 * (L.length : Int) := by
  induction L generalizing k with
  | nil => simp [endF]
  | cons x r ih =>
    have h1 := h x (by simp)
    have h2 := ih (nextF k x) (fun y hy => h y (by simp [hy]))
    simp only [endF, List.length_cons]
    unfold nextF at h2 ⊢
    omega
theorem type_apart {w : World} {base g k n : Nat} {e t : TypeId} {s : Value} {xs : List Value} {cur : Array Value} {fr : Nat × Nat} (h : w.ownsRow base e k s n xs) (hg : w.heap[g]? = some (Obj.cells cur t fr)) (hne : e ≠ t) : ∀ j, s.ownBlock = some j → j ≠ g := by
  intro j hj e1
  subst e1
  rcases h.2 with ⟨rfl, _⟩ | ⟨g', cap', cur', rfl, _, hg', _⟩
  · cases hj
  · simp only [Value.ownBlock, Option.some.injEq] at hj
    subst hj
    rw [hg] at hg'
    simp only [Option.some.injEq, Obj.cells.injEq] at hg'
    exact hne hg'.2.1.symm
theorem Fam.set {w : World} {base g : Nat} {L : List (Value × List MC)} (h : Fam w base L) {cur : Array Value} {t : TypeId} {fr : Nat × Nat} (hg : w.heap[g]? = some (Obj.cells cur t fr)) (hne : 102 ≠ t) (i : Nat) (x : Value) : Fam (w.setCell ⟨g, i, none⟩ x) base L :=
  ⟨fun y hy => ownsRow_setCell_other (h.own y hy) (a := ⟨g, i, none⟩) (fun e => type_apart (h.own y hy) hg hne g e rfl) x, h.sep⟩
/-- Rows of values and of frames from base on have turned; all else is as it was. -/
structure Wf (base : Nat) (w w' : World) : Prop where
  bel : Below base w w'
  blk : ∀ (k : Nat) (cur : Array Value) (t : TypeId), w.heap[k]? = some (Obj.cells cur t (0, 0)) → t ≠ 102 → t ≠ 63 → w'.heap[k]? = some (Obj.cells cur t (0, 0))
theorem Wf.refl (base : Nat) (w : World) : Wf base w w := ⟨Below.refl _ _, fun _ _ _ h _ _ => h⟩
theorem Wf.trans {base : Nat} {u v w : World} (h : Wf base u v) (h' : Wf base v w) : Wf base u w := ⟨h.bel.trans h'.bel, fun k cur t hk h1 h2 => h'.blk k cur t (h.blk k cur t hk h1 h2) h1 h2⟩
theorem Wv.wf {base : Nat} {w w' : World} (h : Wv base w w') : Wf base w w' := ⟨h.bel, fun k cur t hk h1 _ => h.blk k cur t hk h1⟩
theorem Wf.of_set {base g : Nat} {w : World} {cur : Array Value} (hg : w.heap[g]? = some (Obj.cells cur 63 (0, 0))) (hb : base ≤ g) (i : Nat) (x : Value) : Wf base w (w.setCell ⟨g, i, none⟩ x) := by
  refine ⟨(Below.refl _ _).setCell hb _, fun k c t hk h1 h2 => ?_⟩
  rw [heap_setCell_other w _ k x ?_]
  · exact hk
  · intro e
    simp only [] at e
    subst e
    rw [hk] at hg
    simp only [Option.some.injEq, Obj.cells.injEq] at hg
    exact h2 hg.2.1
theorem own_blk {w : World} {base g k n c : Nat} {e : TypeId} {xs : List Value} (h : w.ownsRow base e k (.slice (some ⟨g, 0, none⟩) n c) n xs) : base ≤ g ∧ ∃ cur, w.heap[g]? = some (Obj.cells cur e (0, 0)) := by
  rcases h.2 with ⟨h', _⟩ | ⟨g', cap', cur, h', hb, hg, _⟩
  · cases h'
  · cases h'
    exact ⟨hb, cur, hg⟩
theorem set3 (A R : List Value) (z0 z1 z2 z3 c0 c1 c2 : Value) (i : Nat) (h : A.length = i) : (((A ++ ([z0, z1, z2, z3] ++ R)).set i c0).set (i + 1) c1).set (i + 2) c2 = A ++ ([c0, c1, c2, z3] ++ R) := by
  subst h
  simp [List.set_append_right]
set_option maxHeartbeats 4000000 in
set_option maxRecDepth 100000 in
theorem markFrameS_ex (base : Nat) (s : Value) (A B : List (Value × List MC)) (F : List (MG × Value)) (k0 : Int) (w : World) (hB : base ≤ w.heap.size) (hn : F.length ≤ 1048576) (hr : ∀ x ∈ F, x.1.locals.length ≤ 1048576) (h0 : 0 ≤ k0) (h1 : k0 ≤ 281474976710656) (h : w.ownsRow base 63 4 s F.length (F.flatMap gCells)) (hf : Fam w base (A ++ lrows F ++ B)) :
    Calls Tryz.prog 50 #[s, .int .i64 k0] w fun e w' => e = .returned (.int .i64 (endF k0 F)) ∧ w'.ownsRow base 63 4 s F.length ((markFs k0 F).flatMap gCells) ∧ Fam w' base (A ++ lrows (markFs k0 F) ++ B) ∧ Wf base w w' := by
  have H : Hid (w.ownsRow base 63 4 s F.length (F.flatMap gCells) ∧ (∀ x ∈ F, x.1.locals.length ≤ 1048576)) := ⟨h, hr⟩
  have HF0 : Hid (Fam w base (A ++ lrows F ++ B)) := hf
  clear hr hf
  rcases own_row h with ⟨rfl, hz⟩ | ⟨g, c, rfl⟩
  · obtain rfl : F = [] := List.eq_nil_of_length_eq_zero hz
    clear h
    go_enter Tryz.func50, Tryz.ntmps50
    go_wp2
    go_loopw [1, 5] (fun q i wr => q = .int .i64 k0 ∧ i = .int .i64 0 ∧ wr = w) (fun _ _ _ => 0)
    case atStart => exact ⟨rfl, rfl, rfl⟩
    case round =>
      obtain ⟨rfl, rfl, rfl⟩ := hrel
      go_wp2
      go_ret
      exact ⟨rfl, H.out.1, HF0.out, Wf.refl _ _⟩
  · clear h
    generalize hLL : F.length = n at hn H ⊢
    have HL : Hid (F.length = n) := hLL
    clear hLL
    go_enter Tryz.func50, Tryz.ntmps50
    go_wp2
    go_loopw [1, 5] (fun q i wr => ∃ D E : List (MG × Value), Hid (F = D ++ E) ∧ D.length ≤ n ∧ q = .int .i64 (endF k0 D) ∧ i = .int .i64 (D.length : Nat) ∧ Hid (wr.ownsRow base 63 4 (.slice (some ⟨g, 0, none⟩) n c) n ((markFs k0 D ++ E).flatMap gCells) ∧ Fam wr base (A ++ lrows (markFs k0 D) ++ (lrows E ++ B)) ∧ Wf base w wr)) (fun _ i _ => n - (intOf i).toNat)
    case atStart => exact ⟨[], F, rfl, by simp, rfl, rfl, ⟨by simpa [markFs] using H.out.1, by simpa [markFs, lrows] using HF0.out, Wf.refl _ _⟩⟩
    case round =>
      obtain ⟨D, E, HD, hk, rfl, rfl, HM⟩ := hrel
      have hlen : D.length + E.length = n := by have := HL.out; rw [HD.out, List.length_append] at this; exact this
      have hend := endF_le k0 D (fun x hx => H.out.2 x (by rw [HD.out]; simp [hx]))
      generalize hK : endF k0 D = K at hend ⊢
      have HK : Hid (endF k0 D = K) := hK
      clear hK
      cases E with
      | cons x E' =>
        obtain ⟨f, v⟩ := x
        have hlt : D.length < n := by simp only [List.length_cons] at hlen; omega
        have hcl : f.locals.length ≤ 1048576 := H.out.2 (f, v) (by rw [HD.out]; simp)
        have hA : ((markFs k0 D).flatMap gCells).length = D.length * 4 := by rw [flat_length gCells 4 gCells_length, markFs_length]
        have hsp : (markFs k0 D ++ (f, v) :: E').flatMap gCells = (markFs k0 D).flatMap gCells ++ ([.int .i64 f.func, .int .i64 f.at_, .int .i64 f.base, v] ++ E'.flatMap gCells) := by
          rw [List.flatMap_append, List.flatMap_cons]
          rfl
        have hrow := HM.out.1
        rw [hsp] at hrow
        have d0 := hrow.cellAt (D.length * 4) (by omega)
        have d1 := hrow.cellAt (D.length * 4 + 1) (by omega)
        have d2 := hrow.cellAt (D.length * 4 + 2) (by omega)
        have d3 := hrow.cellAt (D.length * 4 + 3) (by omega)
        rw [List.getElem?_append_right (by omega), hA] at d0 d1 d2 d3
        rw [Nat.sub_self] at d0
        rw [Nat.add_sub_cancel_left] at d1 d2 d3
        simp only [List.cons_append, List.getElem?_cons_zero, List.getElem?_cons_succ] at d0 d1 d2 d3
        have z0 := hrow.frozenAt (D.length * 4)
        have z1 := hrow.frozenAt (D.length * 4 + 1)
        have z2 := hrow.frozenAt (D.length * 4 + 2)
        have hdl : (D.length : Int) < (n : Int) := by omega
        have HS : Hid ((((wr.setCell ⟨g, D.length * 4, none⟩ (.int .i64 K)).setCell ⟨g, D.length * 4 + 1, none⟩ (.int .i64 (K + 1))).setCell ⟨g, D.length * 4 + 2, none⟩ (.int .i64 (K + 1 + 1))).ownsRow base 63 4 (.slice (some ⟨g, 0, none⟩) n c) n ((markFs k0 D).flatMap gCells ++ ([.int .i64 K, .int .i64 (K + 1), .int .i64 (K + 1 + 1), v] ++ E'.flatMap gCells)) ∧ Fam (((wr.setCell ⟨g, D.length * 4, none⟩ (.int .i64 K)).setCell ⟨g, D.length * 4 + 1, none⟩ (.int .i64 (K + 1))).setCell ⟨g, D.length * 4 + 2, none⟩ (.int .i64 (K + 1 + 1))) base (A ++ lrows (markFs k0 D) ++ (lrows ((f, v) :: E') ++ B)) ∧ Wf base w (((wr.setCell ⟨g, D.length * 4, none⟩ (.int .i64 K)).setCell ⟨g, D.length * 4 + 1, none⟩ (.int .i64 (K + 1))).setCell ⟨g, D.length * 4 + 2, none⟩ (.int .i64 (K + 1 + 1)))) := by
          have r1 := (hrow.stored (D.length * 4) (.int .i64 K)).1
          have r2 := (r1.stored (D.length * 4 + 1) (.int .i64 (K + 1))).1
          have r3 := (r2.stored (D.length * 4 + 2) (.int .i64 (K + 1 + 1))).1
          obtain ⟨b0, cur0, g0⟩ := own_blk hrow
          obtain ⟨_, cur1, g1⟩ := own_blk r1
          obtain ⟨_, cur2, g2⟩ := own_blk r2
          refine ⟨?_, ((HM.out.2.1.set g0 (by decide) _ _).set g1 (by decide) _ _).set g2 (by decide) _ _, ((HM.out.2.2.trans (Wf.of_set g0 b0 _ _)).trans (Wf.of_set g1 b0 _ _)).trans (Wf.of_set g2 b0 _ _)⟩
          rw [set3 _ _ _ _ _ _ _ _ _ _ hA] at r3
          exact r3
        have hov := HS.out.2.1.own (v, f.locals) (by simp [lrows])
        simp only [] at hov
        obtain ⟨av, cv, ev⟩ := own_slice hov
        subst ev
        have HO : Hid _ := hov
        clear hrow hov hsp hA
        go_wp2_with fail
        refine (markValueS_ex base (.slice av f.locals.length cv) f.locals (K + 1 + 1 + 1) _ hcl (by omega) (by omega) HO.out).mono ?_
        rintro e u ⟨rfl, ho', hg⟩
        have HN : Hid (u.ownsRow base 63 4 (.slice (some ⟨g, 0, none⟩) n c) n ((markFs k0 (D ++ [(f, .slice av f.locals.length cv)]) ++ E').flatMap gCells) ∧ Fam u base (A ++ lrows (markFs k0 (D ++ [(f, .slice av f.locals.length cv)])) ++ (lrows E' ++ B)) ∧ Wf base w u) := by
          have hwv := Wv.of_row HO.out hg (Nat.le_trans hB HS.out.2.2.bel.size)
          refine ⟨?_, ?_, HS.out.2.2.trans hwv.wf⟩
          · have := hwv.own HS.out.1 (by decide)
            rw [markFs_snoc, HK.out, List.append_assoc, List.flatMap_append]
            exact this
          · have hff := HS.out.2.1
            rw [show lrows ((f, Value.slice av f.locals.length cv) :: E') = (Value.slice av f.locals.length cv, f.locals) :: lrows E' from rfl, List.cons_append] at hff
            have := Fam.put (c' := markVs (K + 1 + 1 + 1) f.locals.length) hff (markVs_length _ _) ho' hg
            rw [markFs_snoc, HK.out]
            simpa [lrows, markF, List.append_assoc] using this
        have hes : endF k0 (D ++ [(f, .slice av f.locals.length cv)]) = K + 1 + 1 + 1 + 2 * (f.locals.length : Int) := by rw [endF_snoc, HK.out]; rfl
        clear ho' hg d0 d1 d2 d3 z0 z1 z2
        go_wp2
        go_roundw
        case rel => exact ⟨D ++ [(f, .slice av f.locals.length cv)], E', by show _ = _; rw [HD.out]; simp, by simp; omega, by rw [hes], by simp, HN⟩
        case measure => simp [intOf]; omega
      | nil =>
        have hDn : D.length = n := by simpa using hlen
        have hDL : D = F := by rw [HD.out]; simp
        subst hDL
        have HE : Hid (wr.ownsRow base 63 4 (.slice (some ⟨g, 0, none⟩) n c) n ((markFs k0 D).flatMap gCells) ∧ Fam wr base (A ++ lrows (markFs k0 D) ++ B) ∧ Wf base w wr) := ⟨by simpa using HM.out.1, by simpa [lrows] using HM.out.2.1, HM.out.2.2⟩
        have hKe := HK.out
        go_wp2
        go_ret
        exact ⟨by simp [hKe], HE.out.1, HE.out.2.1, HE.out.2.2⟩
end Go.Proofs.YtkpajiahpmdobaaGreat
/- MarkZ: heldFrameS, markState, heldState to the letter. -/
namespace Go.Proofs.YtkpajiahpmdobaaGreat
open Go.ChangeShapes Go.WideShapes Go.ChangeAt Go.RowKit
set_option linter.unusedVariables false
set_option maxHeartbeats 2000000 in
set_option maxRecDepth 100000 in
theorem heldFrameS_ex (s : Value) (F : List (MG × Value)) (k0 : Int) (w : World) (hn : F.length ≤ 1048576) (hr : ∀ x ∈ F, x.1.locals.length ≤ 1048576) (h0 : 0 ≤ k0) (h1 : k0 ≤ 281474976710656) (h : Rd w 4 s F.length ((markFs k0 F).flatMap gCells)) (hf : ∀ x ∈ lrows (markFs k0 F), Rd w 2 x.1 x.2.length (x.2.flatMap MC.cells)) :
    Calls Tryz.prog 53 #[s, .int .i64 k0] w fun e w' => e = .returned (.int .i64 (endF k0 F)) ∧ w' = w := by
  have H : Hid (Rd w 4 s F.length ((markFs k0 F).flatMap gCells) ∧ (∀ x ∈ F, x.1.locals.length ≤ 1048576) ∧ ∀ x ∈ lrows (markFs k0 F), Rd w 2 x.1 x.2.length (x.2.flatMap MC.cells)) := ⟨h, hr, hf⟩
  obtain ⟨a1, c1, rfl⟩ := h.is_slice
  clear h hr hf
  generalize hLL : F.length = n at hn H
  have HL : Hid (F.length = n) := hLL
  clear hLL
  go_enter Tryz.func53, Tryz.ntmps53
  go_wp2
  go_loopw [1, 5] (fun q i wr => ∃ D E : List (MG × Value), Hid (F = D ++ E) ∧ D.length ≤ n ∧ q = .int .i64 (endF k0 D) ∧ i = .int .i64 (D.length : Nat) ∧ wr = w) (fun _ i _ => n - (intOf i).toNat)
  case atStart => exact ⟨[], F, rfl, by simp, rfl, rfl, rfl⟩
  case round =>
    obtain ⟨D, E, HD, hk, rfl, rfl, rfl⟩ := hrel
    have hlen : D.length + E.length = n := by have := HL.out; rw [HD.out, List.length_append] at this; exact this
    have hend := endF_le k0 D (fun x hx => H.out.2.1 x (by rw [HD.out]; simp [hx]))
    generalize hK : endF k0 D = K at hend ⊢
    have HK : Hid (endF k0 D = K) := hK
    clear hK
    cases E with
    | cons x E' =>
      obtain ⟨f, v⟩ := x
      have hlt : D.length < n := by simp only [List.length_cons] at hlen; omega
      have hcl : f.locals.length ≤ 1048576 := H.out.2.1 (f, v) (by rw [HD.out]; simp)
      have hsplit : markFs k0 F = markFs k0 D ++ markF K (f, v) :: markFs (nextF K (f, v)) E' := by
        rw [HD.out, markFs_app, HK.out]
        rfl
      have hx : (markFs k0 F)[D.length]? = some (markF K (f, v)) := by
        rw [hsplit, List.getElem?_append_right (by rw [markFs_length]; omega), markFs_length, Nat.sub_self]
        rfl
      have hov := H.out.2.2 (v, markVs (K + 1 + 1 + 1) f.locals.length) (by rw [hsplit]; simp [lrows, markF])
      simp only [markVs_length] at hov
      rcases H.out.1.2 with ⟨e0, _⟩ | ⟨g, o, cc, e1, hc1⟩
      · omega
      simp only [Value.slice.injEq, true_and] at e1
      obtain ⟨rfl, rfl⟩ := e1
      have j0 := Rd.elem gCells_length hc1 D.length _ hx 0 _ rfl
      have j1 := Rd.elem gCells_length hc1 D.length _ hx 1 _ rfl
      have j2 := Rd.elem gCells_length hc1 D.length _ hx 2 _ rfl
      have j3 := Rd.elem gCells_length hc1 D.length _ hx 3 _ rfl
      rw [Nat.add_zero] at j0
      simp only [markF] at j0 j1 j2 j3
      have HO : Hid (Rd wr 2 v f.locals.length ((markVs (K + 1 + 1 + 1) f.locals.length).flatMap MC.cells)) := hov
      clear hc1 hx hov hsplit
      have hdl : (D.length : Int) < (n : Int) := by omega
      have hes : endF k0 (D ++ [(f, v)]) = K + 1 + 1 + 1 + 2 * (f.locals.length : Int) := by rw [endF_snoc, HK.out]; rfl
      have hn0 : ¬ K + 1 + 1 + 1 + 2 * (f.locals.length : Int) < 0 := by omega
      go_wp2_with fail
      refine (heldValueS_ex v f.locals.length (K + 1 + 1 + 1) _ hcl (by omega) (by omega) HO.out).mono ?_
      rintro e u ⟨rfl, rfl⟩
      clear j0 j1 j2 j3
      go_wp2
      go_roundw
      case rel => exact ⟨D ++ [(f, v)], E', by show _ = _; rw [HD.out]; simp, by simp; omega, by rw [hes], by simp, by trivial⟩
      case measure => simp [intOf]; omega
    | nil =>
      have hDn : D.length = n := by simpa using hlen
      have hDL : D = F := by rw [HD.out]; simp
      subst hDL
      have hKe := HK.out
      go_wp2
      go_ret
      exact ⟨by simp [hKe], rfl⟩
/-- A state's rows, no two of them one. -/
structure OwnSE (w : World) (base : Nat) (v : VS) (C : List (Value × List MC)) (K : List MC) (F : List (MG × Value)) : Prop where
  cells : w.ownsRow base 34 1 v.c C.length (C.flatMap sCell)
  frames : w.ownsRow base 63 4 v.f F.length (F.flatMap gCells)
  fam : Fam w base (C ++ [(v.k, K)] ++ lrows F)
/-- As the state that they read. -/
def stOf (trap : Int) (done : Bool) (cost steps : Int) (C : List (Value × List MC)) (K : List MC) (F : List (MG × Value)) : MS := ⟨trap, done, cost, steps, C.map Prod.snd, K, F.map Prod.fst⟩
theorem OwnSE.own {w : World} {base : Nat} {v : VS} {C : List (Value × List MC)} {K : List MC} {F : List (MG × Value)} (h : OwnSE w base v C K F) (trap : Int) (done : Bool) (cost steps : Int) : OwnS w base v (stOf trap done cost steps C K F) := by
  refine ⟨⟨C.map fun x => (x.2, x.1), ?_, ?_, ?_⟩, h.fam.own (v.k, K) (by simp), ⟨F, rfl, ?_, ?_⟩⟩
  · simp [stOf, Function.comp_def]
  · rw [List.flatMap_map, show (stOf trap done cost steps C K F).cells.length = C.length by simp [stOf]]
    exact h.cells
  · intro x hx
    obtain ⟨y, hy, rfl⟩ := List.mem_map.1 hx
    exact h.fam.own y (by simp [hy])
  · simpa [stOf] using h.frames
  · intro x hx
    exact h.fam.own (x.2, x.1.locals) (by simp [lrows]; exact .inr (.inr ⟨x.1, x.2, hx, rfl, rfl⟩))
/-- What mark leaves of a state's rows. -/
def kOf (C : List (Value × List MC)) : Int := endK 1 C
def kOf' (C : List (Value × List MC)) (K : List MC) : Int := endK 1 C + 2 * (K.length : Int)
structure SmallSE (C : List (Value × List MC)) (K : List MC) (F : List (MG × Value)) : Prop where
  cells : C.length ≤ 1048576
  cell : ∀ x ∈ C, x.2.length ≤ 1048576
  stack : K.length ≤ 1048576
  frames : F.length ≤ 1048576
  frame : ∀ x ∈ F, x.1.locals.length ≤ 1048576
set_option maxHeartbeats 4000000 in
set_option maxRecDepth 100000 in
theorem markState_ex (base : Nat) (v : VS) (C : List (Value × List MC)) (K : List MC) (F : List (MG × Value)) (tr : Int) (dn : Bool) (co sp : Int) (w : World) (hB : base ≤ w.heap.size) (hs : SmallSE C K F) (h : OwnSE w base v C K F) :
    Calls Tryz.prog 15 #[.agg #[.int .i64 tr, .bool dn, .int .i64 co, .int .i64 sp, v.c, v.k, v.f], .int .i64 1] w fun e w' => e = .returned (.int .i64 (endF (kOf' C K) F)) ∧ OwnSE w' base v (markRows 1 C) (markVs (kOf C) K.length) (markFs (kOf' C K) F) ∧ Wf base w w' := by
  have HS : Hid (SmallSE C K F) := hs
  have hA : (w.alloc (.cells #[.int .i64 tr, .bool dn, .int .i64 co, .int .i64 sp, v.c, v.k, v.f] 37)).ownsRow w.heap.size 37 7 (.slice (some ⟨w.heap.size, 0, none⟩) 1 1) 1 [.int .i64 tr, .bool dn, .int .i64 co, .int .i64 sp, v.c, v.k, v.f] := World.ownsRow_lit (base := w.heap.size) (e := 37) (size := 7) w #[.int .i64 tr, .bool dn, .int .i64 co, .int .i64 sp, v.c, v.k, v.f] 1 (Nat.le_refl _) (by unfold maxLen; omega) (by simp)
  have bA : Below w.heap.size w (w.alloc (.cells #[.int .i64 tr, .bool dn, .int .i64 co, .int .i64 sp, v.c, v.k, v.f] 37)) := (Below.refl _ _).alloc (Nat.le_refl _) _
  have H0 : Hid (OwnSE (w.alloc (.cells #[.int .i64 tr, .bool dn, .int .i64 co, .int .i64 sp, v.c, v.k, v.f] 37)) base v C K F ∧ Wf base w (w.alloc (.cells #[.int .i64 tr, .bool dn, .int .i64 co, .int .i64 sp, v.c, v.k, v.f] 37))) := ⟨⟨own_keep h.cells bA (Nat.le_refl _), own_keep h.frames bA (Nat.le_refl _), ⟨fun x hx => own_keep (h.fam.own x hx) bA (Nat.le_refl _), h.fam.sep⟩⟩, ⟨bA.mono hB, fun k cur t hk _ _ => by rw [bA.block k (Array.getElem?_eq_some_iff.1 hk).1]; exact hk⟩⟩
  have hBW : base ≤ (w.alloc (.cells #[.int .i64 tr, .bool dn, .int .i64 co, .int .i64 sp, v.c, v.k, v.f] 37)).heap.size := Nat.le_trans hB bA.size
  clear hs h bA
  go_enter Tryz.func15, Tryz.ntmps15
  go_wp2_with fail
  generalize w.alloc (.cells #[.int .i64 tr, .bool dn, .int .i64 co, .int .i64 sp, v.c, v.k, v.f] 37) = W1 at hA H0 hBW ⊢
  have HA : Hid (∀ {u : World}, Wf base W1 u → u.cell? ⟨w.heap.size, 4, none⟩ = some v.c ∧ u.cell? ⟨w.heap.size, 5, none⟩ = some v.k ∧ u.cell? ⟨w.heap.size, 6, none⟩ = some v.f) := fun hw => by
    obtain ⟨_, cur, hg⟩ := own_blk hA
    have hr : ∀ {u : World}, Wf base W1 u → u.ownsRow w.heap.size 37 7 (.slice (some ⟨w.heap.size, 0, none⟩) 1 1) 1 [.int .i64 tr, .bool dn, .int .i64 co, .int .i64 sp, v.c, v.k, v.f] := fun hw => by
      refine ⟨hA.1, ?_⟩
      rcases hA.2 with h' | ⟨g, cap, cur, e1, hb1, hg, hr⟩
      · exact .inl h'
      · exact .inr ⟨g, cap, cur, e1, hb1, hw.blk g cur _ hg (by decide) (by decide), hr⟩
    exact ⟨(hr hw).cellAt 4 (by omega), (hr hw).cellAt 5 (by omega), (hr hw).cellAt 6 (by omega)⟩
  clear hA
  refine (markValueSS_ex base v.c [] C ((v.k, K) :: lrows F) 1 _ hBW HS.out.cells HS.out.cell (by omega) (by omega) H0.out.1.cells (by simpa using H0.out.1.fam)).mono ?_
  rintro e u1 ⟨rfl, f1, wv1⟩
  have hk := endK_le 1 C HS.out.cell
  have l1 := HS.out.cells
  have l2 := HS.out.stack
  have l3 := HS.out.frames
  have H1 : Hid (Fam u1 base (markRows 1 C ++ (v.k, K) :: lrows F) ∧ u1.ownsRow base 34 1 v.c C.length (C.flatMap sCell) ∧ u1.ownsRow base 63 4 v.f F.length (F.flatMap gCells) ∧ Wf base W1 u1 ∧ base ≤ u1.heap.size) := ⟨by simpa using f1, wv1.own H0.out.1.cells (by decide), wv1.own H0.out.1.frames (by decide), wv1.wf, Nat.le_trans hBW wv1.bel.size⟩
  clear f1 wv1
  obtain ⟨p4, p5, p6⟩ := HA.out H1.out.2.2.2.1
  have hok := H1.out.1.own (v.k, K) (by simp)
  simp only [] at hok
  have HK : Hid _ := hok
  clear hok
  go_wp2_with fail
  refine (markValueS_ex base v.k K (endK 1 C) _ l2 (by omega) (by omega) HK.out).mono ?_
  rintro e u2 ⟨rfl, o2, g2⟩
  have H2 : Hid (Fam u2 base (markRows 1 C ++ (v.k, markVs (endK 1 C) K.length) :: lrows F) ∧ u2.ownsRow base 34 1 v.c C.length (C.flatMap sCell) ∧ u2.ownsRow base 63 4 v.f F.length (F.flatMap gCells) ∧ Wf base W1 u2 ∧ base ≤ u2.heap.size) := by
    have wv := Wv.of_row HK.out g2 H1.out.2.2.2.2
    exact ⟨Fam.put H1.out.1 (markVs_length _ _) o2 g2, wv.own H1.out.2.1 (by decide), wv.own H1.out.2.2.1 (by decide), H1.out.2.2.2.1.trans wv.wf, Nat.le_trans H1.out.2.2.2.2 wv.bel.size⟩
  clear o2 g2 p4 p5 p6
  obtain ⟨p4, p5, p6⟩ := HA.out H2.out.2.2.2.1
  go_wp2_with fail
  refine (markFrameS_ex base v.f (markRows 1 C ++ [(v.k, markVs (endK 1 C) K.length)]) [] F (endK 1 C + 2 * (K.length : Int)) _ H2.out.2.2.2.2 l3 HS.out.frame (by omega) (by omega) H2.out.2.2.1 (by simpa using H2.out.1)).mono ?_
  rintro e u3 ⟨rfl, o3, f3, wf3⟩
  have H3 : Hid (OwnSE u3 base v (markRows 1 C) (markVs (kOf C) K.length) (markFs (kOf' C K) F) ∧ Wf base w u3) := by
    refine ⟨⟨?_, ?_, ?_⟩, H0.out.2.trans (H2.out.2.2.2.1.trans wf3)⟩
    · rw [markRows_length, markRows_cells]
      have hc := H2.out.2.1
      refine ⟨hc.1, ?_⟩
      rcases hc.2 with h' | ⟨g, cap, cur, e1, hb1, hg, hr⟩
      · exact .inl h'
      · exact .inr ⟨g, cap, cur, e1, hb1, wf3.blk g cur _ hg (by decide) (by decide), hr⟩
    · rw [markFs_length]
      exact o3
    · simpa [kOf, kOf'] using f3
  clear o3 f3 wf3 p4 p5 p6
  go_wp2
  go_ret
  exact ⟨rfl, H3.out.1, H3.out.2⟩
set_option maxHeartbeats 4000000 in
set_option maxRecDepth 100000 in
theorem heldState_ex (base : Nat) (v : VS) (C : List (Value × List MC)) (K : List MC) (F : List (MG × Value)) (tr : Int) (dn : Bool) (co sp : Int) (w : World) (hs : SmallSE C K F) (h : OwnSE w base v (markRows 1 C) (markVs (kOf C) K.length) (markFs (kOf' C K) F)) :
    Calls Tryz.prog 16 #[.agg #[.int .i64 tr, .bool dn, .int .i64 co, .int .i64 sp, v.c, v.k, v.f], .int .i64 1] w fun e w' => e = .returned (.int .i64 (endF (kOf' C K) F)) ∧ Below w.heap.size w w' := by
  have HS : Hid (SmallSE C K F) := hs
  have bA : Below w.heap.size w (w.alloc (.cells #[.int .i64 tr, .bool dn, .int .i64 co, .int .i64 sp, v.c, v.k, v.f] 37)) := (Below.refl _ _).alloc (Nat.le_refl _) _
  have HB : Hid (Below w.heap.size w (w.alloc (.cells #[.int .i64 tr, .bool dn, .int .i64 co, .int .i64 sp, v.c, v.k, v.f] 37))) := bA
  have hk := endK_le 1 C hs.cell
  have l1 := hs.cells
  have l2 := hs.stack
  have l3 := hs.frames
  have hc := Rd.of_own (own_keep h.cells bA (Nat.le_refl _))
  rw [markRows_length, markRows_cells] at hc
  have hfr := Rd.of_own (own_keep h.frames bA (Nat.le_refl _))
  rw [markFs_length] at hfr
  have hkk := Rd.of_own (own_keep (h.fam.own (v.k, markVs (kOf C) K.length) (by simp)) bA (Nat.le_refl _))
  simp only [markVs_length] at hkk
  have H : Hid (Rd (w.alloc (.cells #[.int .i64 tr, .bool dn, .int .i64 co, .int .i64 sp, v.c, v.k, v.f] 37)) 1 v.c C.length (C.flatMap sCell) ∧ Rd (w.alloc (.cells #[.int .i64 tr, .bool dn, .int .i64 co, .int .i64 sp, v.c, v.k, v.f] 37)) 2 v.k K.length ((markVs (kOf C) K.length).flatMap MC.cells) ∧ Rd (w.alloc (.cells #[.int .i64 tr, .bool dn, .int .i64 co, .int .i64 sp, v.c, v.k, v.f] 37)) 4 v.f F.length ((markFs (kOf' C K) F).flatMap gCells) ∧ (∀ x ∈ markRows 1 C, Rd (w.alloc (.cells #[.int .i64 tr, .bool dn, .int .i64 co, .int .i64 sp, v.c, v.k, v.f] 37)) 2 x.1 x.2.length (x.2.flatMap MC.cells)) ∧ ∀ x ∈ lrows (markFs (kOf' C K) F), Rd (w.alloc (.cells #[.int .i64 tr, .bool dn, .int .i64 co, .int .i64 sp, v.c, v.k, v.f] 37)) 2 x.1 x.2.length (x.2.flatMap MC.cells)) :=
    ⟨hc, hkk, hfr, fun x hx => Rd.of_own (own_keep (h.fam.own x (by simp [hx])) bA (Nat.le_refl _)), fun x hx => Rd.of_own (own_keep (h.fam.own x (by simp [hx])) bA (Nat.le_refl _))⟩
  clear hs h bA hc hfr hkk
  unfold kOf kOf' at *
  go_enter Tryz.func16, Tryz.ntmps16
  go_wp2_with fail
  refine (heldValueSS_ex v.c C 1 _ l1 HS.out.cell (by omega) (by omega) H.out.1 H.out.2.2.2.1).mono ?_
  rintro e u1 ⟨rfl, rfl⟩
  have n1 : ¬ endK 1 C < 0 := by omega
  go_wp2_with fail
  refine (heldValueS_ex v.k K.length (endK 1 C) _ l2 (by omega) (by omega) H.out.2.1).mono ?_
  rintro e u1 ⟨rfl, rfl⟩
  have n2 : ¬ endK 1 C + 2 * (K.length : Int) < 0 := by omega
  have hF := endF_le (endK 1 C + 2 * (K.length : Int)) F HS.out.frame
  have n3 : ¬ endF (endK 1 C + 2 * (K.length : Int)) F < 0 := by omega
  go_wp2_with fail
  refine (heldFrameS_ex v.f F (endK 1 C + 2 * (K.length : Int)) _ l3 HS.out.frame (by omega) (by omega) H.out.2.2.1 H.out.2.2.2.2).mono ?_
  rintro e u1 ⟨rfl, rfl⟩
  go_wp2
  go_ret
  exact ⟨rfl, HB.out⟩
end Go.Proofs.YtkpajiahpmdobaaGreat
