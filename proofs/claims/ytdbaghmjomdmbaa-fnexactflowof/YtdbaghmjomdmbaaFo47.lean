import Derived.Test.YtdbaghmjomdmbaaFo46
namespace Go.Proofs.Ytdbaghmjomdmbaa
open Go.ChangeShapes Go.WideShapes Go.ChangeAt Go.RowKit
set_option linter.unusedVariables false
def markL (k : Int) (x : ML × Value × Value) : ML × Value × Value := (⟨k, markIs (k + 1) x.1.back.length, markIs (k + 1 + (x.1.back.length : Int)) x.1.blocks.length⟩, x.2)
def nextL (k : Int) (x : ML × Value × Value) : Int := k + 1 + (x.1.back.length : Int) + (x.1.blocks.length : Int)
def markLs : Int → List (ML × Value × Value) → List (ML × Value × Value)
  | _, [] => []
  | k, x :: r => markL k x :: markLs (nextL k x) r
def endL : Int → List (ML × Value × Value) → Int
  | k, [] => k
  | k, x :: r => endL (nextL k x) r
theorem endL_snoc (k : Int) (L : List (ML × Value × Value)) (x : ML × Value × Value) : endL k (L ++ [x]) = nextL (endL k L) x := by
  induction L generalizing k with
  | nil => rfl
  | cons y r ih => simp only [List.cons_append, endL]; exact ih _
theorem markLs_app (k : Int) (L M : List (ML × Value × Value)) : markLs k (L ++ M) = markLs k L ++ markLs (endL k L) M := by
  induction L generalizing k with
  | nil => rfl
  | cons y r ih => simp only [List.cons_append, markLs, endL]; rw [ih]
theorem markLs_snoc (k : Int) (L : List (ML × Value × Value)) (x : ML × Value × Value) : markLs k (L ++ [x]) = markLs k L ++ [markL (endL k L) x] := by rw [markLs_app]; rfl
theorem markLs_length (k : Int) (L : List (ML × Value × Value)) : (markLs k L).length = L.length := by
  induction L generalizing k with
  | nil => rfl
  | cons x r ih => simp [markLs, ih]
theorem endL_le (k : Int) (L : List (ML × Value × Value)) (h : ∀ x ∈ L, x.1.small) : k ≤ endL k L ∧ endL k L ≤ k + 2097153 * (L.length : Int) := by
  induction L generalizing k with
  | nil => simp [endL]
  | cons x r ih =>
    have h1 := h x (by simp)
    have h2 := ih (nextL k x) (fun y hy => h y (by simp [hy]))
    simp only [endL, List.length_cons]
    unfold nextL at h2 ⊢
    unfold ML.small at h1
    omega
/-- Rows of numbers and of loops from base on have turned; all else is as it was. -/
structure Wl (base : Nat) (w w' : World) : Prop where
  bel : Below base w w'
  blk : ∀ (k : Nat) (cur : Array Value) (t : TypeId), w.heap[k]? = some (Obj.cells cur t (0, 0)) → t ≠ 2 → t ≠ 62 → w'.heap[k]? = some (Obj.cells cur t (0, 0))
theorem Wl.refl (base : Nat) (w : World) : Wl base w w := ⟨Below.refl _ _, fun _ _ _ h _ _ => h⟩
theorem Wl.trans {base : Nat} {u v w : World} (h : Wl base u v) (h' : Wl base v w) : Wl base u w := ⟨h.bel.trans h'.bel, fun k cur t hk h1 h2 => h'.blk k cur t (h.blk k cur t hk h1 h2) h1 h2⟩
theorem Wv.wl {base : Nat} {w w' : World} (h : Wv base w w') : Wl base w w' := ⟨h.bel, fun k cur t hk h1 _ => h.blk k cur t hk h1⟩
theorem Wl.of_set {base g : Nat} {w : World} {cur : Array Value} (hg : w.heap[g]? = some (Obj.cells cur 62 (0, 0))) (hb : base ≤ g) (i : Nat) (x : Value) : Wl base w (w.setCell ⟨g, i, none⟩ x) := by
  refine ⟨(Below.refl _ _).setCell hb _, fun k c t hk h1 h2 => ?_⟩
  rw [heap_setCell_other w _ k x ?_]
  · exact hk
  · intro e
    simp only [] at e
    subst e
    rw [hk] at hg
    simp only [Option.some.injEq, Obj.cells.injEq] at hg
    exact h2 hg.2.1
theorem Wl.own {base b : Nat} {w w' : World} (h : Wl base w w') {e : TypeId} {s : Value} {k n : Nat} {xs : List Value} (ho : w.ownsRow b e k s n xs) (h1 : e ≠ 2) (h2 : e ≠ 62) : w'.ownsRow b e k s n xs := by
  refine ⟨ho.1, ?_⟩
  rcases ho.2 with h' | ⟨g, cap, cur, e1, hb1, hg, hr⟩
  · exact .inl h'
  · exact .inr ⟨g, cap, cur, e1, hb1, h.blk g cur e hg h1 h2, hr⟩
theorem set1of3 (A R : List Value) (z0 z1 z2 c0 : Value) (i : Nat) (h : A.length = i) : ((A ++ ([z0, z1, z2] ++ R)).set i c0) = A ++ ([c0, z1, z2] ++ R) := by
  subst h
  simp [List.set_append_right]
set_option maxHeartbeats 4000000 in
set_option maxRecDepth 100000 in
theorem markLoopS_ex (base : Nat) (s : Value) (A : List (Value × List Int)) (F : List (ML × Value × Value)) (k0 : Int) (w : World) (hB : base ≤ w.heap.size) (hn : F.length ≤ 1048576) (hr : ∀ x ∈ F, x.1.small) (h0 : 0 ≤ k0) (h1 : k0 ≤ 281474976710656) (h : w.ownsRow base 62 3 s F.length (F.flatMap lCells)) (hf : Fam w base (A ++ lrows F)) :
    Calls Try.prog 42 #[s, .int .i64 k0] w fun e w' => e = .returned (.int .i64 (endL k0 F)) ∧ w'.ownsRow base 62 3 s F.length ((markLs k0 F).flatMap lCells) ∧ Fam w' base (A ++ lrows (markLs k0 F)) ∧ Wl base w w' := by
  have H : Hid (w.ownsRow base 62 3 s F.length (F.flatMap lCells) ∧ (∀ x ∈ F, x.1.small)) := ⟨h, hr⟩
  have HF0 : Hid (Fam w base (A ++ lrows F)) := hf
  clear hr hf
  rcases own_row h with ⟨rfl, hz⟩ | ⟨g, c, rfl⟩
  · obtain rfl : F = [] := List.eq_nil_of_length_eq_zero hz
    clear h
    go_enter Try.func42, Try.ntmps42
    go_wp2
    go_loopw [1, 5] (fun q i wr => q = .int .i64 k0 ∧ i = .int .i64 0 ∧ wr = w) (fun _ _ _ => 0)
    case atStart => exact ⟨rfl, rfl, rfl⟩
    case round =>
      obtain ⟨rfl, rfl, rfl⟩ := hrel
      go_wp2
      go_ret
      exact ⟨rfl, H.out.1, HF0.out, Wl.refl _ _⟩
  · clear h
    generalize hLL : F.length = n at hn H ⊢
    have HL : Hid (F.length = n) := hLL
    clear hLL
    go_enter Try.func42, Try.ntmps42
    go_wp2
    go_loopw [1, 5] (fun q i wr => ∃ D E : List (ML × Value × Value), Hid (F = D ++ E) ∧ D.length ≤ n ∧ q = .int .i64 (endL k0 D) ∧ i = .int .i64 (D.length : Nat) ∧ Hid (wr.ownsRow base 62 3 (.slice (some ⟨g, 0, none⟩) n c) n ((markLs k0 D ++ E).flatMap lCells) ∧ Fam wr base (A ++ lrows (markLs k0 D) ++ lrows E) ∧ Wl base w wr)) (fun _ i _ => n - (intOf i).toNat)
    case atStart => exact ⟨[], F, rfl, by simp, rfl, rfl, ⟨by simpa [markLs] using H.out.1, by simpa [markLs, lrows] using HF0.out, Wl.refl _ _⟩⟩
    case round =>
      obtain ⟨D, E, HD, hk, rfl, rfl, HM⟩ := hrel
      have hlen : D.length + E.length = n := by have := HL.out; rw [HD.out, List.length_append] at this; exact this
      have hend := endL_le k0 D (fun x hx => H.out.2 x (by rw [HD.out]; simp [hx]))
      generalize hK : endL k0 D = K at hend ⊢
      have HK : Hid (endL k0 D = K) := hK
      clear hK
      cases E with
      | cons x E' =>
        obtain ⟨f, v, v2⟩ := x
        have hlt : D.length < n := by simp only [List.length_cons] at hlen; omega
        have hcl : f.back.length ≤ 1048576 ∧ f.blocks.length ≤ 1048576 := H.out.2 (f, v, v2) (by rw [HD.out]; simp)
        obtain ⟨hcl1, hcl2⟩ := hcl
        have hA : ((markLs k0 D).flatMap lCells).length = D.length * 3 := by rw [flat_length lCells 3 lCells_length, markLs_length]
        have hsp : (markLs k0 D ++ (f, v, v2) :: E').flatMap lCells = (markLs k0 D).flatMap lCells ++ ([.int .i64 f.head, v, v2] ++ E'.flatMap lCells) := by
          rw [List.flatMap_append, List.flatMap_cons]
          rfl
        have hrow := HM.out.1
        rw [hsp] at hrow
        have d0 := hrow.cellAt (D.length * 3) (by omega)
        have d1 := hrow.cellAt (D.length * 3 + 1) (by omega)
        rw [List.getElem?_append_right (by omega), hA] at d0 d1
        rw [Nat.sub_self] at d0
        rw [Nat.add_sub_cancel_left] at d1
        simp only [List.cons_append, List.getElem?_cons_zero, List.getElem?_cons_succ] at d0 d1
        have z0 := hrow.frozenAt (D.length * 3)
        have hdl : (D.length : Int) < (n : Int) := by omega
        have HS : Hid ((wr.setCell ⟨g, D.length * 3, none⟩ (.int .i64 K)).ownsRow base 62 3 (.slice (some ⟨g, 0, none⟩) n c) n ((markLs k0 D).flatMap lCells ++ ([.int .i64 K, v, v2] ++ E'.flatMap lCells)) ∧ Fam (wr.setCell ⟨g, D.length * 3, none⟩ (.int .i64 K)) base (A ++ lrows (markLs k0 D) ++ lrows ((f, v, v2) :: E')) ∧ Wl base w (wr.setCell ⟨g, D.length * 3, none⟩ (.int .i64 K))) := by
          have r1 := (hrow.stored (D.length * 3) (.int .i64 K)).1
          obtain ⟨b0, cur0, g0⟩ := own_blk hrow
          refine ⟨?_, HM.out.2.1.set g0 (by decide) _ _, HM.out.2.2.trans (Wl.of_set g0 b0 _ _)⟩
          rw [set1of3 _ _ _ _ _ _ _ hA] at r1
          exact r1
        have hov := HS.out.2.1.own (v, f.back) (by simp [lrows])
        have hov2 := HS.out.2.1.own (v2, f.blocks) (by simp [lrows])
        simp only [] at hov hov2
        obtain ⟨av, cv, ev⟩ := own_slice hov
        subst ev
        obtain ⟨av2, cv2, ev2⟩ := own_slice hov2
        subst ev2
        have HO : Hid _ := hov
        clear hrow hov hov2 hsp hA
        go_wp2_with fail
        refine (markInt64S_ex base (.slice av f.back.length cv) f.back (K + 1) _ hcl1 (by omega) (by omega) HO.out).mono ?_
        rintro e u ⟨rfl, ho', hg⟩
        have HN : Hid (u.ownsRow base 62 3 (.slice (some ⟨g, 0, none⟩) n c) n ((markLs k0 D).flatMap lCells ++ ([.int .i64 K, .slice av f.back.length cv, .slice av2 f.blocks.length cv2] ++ E'.flatMap lCells)) ∧ Fam u base ((A ++ lrows (markLs k0 D) ++ [(.slice av f.back.length cv, markIs (K + 1) f.back.length)]) ++ (.slice av2 f.blocks.length cv2, f.blocks) :: lrows E') ∧ Wl base w u) := by
          have hwv := Wv.of_row HO.out hg (Nat.le_trans hB HS.out.2.2.bel.size)
          refine ⟨hwv.own HS.out.1 (by decide), ?_, HS.out.2.2.trans hwv.wl⟩
          have hff := HS.out.2.1
          rw [show lrows ((f, Value.slice av f.back.length cv, Value.slice av2 f.blocks.length cv2) :: E') = (Value.slice av f.back.length cv, f.back) :: (Value.slice av2 f.blocks.length cv2, f.blocks) :: lrows E' from rfl] at hff
          have := Fam.put (c' := markIs (K + 1) f.back.length) hff (markIs_length _ _) ho' hg
          simpa [List.append_assoc] using this
        have hA : ((markLs k0 D).flatMap lCells).length = D.length * 3 := by rw [flat_length lCells 3 lCells_length, markLs_length]
        have d2 := HN.out.1.cellAt (D.length * 3 + 2) (by omega)
        rw [List.getElem?_append_right (by omega), hA, Nat.add_sub_cancel_left] at d2
        simp only [List.cons_append, List.getElem?_cons_zero, List.getElem?_cons_succ] at d2
        have HO2 : Hid _ := HN.out.2.1.own (.slice av2 f.blocks.length cv2, f.blocks) (by simp)
        clear ho' hg d0 d1 z0 hA HO HS
        go_wp2_with fail
        refine (markInt64S_ex base (.slice av2 f.blocks.length cv2) f.blocks (K + 1 + (f.back.length : Int)) _ hcl2 (by omega) (by omega) HO2.out).mono ?_
        rintro e u2 ⟨rfl, ho', hg⟩
        have HN2 : Hid (u2.ownsRow base 62 3 (.slice (some ⟨g, 0, none⟩) n c) n ((markLs k0 (D ++ [(f, .slice av f.back.length cv, .slice av2 f.blocks.length cv2)]) ++ E').flatMap lCells) ∧ Fam u2 base (A ++ lrows (markLs k0 (D ++ [(f, .slice av f.back.length cv, .slice av2 f.blocks.length cv2)])) ++ lrows E') ∧ Wl base w u2) := by
          have hwv := Wv.of_row HO2.out hg (Nat.le_trans hB HN.out.2.2.bel.size)
          refine ⟨?_, ?_, HN.out.2.2.trans hwv.wl⟩
          · have := hwv.own HN.out.1 (by decide)
            rw [markLs_snoc, HK.out, List.append_assoc, List.flatMap_append]
            exact this
          · have := Fam.put (c' := markIs (K + 1 + (f.back.length : Int)) f.blocks.length) HN.out.2.1 (markIs_length _ _) ho' hg
            rw [markLs_snoc, HK.out]
            simpa [lrows, markL, List.append_assoc] using this
        have hes : endL k0 (D ++ [(f, .slice av f.back.length cv, .slice av2 f.blocks.length cv2)]) = K + 1 + (f.back.length : Int) + (f.blocks.length : Int) := by rw [endL_snoc, HK.out]; rfl
        clear ho' hg d2 HN HO2
        go_wp2
        go_roundw
        case rel => exact ⟨D ++ [(f, .slice av f.back.length cv, .slice av2 f.blocks.length cv2)], E', by show _ = _; rw [HD.out]; simp, by simp; omega, by rw [hes], by simp, HN2⟩
        case measure => simp [intOf]; omega
      | nil =>
        have hDn : D.length = n := by simpa using hlen
        have hDL : D = F := by rw [HD.out]; simp
        subst hDL
        have HE : Hid (wr.ownsRow base 62 3 (.slice (some ⟨g, 0, none⟩) n c) n ((markLs k0 D).flatMap lCells) ∧ Fam wr base (A ++ lrows (markLs k0 D)) ∧ Wl base w wr) := ⟨by simpa using HM.out.1, by simpa [lrows] using HM.out.2.1, HM.out.2.2⟩
        have hKe := HK.out
        go_wp2
        go_ret
        exact ⟨by simp [hKe], HE.out.1, HE.out.2.1, HE.out.2.2⟩
set_option maxHeartbeats 2000000 in
set_option maxRecDepth 100000 in
theorem heldLoopS_ex (s : Value) (F : List (ML × Value × Value)) (k0 : Int) (w : World) (hn : F.length ≤ 1048576) (hr : ∀ x ∈ F, x.1.small) (h0 : 0 ≤ k0) (h1 : k0 ≤ 281474976710656) (h : Rd w 3 s F.length ((markLs k0 F).flatMap lCells)) (hf : ∀ x ∈ lrows (markLs k0 F), Rd w 1 x.1 x.2.length (x.2.flatMap intCell)) :
    Calls Try.prog 43 #[s, .int .i64 k0] w fun e w' => e = .returned (.int .i64 (endL k0 F)) ∧ w' = w := by
  have H : Hid (Rd w 3 s F.length ((markLs k0 F).flatMap lCells) ∧ (∀ x ∈ F, x.1.small) ∧ ∀ x ∈ lrows (markLs k0 F), Rd w 1 x.1 x.2.length (x.2.flatMap intCell)) := ⟨h, hr, hf⟩
  obtain ⟨a1, c1, rfl⟩ := h.is_slice
  clear h hr hf
  generalize hLL : F.length = n at hn H
  have HL : Hid (F.length = n) := hLL
  clear hLL
  go_enter Try.func43, Try.ntmps43
  go_wp2
  go_loopw [1, 5] (fun q i wr => ∃ D E : List (ML × Value × Value), Hid (F = D ++ E) ∧ D.length ≤ n ∧ q = .int .i64 (endL k0 D) ∧ i = .int .i64 (D.length : Nat) ∧ wr = w) (fun _ i _ => n - (intOf i).toNat)
  case atStart => exact ⟨[], F, rfl, by simp, rfl, rfl, rfl⟩
  case round =>
    obtain ⟨D, E, HD, hk, rfl, rfl, rfl⟩ := hrel
    have hlen : D.length + E.length = n := by have := HL.out; rw [HD.out, List.length_append] at this; exact this
    have hend := endL_le k0 D (fun x hx => H.out.2.1 x (by rw [HD.out]; simp [hx]))
    generalize hK : endL k0 D = K at hend ⊢
    have HK : Hid (endL k0 D = K) := hK
    clear hK
    cases E with
    | cons x E' =>
      obtain ⟨f, v, v2⟩ := x
      have hlt : D.length < n := by simp only [List.length_cons] at hlen; omega
      have hcl : f.back.length ≤ 1048576 ∧ f.blocks.length ≤ 1048576 := H.out.2.1 (f, v, v2) (by rw [HD.out]; simp)
      obtain ⟨hcl1, hcl2⟩ := hcl
      have hsplit : markLs k0 F = markLs k0 D ++ markL K (f, v, v2) :: markLs (nextL K (f, v, v2)) E' := by
        rw [HD.out, markLs_app, HK.out]
        rfl
      have hx : (markLs k0 F)[D.length]? = some (markL K (f, v, v2)) := by
        rw [hsplit, List.getElem?_append_right (by rw [markLs_length]; omega), markLs_length, Nat.sub_self]
        rfl
      have hov := H.out.2.2 (v, markIs (K + 1) f.back.length) (by rw [hsplit]; simp [lrows, markL])
      have hov2 := H.out.2.2 (v2, markIs (K + 1 + (f.back.length : Int)) f.blocks.length) (by rw [hsplit]; simp [lrows, markL])
      simp only [markIs_length] at hov hov2
      rcases H.out.1.2 with ⟨e0, _⟩ | ⟨g, o, cc, e1, hc1⟩
      · omega
      simp only [Value.slice.injEq, true_and] at e1
      obtain ⟨rfl, rfl⟩ := e1
      have j0 := Rd.elem lCells_length hc1 D.length _ hx 0 _ rfl
      have j1 := Rd.elem lCells_length hc1 D.length _ hx 1 _ rfl
      have j2 := Rd.elem lCells_length hc1 D.length _ hx 2 _ rfl
      rw [Nat.add_zero] at j0
      simp only [markL] at j0 j1 j2
      have HO : Hid (Rd wr 1 v f.back.length ((markIs (K + 1) f.back.length).flatMap intCell)) := hov
      have HO2 : Hid (Rd wr 1 v2 f.blocks.length ((markIs (K + 1 + (f.back.length : Int)) f.blocks.length).flatMap intCell)) := hov2
      clear hc1 hx hov hov2 hsplit
      have hdl : (D.length : Int) < (n : Int) := by omega
      have hes : endL k0 (D ++ [(f, v, v2)]) = K + 1 + (f.back.length : Int) + (f.blocks.length : Int) := by rw [endL_snoc, HK.out]; rfl
      have hn0 : ¬ K + 1 + (f.back.length : Int) < 0 := by omega
      have hn1 : ¬ K + 1 + (f.back.length : Int) + (f.blocks.length : Int) < 0 := by omega
      go_wp2_with fail
      refine (heldInt64S_ex v f.back.length (K + 1) _ hcl1 (by omega) (by omega) HO.out).mono ?_
      rintro e u ⟨rfl, rfl⟩
      go_wp2_with fail
      refine (heldInt64S_ex v2 f.blocks.length (K + 1 + (f.back.length : Int)) _ hcl2 (by omega) (by omega) HO2.out).mono ?_
      rintro e u ⟨rfl, rfl⟩
      clear j0 j1 j2
      go_wp2
      go_roundw
      case rel => exact ⟨D ++ [(f, v, v2)], E', by show _ = _; rw [HD.out]; simp, by simp; omega, by rw [hes], by simp, by trivial⟩
      case measure => simp [intOf]; omega
    | nil =>
      have hDn : D.length = n := by simpa using hlen
      have hDL : D = F := by rw [HD.out]; simp
      subst hDL
      have hKe := HK.out
      go_wp2
      go_ret
      exact ⟨by simp [hKe], rfl⟩
end Go.Proofs.Ytdbaghmjomdmbaa
