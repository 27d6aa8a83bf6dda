import Derived.Test.YtnemieeeappgnaaGreatDoorDc10
namespace Go.Proofs.YtnemieeeappgnaaGreatDoor
open Go.ChangeShapes Go.WideShapes Go.ChangeAt Go.RowKit
set_option linter.unusedVariables false
theorem grown_refl (w : World) (r : Option Nat) : w.grownBy w r := ⟨rfl, rfl, rfl, Nat.le_refl _, fun _ _ _ => rfl⟩
theorem set2of4 (A R : List Value) (z0 z1 z2 z3 c1 : Value) (i : Nat) (h : A.length = i) : ((A ++ ([z0, z1, z2, z3] ++ R)).set (i + 1) c1) = A ++ ([z0, c1, z2, z3] ++ R) := by
  subst h
  simp [List.set_append_right]
theorem fItems_app (G H : List (MF × VF)) : fItems (G ++ H) = fItems G ++ fItems H := by simp [fItems]
theorem fItems_cons (y : MF × VF) (H : List (MF × VF)) : fItems (y :: H) = iRow y.2.p y.1.params :: iRow y.2.l y.1.locals :: nRow y.2.c y.1.code :: fItems H := by simp [fItems, fItem]
set_option maxHeartbeats 4000000 in
set_option maxRecDepth 100000 in
theorem markFuncS_sep (base : Nat) (s : Value) (A B : List RowI) (F : List (MF × VF)) (k0 : Int) (w : World) (hB : base ≤ w.heap.size) (hn : F.length ≤ 1048576) (hr : ∀ x ∈ F, x.1.small) (h0 : 0 ≤ k0) (h1 : k0 ≤ 281474976710656) (h : Sep w base (A ++ fHead s F :: fItems F ++ B)) :
    Calls Tryz.prog 38 #[s, .int .i64 k0] w fun e w' => e = .returned (.int .i64 (endF k0 F)) ∧ Sep w' base (A ++ fHead s (markFs k0 F) :: fItems (markFs k0 F) ++ B) ∧ Below base w w' := by
  have H : Hid (Sep w base (A ++ fHead s F :: fItems F ++ B) ∧ (∀ x ∈ F, x.1.small)) := ⟨h, hr⟩
  have hml := markFs_length k0 F
  rcases (h.own (fHead s F) (by simp)).2 with ⟨e1, hz⟩ | ⟨g, c1, cur, e1, _⟩
  · have hz' : F = [] := List.eq_nil_of_length_eq_zero hz
    subst hz'
    have e2 : s = .slice none 0 0 := e1
    subst e2
    clear h hr e1 hz
    go_enter Tryz.func38, Tryz.ntmps38
    go_wp2
    go_loopw [1, 5] (fun q i wr => q = .int .i64 k0 ∧ i = .int .i64 0 ∧ wr = w) (fun _ _ _ => 0)
    case atStart => exact ⟨rfl, rfl, rfl⟩
    case round =>
      obtain ⟨rfl, rfl, rfl⟩ := hrel
      go_wp2
      go_ret
      exact ⟨rfl, H.out.1, Below.refl _ _⟩
  have e2 : s = .slice (some ⟨g, 0, none⟩) F.length c1 := e1
  subst e2
  clear h hr e1
  simp only [fHead] at H ⊢
  rw [hml]
  clear hml
  generalize hLL : F.length = n at *
  have HLn : Hid (F.length = n) := hLL
  clear hLL
  go_enter Tryz.func38, Tryz.ntmps38
  go_wp2
  go_loopw [1, 5] (fun q i wr => ∃ D E : List (MF × VF), Hid (F = D ++ E) ∧ D.length ≤ n ∧ q = .int .i64 (endF k0 D) ∧ i = .int .i64 (D.length : Nat) ∧ Hid (Sep wr base (A ++ ⟨64, 4, .slice (some ⟨g, 0, none⟩) n c1, n, (markFs k0 D ++ E).flatMap fCells⟩ :: fItems (markFs k0 D ++ E) ++ B) ∧ Below base w wr)) (fun _ i _ => n - (intOf i).toNat)
  case atStart => exact ⟨[], F, rfl, by simp, rfl, rfl, ⟨by simpa [markFs] using H.out.1, Below.refl _ _⟩⟩
  case round =>
    obtain ⟨D, E, HD, hk, rfl, rfl, HM⟩ := hrel
    have hlen : D.length + E.length = n := by have := HLn.out; rw [HD.out, List.length_append] at this; exact this
    have hend := endF_le k0 D (fun x hx => H.out.2 x (by rw [HD.out]; simp [hx]))
    generalize hK : endF k0 D = K at hend ⊢
    have HK : Hid (endF k0 D = K) := hK
    clear hK
    cases E with
    | cons x E' =>
      obtain ⟨⟨ps, rs, ls, cs⟩, ⟨vp, vl, vc⟩⟩ := x
      have hlt : D.length < n := by simp only [List.length_cons] at hlen; omega
      have hcl : ps.length ≤ 1048576 ∧ ls.length ≤ 1048576 ∧ cs.length ≤ 1048576 := H.out.2 (⟨ps, rs, ls, cs⟩, ⟨vp, vl, vc⟩) (by rw [HD.out]; simp)
      obtain ⟨hc1, hc2, hc3⟩ := hcl
      have hA : ((markFs k0 D).flatMap fCells).length = D.length * 4 := by rw [flat_length fCells 4 fCells_length, markFs_length]
      have hsp : (markFs k0 D ++ (⟨ps, rs, ls, cs⟩, ⟨vp, vl, vc⟩) :: E').flatMap fCells = (markFs k0 D).flatMap fCells ++ ([vp, .int .i64 rs, vl, vc] ++ E'.flatMap fCells) := by
        rw [List.flatMap_append, List.flatMap_cons]
        rfl
      have hs0 := HM.out.1
      rw [hsp, fItems_app, fItems_cons] at hs0
      simp only [] at hs0
      have HEQ : Hid ((markFs k0 (D ++ [(⟨ps, rs, ls, cs⟩, ⟨vp, vl, vc⟩)]) ++ E').flatMap fCells = (markFs k0 D).flatMap fCells ++ ([vp, .int .i64 (K + (ps.length : Int)), vl, vc] ++ E'.flatMap fCells) ∧ fItems (markFs k0 (D ++ [(⟨ps, rs, ls, cs⟩, ⟨vp, vl, vc⟩)]) ++ E') = fItems (markFs k0 D) ++ iRow vp (markIs K ps.length) :: iRow vl (markIs (K + (ps.length : Int) + 1) ls.length) :: nRow vc (mkRow mkI 4 (K + (ps.length : Int) + 1 + (ls.length : Int)) cs.length) :: fItems E' ∧ endF k0 (D ++ [(⟨ps, rs, ls, cs⟩, ⟨vp, vl, vc⟩)]) = K + (ps.length : Int) + 1 + (ls.length : Int) + 4 * (cs.length : Int)) := by
        refine ⟨?_, ?_, by rw [endF_snoc, HK.out]; rfl⟩
        · rw [markFs_app, HK.out, List.append_assoc, List.flatMap_append]
          rfl
        · rw [markFs_app, HK.out, List.append_assoc, fItems_app]
          simp only [markFs, List.cons_append, List.nil_append]
          rw [fItems_cons]
          rfl
      have HFD : Hid (F = (D ++ [(⟨ps, rs, ls, cs⟩, ⟨vp, vl, vc⟩)]) ++ E') := by show _ = _; rw [HD.out]; simp
      have hDl : (D ++ [((⟨ps, rs, ls, cs⟩, ⟨vp, vl, vc⟩) : MF × VF)]).length = D.length + 1 := by simp
      generalize (markFs k0 D).flatMap fCells = M at hA hs0 HEQ
      generalize E'.flatMap fCells = R at hs0 HEQ
      generalize fItems (markFs k0 D) = MI1 at hs0 HEQ
      generalize fItems E' = T1 at hs0 HEQ
      generalize hDD : D ++ [((⟨ps, rs, ls, cs⟩, ⟨vp, vl, vc⟩) : MF × VF)] = D' at HEQ HFD hDl
      clear hDD hsp
      have S0 : Hid (Sep wr base ((A ++ ⟨64, 4, .slice (some ⟨g, 0, none⟩) n c1, n, M ++ ([vp, .int .i64 rs, vl, vc] ++ R)⟩ :: MI1) ++ iRow vp ps :: (iRow vl ls :: nRow vc cs :: (T1 ++ B)))) := by
        show Sep _ _ _
        simpa [List.append_assoc] using hs0
      clear hs0
      obtain ⟨ap, cp, e1⟩ := own_sl (S0.out.own (iRow vp ps) (by simp))
      obtain ⟨al, cl, e2⟩ := own_sl (S0.out.own (iRow vl ls) (by simp))
      obtain ⟨ac, cc, e3⟩ := own_sl (S0.out.own (nRow vc cs) (by simp))
      simp only [iRow, nRow] at e1 e2 e3
      subst e1 e2 e3
      have hrow := S0.out.own ⟨64, 4, .slice (some ⟨g, 0, none⟩) n c1, n, M ++ ([.slice ap ps.length cp, .int .i64 rs, .slice al ls.length cl, .slice ac cs.length cc] ++ R)⟩ (by simp)
      have d0 := World.ownsRow.cellAt (show wr.ownsRow base 64 4 (.slice (some ⟨g, 0, none⟩) n c1) n (M ++ ([.slice ap ps.length cp, .int .i64 rs, .slice al ls.length cl, .slice ac cs.length cc] ++ R)) from hrow) (D.length * 4) (by omega)
      rw [List.getElem?_append_right (by omega), hA, Nat.sub_self] at d0
      simp only [List.cons_append, List.getElem?_cons_zero] at d0
      have hdl : (D.length : Int) < (n : Int) := by omega
      clear hrow
      have hbz : base ≤ wr.heap.size := Nat.le_trans hB HM.out.2.size
      go_wp2_with fail
      refine (markInt64S_ex base (.slice ap ps.length cp) ps K _ hc1 (by omega) (by omega) (S0.out.own (iRow (.slice ap ps.length cp) ps) (by simp))).mono ?_
      rintro e u1 ⟨rfl, ho, hg⟩
      have S1 : Hid (Sep u1 base (A ++ ⟨64, 4, .slice (some ⟨g, 0, none⟩) n c1, n, M ++ ([.slice ap ps.length cp, .int .i64 rs, .slice al ls.length cl, .slice ac cs.length cc] ++ R)⟩ :: (MI1 ++ iRow (.slice ap ps.length cp) (markIs K ps.length) :: iRow (.slice al ls.length cl) ls :: nRow (.slice ac cs.length cc) cs :: (T1 ++ B))) ∧ Below base w u1) := by
        refine ⟨?_, HM.out.2.grown hg hbz (fun k hk => ((S0.out.own (iRow (.slice ap ps.length cp) ps) (by simp)).lt k hk).1)⟩
        have := S0.out.put ((markIs K ps.length).flatMap intCell) ho hg
        simpa [iRow, markIs_length, List.append_assoc] using this
      clear ho hg d0 S0
      have hro : RowI.own u1 base ⟨64, 4, .slice (some ⟨g, 0, none⟩) n c1, n, M ++ ([.slice ap ps.length cp, .int .i64 rs, .slice al ls.length cl, .slice ac cs.length cc] ++ R)⟩ := S1.out.1.own _ (by simp)
      have hrow : u1.ownsRow base 64 4 (.slice (some ⟨g, 0, none⟩) n c1) n (M ++ ([.slice ap ps.length cp, .int .i64 rs, .slice al ls.length cl, .slice ac cs.length cc] ++ R)) := hro
      clear hro
      have d1 := hrow.cellAt (D.length * 4 + 1) (by omega)
      rw [List.getElem?_append_right (by omega), hA, Nat.add_sub_cancel_left] at d1
      simp only [List.cons_append, List.getElem?_cons_zero, List.getElem?_cons_succ] at d1
      have z1 := hrow.frozenAt (D.length * 4 + 1)
      have r1 := (hrow.stored (D.length * 4 + 1) (.int .i64 (K + (ps.length : Int)))).1
      rw [set2of4 _ _ _ _ _ _ _ _ hA] at r1
      have S2 : Hid (Sep (u1.setCell ⟨g, D.length * 4 + 1, none⟩ (.int .i64 (K + (ps.length : Int)))) base (A ++ ⟨64, 4, .slice (some ⟨g, 0, none⟩) n c1, n, M ++ ([.slice ap ps.length cp, .int .i64 (K + (ps.length : Int)), .slice al ls.length cl, .slice ac cs.length cc] ++ R)⟩ :: (MI1 ++ iRow (.slice ap ps.length cp) (markIs K ps.length) :: iRow (.slice al ls.length cl) ls :: nRow (.slice ac cs.length cc) cs :: (T1 ++ B))) ∧ Below base w (u1.setCell ⟨g, D.length * 4 + 1, none⟩ (.int .i64 (K + (ps.length : Int))))) := ⟨S1.out.1.put _ r1 (grown_set' (grown_refl _ _) _ _), S1.out.2.setCell (hrow.lt g rfl).1 _⟩
      have d2 := r1.cellAt (D.length * 4 + 2) (by omega)
      rw [List.getElem?_append_right (by omega), hA, Nat.add_sub_cancel_left] at d2
      simp only [List.cons_append, List.getElem?_cons_zero, List.getElem?_cons_succ] at d2
      clear S1 hrow r1
      have S2' : Hid (Sep (u1.setCell ⟨g, D.length * 4 + 1, none⟩ (.int .i64 (K + (ps.length : Int)))) base ((A ++ ⟨64, 4, .slice (some ⟨g, 0, none⟩) n c1, n, M ++ ([.slice ap ps.length cp, .int .i64 (K + (ps.length : Int)), .slice al ls.length cl, .slice ac cs.length cc] ++ R)⟩ :: (MI1 ++ [iRow (.slice ap ps.length cp) (markIs K ps.length)])) ++ iRow (.slice al ls.length cl) ls :: (nRow (.slice ac cs.length cc) cs :: (T1 ++ B)))) := by
        show Sep _ _ _
        simpa [List.append_assoc] using S2.out.1
      have hbz2 : base ≤ (u1.setCell ⟨g, D.length * 4 + 1, none⟩ (.int .i64 (K + (ps.length : Int)))).heap.size := Nat.le_trans hB S2.out.2.size
      have HO2 : Hid ((u1.setCell ⟨g, D.length * 4 + 1, none⟩ (.int .i64 (K + (ps.length : Int)))).ownsRow base 2 1 (.slice al ls.length cl) ls.length (ls.flatMap intCell)) := S2'.out.own (iRow (.slice al ls.length cl) ls) (by simp)
      have hw1 : IntKind.i64.wrap (K + (ps.length : Int)) = K + (ps.length : Int) := by rw [IntKind.wrap_i64]; omega
      go_wp2_with fail
      refine (markInt64S_ex base (.slice al ls.length cl) ls (K + (ps.length : Int) + 1) _ hc2 (by omega) (by omega) HO2.out).mono ?_
      rintro e u3 ⟨rfl, ho, hg⟩
      have S3 : Hid (Sep u3 base ((A ++ ⟨64, 4, .slice (some ⟨g, 0, none⟩) n c1, n, M ++ ([.slice ap ps.length cp, .int .i64 (K + (ps.length : Int)), .slice al ls.length cl, .slice ac cs.length cc] ++ R)⟩ :: (MI1 ++ [iRow (.slice ap ps.length cp) (markIs K ps.length), iRow (.slice al ls.length cl) (markIs (K + (ps.length : Int) + 1) ls.length)])) ++ nRow (.slice ac cs.length cc) cs :: (T1 ++ B)) ∧ Below base w u3) := by
        refine ⟨?_, S2.out.2.grown hg hbz2 (fun k hk => (HO2.out.lt k hk).1)⟩
        have := S2'.out.put ((markIs (K + (ps.length : Int) + 1) ls.length).flatMap intCell) ho hg
        simpa [iRow, markIs_length, List.append_assoc] using this
      clear ho hg d1 d2 z1 S2 S2' HO2 hbz2 hw1
      have hro : RowI.own u3 base ⟨64, 4, .slice (some ⟨g, 0, none⟩) n c1, n, M ++ ([.slice ap ps.length cp, .int .i64 (K + (ps.length : Int)), .slice al ls.length cl, .slice ac cs.length cc] ++ R)⟩ := S3.out.1.own _ (by simp)
      have hrow : u3.ownsRow base 64 4 (.slice (some ⟨g, 0, none⟩) n c1) n (M ++ ([.slice ap ps.length cp, .int .i64 (K + (ps.length : Int)), .slice al ls.length cl, .slice ac cs.length cc] ++ R)) := hro
      clear hro
      have d3 := hrow.cellAt (D.length * 4 + 3) (by omega)
      rw [List.getElem?_append_right (by omega), hA, Nat.add_sub_cancel_left] at d3
      simp only [List.cons_append, List.getElem?_cons_zero, List.getElem?_cons_succ] at d3
      have HO3 : Hid (u3.ownsRow base 73 4 (.slice ac cs.length cc) cs.length (cs.flatMap MI.cells)) := S3.out.1.own (nRow (.slice ac cs.length cc) cs) (by simp)
      have hbz3 : base ≤ u3.heap.size := Nat.le_trans hB S3.out.2.size
      clear hrow
      go_wp2_with fail
      refine (markInstrS_ex base (.slice ac cs.length cc) cs (K + (ps.length : Int) + 1 + (ls.length : Int)) _ hc3 (by omega) (by omega) HO3.out).mono ?_
      rintro e u4 ⟨rfl, ho, hg⟩
      have S4 : Hid (Sep u4 base (A ++ ⟨64, 4, .slice (some ⟨g, 0, none⟩) n c1, n, (markFs k0 D' ++ E').flatMap fCells⟩ :: fItems (markFs k0 D' ++ E') ++ B) ∧ Below base w u4) := by
        refine ⟨?_, S3.out.2.grown hg hbz3 (fun k hk => (HO3.out.lt k hk).1)⟩
        have := S3.out.1.put ((mkRow mkI 4 (K + (ps.length : Int) + 1 + (ls.length : Int)) cs.length).flatMap MI.cells) ho hg
        rw [HEQ.out.1, HEQ.out.2.1]
        simpa [iRow, nRow, markIs_length, mkRow_length, List.append_assoc] using this
      clear ho hg d3 S3 HO3 hbz3 hA
      go_wp2
      go_roundw
      case rel => exact ⟨D', E', HFD, by omega, by rw [HEQ.out.2.2], by rw [hDl]; simp, S4⟩
      case measure => simp [intOf]; omega
    | nil =>
      have hDn : D.length = n := by simpa using hlen
      have hDL : D = F := by rw [HD.out]; simp
      subst hDL
      have HE : Hid (Sep wr base (A ++ ⟨64, 4, .slice (some ⟨g, 0, none⟩) n c1, n, (markFs k0 D).flatMap fCells⟩ :: fItems (markFs k0 D) ++ B) ∧ Below base w wr) := ⟨by simpa using HM.out.1, HM.out.2⟩
      have hKe := HK.out
      go_wp2
      go_ret
      exact ⟨by simp [hKe], HE.out.1, HE.out.2⟩
end Go.Proofs.YtnemieeeappgnaaGreatDoor
namespace Go.Proofs.YtnemieeeappgnaaGreatDoor
open Go.ChangeShapes Go.WideShapes Go.ChangeAt Go.RowKit
set_option linter.unusedVariables false
set_option maxHeartbeats 2000000 in
set_option maxRecDepth 100000 in
theorem heldInt64SS_sep (s : Value) (F : List (List Int × Value)) (k0 : Int) (w : World) (hn : F.length ≤ 1048576) (hr : ∀ x ∈ F, x.1.length ≤ 1048576) (h0 : 0 ≤ k0) (h1 : k0 ≤ 281474976710656) (h : Rd w 1 s F.length (F.flatMap rCells)) (hf : ∀ x ∈ markRs k0 F, Rd w 1 x.2 x.1.length (x.1.flatMap intCell)) :
    Calls Tryz.prog 40 #[s, .int .i64 k0] w fun e w' => e = .returned (.int .i64 (endR k0 F)) ∧ w' = w := by
  have H : Hid (Rd w 1 s F.length (F.flatMap rCells) ∧ (∀ x ∈ F, x.1.length ≤ 1048576) ∧ ∀ x ∈ markRs k0 F, Rd w 1 x.2 x.1.length (x.1.flatMap intCell)) := ⟨h, hr, hf⟩
  obtain ⟨a1, c1, rfl⟩ := h.is_slice
  clear h hr hf
  generalize hLL : F.length = n at hn H
  have HL : Hid (F.length = n) := hLL
  clear hLL
  go_enter Tryz.func40, Tryz.ntmps40
  go_wp2
  go_loopw [1, 5] (fun q i wr => ∃ D E : List (List Int × Value), Hid (F = D ++ E) ∧ D.length ≤ n ∧ q = .int .i64 (endR k0 D) ∧ i = .int .i64 (D.length : Nat) ∧ wr = w) (fun _ i _ => n - (intOf i).toNat)
  case atStart => exact ⟨[], F, rfl, by simp, rfl, rfl, rfl⟩
  case round =>
    obtain ⟨D, E, HD, hk, rfl, rfl, rfl⟩ := hrel
    have hlen : D.length + E.length = n := by have := HL.out; rw [HD.out, List.length_append] at this; exact this
    have hend := endR_le k0 D (fun x hx => H.out.2.1 x (by rw [HD.out]; simp [hx]))
    generalize hK : endR k0 D = K at hend ⊢
    have HK : Hid (endR k0 D = K) := hK
    clear hK
    cases E with
    | cons x E' =>
      obtain ⟨f, v⟩ := x
      have hlt : D.length < n := by simp only [List.length_cons] at hlen; omega
      have hcl : f.length ≤ 1048576 := H.out.2.1 (f, v) (by rw [HD.out]; simp)
      have hx : F[D.length]? = some (f, v) := by rw [HD.out]; simp
      have hov := H.out.2.2 (markIs K f.length, v) (by rw [HD.out, markRs_app, HK.out]; simp [markRs])
      simp only [markIs_length] at hov
      rcases H.out.1.2 with ⟨e0, _⟩ | ⟨g, o, cc, e1, hc1⟩
      · omega
      simp only [Value.slice.injEq, true_and] at e1
      obtain ⟨rfl, rfl⟩ := e1
      have j0 := Rd.elem rCells_length hc1 D.length _ hx 0 _ rfl
      rw [Nat.mul_one, Nat.add_zero] at j0
      simp only [] at j0
      have HO : Hid (Rd wr 1 v f.length ((markIs K f.length).flatMap intCell)) := hov
      clear hc1 hx hov
      have hdl : (D.length : Int) < (n : Int) := by omega
      have hes : endR k0 (D ++ [(f, v)]) = K + (f.length : Int) := by rw [endR_snoc, HK.out]
      have hn0 : ¬ K + (f.length : Int) < 0 := by omega
      go_wp2_with fail
      refine (heldInt64S_ex v f.length K _ hcl (by omega) (by omega) HO.out).mono ?_
      rintro e u ⟨rfl, rfl⟩
      clear j0
      go_wp2
      go_roundw
      case rel => exact ⟨D ++ [(f, v)], E', by show _ = _; rw [HD.out]; simp, by simp; omega, by rw [hes], by simp, by trivial⟩
      case measure => simp [intOf]; omega
    | nil =>
      have hDn : D.length = n := by simpa using hlen
      have hDL : D = F := by rw [HD.out]; simp
      subst hDL
      have hKe := HK.out
      go_wp2
      go_ret
      exact ⟨by simp [hKe], rfl⟩
set_option maxHeartbeats 4000000 in
set_option maxRecDepth 100000 in
theorem heldFuncS_sep (s : Value) (F : List (MF × VF)) (k0 : Int) (w : World) (hn : F.length ≤ 1048576) (hr : ∀ x ∈ F, x.1.small) (h0 : 0 ≤ k0) (h1 : k0 ≤ 281474976710656) (h : Rd w 4 s F.length ((markFs k0 F).flatMap fCells)) (hf : ∀ x ∈ markFs k0 F, RdF w x.2 x.1) :
    Calls Tryz.prog 42 #[s, .int .i64 k0] w fun e w' => e = .returned (.int .i64 (endF k0 F)) ∧ w' = w := by
  have H : Hid (Rd w 4 s F.length ((markFs k0 F).flatMap fCells) ∧ (∀ x ∈ F, x.1.small) ∧ ∀ x ∈ markFs k0 F, RdF w x.2 x.1) := ⟨h, hr, hf⟩
  obtain ⟨a1, c1, rfl⟩ := h.is_slice
  clear h hr hf
  generalize hLL : F.length = n at hn H
  have HL : Hid (F.length = n) := hLL
  clear hLL
  go_enter Tryz.func42, Tryz.ntmps42
  go_wp2
  go_loopw [1, 5] (fun q i wr => ∃ D E : List (MF × VF), Hid (F = D ++ E) ∧ D.length ≤ n ∧ q = .int .i64 (endF k0 D) ∧ i = .int .i64 (D.length : Nat) ∧ wr = w) (fun _ i _ => n - (intOf i).toNat)
  case atStart => exact ⟨[], F, rfl, by simp, rfl, rfl, rfl⟩
  case round =>
    obtain ⟨D, E, HD, hk, rfl, rfl, rfl⟩ := hrel
    have hlen : D.length + E.length = n := by have := HL.out; rw [HD.out, List.length_append] at this; exact this
    have hend := endF_le k0 D (fun x hx => H.out.2.1 x (by rw [HD.out]; simp [hx]))
    generalize hK : endF k0 D = K at hend ⊢
    have HK : Hid (endF k0 D = K) := hK
    clear hK
    cases E with
    | cons x E' =>
      obtain ⟨⟨ps, rs, ls, cs⟩, ⟨vp, vl, vc⟩⟩ := x
      have hlt : D.length < n := by simp only [List.length_cons] at hlen; omega
      have hcl : ps.length ≤ 1048576 ∧ ls.length ≤ 1048576 ∧ cs.length ≤ 1048576 := H.out.2.1 (⟨ps, rs, ls, cs⟩, ⟨vp, vl, vc⟩) (by rw [HD.out]; simp)
      obtain ⟨hc1, hc2, hc3⟩ := hcl
      have hsplit : markFs k0 F = markFs k0 D ++ markF K (⟨ps, rs, ls, cs⟩, ⟨vp, vl, vc⟩) :: markFs (nextF K (⟨ps, rs, ls, cs⟩, ⟨vp, vl, vc⟩)) E' := by
        rw [HD.out, markFs_app, HK.out]
        rfl
      have hx : (markFs k0 F)[D.length]? = some (markF K (⟨ps, rs, ls, cs⟩, ⟨vp, vl, vc⟩)) := by
        rw [hsplit, List.getElem?_append_right (by rw [markFs_length]; omega), markFs_length, Nat.sub_self]
        rfl
      have hov := H.out.2.2 (markF K (⟨ps, rs, ls, cs⟩, ⟨vp, vl, vc⟩)) (by rw [hsplit]; simp)
      obtain ⟨ho1, ho2, ho3⟩ := hov
      simp only [markF, markIs_length, mkRow_length] at ho1 ho2 ho3
      rcases H.out.1.2 with ⟨e0, _⟩ | ⟨g, o, cc, e1, hcc1⟩
      · omega
      simp only [Value.slice.injEq, true_and] at e1
      obtain ⟨rfl, rfl⟩ := e1
      have j0 := Rd.elem fCells_length hcc1 D.length _ hx 0 _ rfl
      have j1 := Rd.elem fCells_length hcc1 D.length _ hx 1 _ rfl
      have j2 := Rd.elem fCells_length hcc1 D.length _ hx 2 _ rfl
      have j3 := Rd.elem fCells_length hcc1 D.length _ hx 3 _ rfl
      rw [Nat.add_zero] at j0
      simp only [markF] at j0 j1 j2 j3
      have HO : Hid (Rd wr 1 vp ps.length ((markIs K ps.length).flatMap intCell) ∧ Rd wr 1 vl ls.length ((markIs (K + (ps.length : Int) + 1) ls.length).flatMap intCell) ∧ Rd wr 4 vc cs.length ((mkRow mkI 4 (K + (ps.length : Int) + 1 + (ls.length : Int)) cs.length).flatMap MI.cells)) := ⟨ho1, ho2, ho3⟩
      clear hcc1 hx ho1 ho2 ho3 hsplit
      have hdl : (D.length : Int) < (n : Int) := by omega
      have hes : endF k0 (D ++ [(⟨ps, rs, ls, cs⟩, ⟨vp, vl, vc⟩)]) = K + (ps.length : Int) + 1 + (ls.length : Int) + 4 * (cs.length : Int) := by rw [endF_snoc, HK.out]; rfl
      have hn0 : ¬ K + (ps.length : Int) < 0 := by omega
      have hn1 : ¬ K + (ps.length : Int) + 1 + (ls.length : Int) < 0 := by omega
      have hn2 : ¬ K + (ps.length : Int) + 1 + (ls.length : Int) + 4 * (cs.length : Int) < 0 := by omega
      go_wp2_with fail
      refine (heldInt64S_ex vp ps.length K _ hc1 (by omega) (by omega) HO.out.1).mono ?_
      rintro e u ⟨rfl, rfl⟩
      go_wp2_with fail
      refine (heldInt64S_ex vl ls.length (K + (ps.length : Int) + 1) _ hc2 (by omega) (by omega) HO.out.2.1).mono ?_
      rintro e u ⟨rfl, rfl⟩
      go_wp2_with fail
      refine (heldInstrS_ex vc cs.length (K + (ps.length : Int) + 1 + (ls.length : Int)) _ hc3 (by omega) (by omega) HO.out.2.2).mono ?_
      rintro e u ⟨rfl, rfl⟩
      clear j0 j1 j2 j3
      go_wp2
      go_roundw
      case rel => exact ⟨D ++ [(⟨ps, rs, ls, cs⟩, ⟨vp, vl, vc⟩)], E', by show _ = _; rw [HD.out]; simp, by simp; omega, by rw [hes], by simp, by trivial⟩
      case measure => simp [intOf]; omega
    | nil =>
      have hDn : D.length = n := by simpa using hlen
      have hDL : D = F := by rw [HD.out]; simp
      subst hDL
      have hKe := HK.out
      go_wp2
      go_ret
      exact ⟨by simp [hKe], rfl⟩
end Go.Proofs.YtnemieeeappgnaaGreatDoor
