import Derived.Test.YtalkpddhpmjgcaaGreatCm26
namespace Go.Proofs.YtalkpddhpmjgcaaGreat
open Go.ChangeShapes Go.WideShapes Go.ChangeAt Go.RowKit
set_option linter.unusedVariables false
/-- A coder between functions. -/
structure IP (w u : World) (v : VP) (F : List (List Int × Value)) (cs : List MC) (G : List (MF × VF)) (ts : List MT) (C : Nat) (vc : Value) (D : List RowI) : Prop where
  bl : Bl w u (pItems v F cs G ts (cbx C v vc 0 :: D))
section
variable {w u u' : World} {v : VP} {F : List (List Int × Value)} {cs : List MC} {G : List (MF × VF)} {ts : List MT} {C : Nat} {vc vl : Value} {g : Gn} {D : List RowI} {ls : List Int}
theorem IP.open (h : IP w u v F cs G ts C vc D) : IG w (u.setCell ⟨C, 4, none⟩ (.slice none 0 0)) v F G C (.slice none 0 0) 0 ⟨[], cs, ts⟩ D := by
  have h1 := (h.bl.setp (D := []) (X := C) (t := 63) (q := 6) (xs := [v.r, v.k, v.f, v.t, vc, .int .i64 ((0 : Nat) : Int)]) (E := D) 4 (by omega) (.slice none 0 0)).nil 92 4
  refine ⟨h1.perm ?_⟩
  rw [pItems_nil, pItems_nil (B := _ :: _ :: D), List.append_assoc]
  refine List.Perm.append_left _ ?_
  exact (List.perm_append_comm (l₂ := [_]))
theorem IG.row (h : IG w u v F G C vc 0 g D) (hb : Below u.heap.size u u') {V : Value} {l : List Int} (ho : (iRow V l).own u' u.heap.size) : IG w u' v F G C vc 0 g (D ++ [iRow V l]) := by
  have := h.bl.row hb ho
  rw [← pItems_app] at this
  exact ⟨this⟩
theorem IG.fdone (h : IG w u v F G C vc 0 g (D ++ [iRow vl ls])) (V : Value) (ho : u'.ownsRow w.heap.size 86 4 V (G.length + 1) (G.flatMap fCells ++ [.slice none 0 0, .int .i64 0, vl, vc])) (hg : u.grownBy u' v.f.ownBlock) (hat : V.ownBlock = v.f.ownBlock ∨ V.ownBlock = some u.heap.size) : IP w (u'.setCell ⟨C, 2, none⟩ V) { v with f := V } F g.consts (G ++ [(⟨[], 0, ls, g.code⟩, ⟨.slice none 0 0, vl, vc⟩)]) g.certs C vc D ∧ (u'.cell? ⟨C, 2, none⟩ = some v.f ∧ u'.frozen? ⟨C, 2, none⟩ = false) ∧ u'.cell? ⟨C, 4, none⟩ = some vc ∧ (u'.setCell ⟨C, 2, none⟩ V).cell? ⟨C, 4, none⟩ = some vc := by
  have h0 := h.bl.nil 2 1
  have h1 : Bl w u (pItems v F g.consts G g.certs (cbx C v vc 0 :: D) ++ fItem (⟨[], 0, ls, g.code⟩, ⟨.slice none 0 0, vl, vc⟩)) := h0.perm (by
    rw [pItems_nil, pItems_nil (B := cbx C v vc 0 :: D), List.append_assoc, List.append_assoc]
    refine List.Perm.append_left _ ?_
    simp only [fItem, iRow, List.length_nil, List.flatMap_nil, List.cons_append, List.append_assoc, List.nil_append]
    refine List.Perm.trans (l₂ := cbx C v vc 0 :: (D ++ [⟨2, 1, vl, ls.length, ls.flatMap intCell⟩, ⟨2, 1, .slice none 0 0, 0, []⟩, nRow vc g.code])) ?_ ?_
    · have := List.perm_append_comm (l₁ := [nRow vc g.code]) (l₂ := cbx C v vc 0 :: (D ++ [⟨2, 1, vl, ls.length, ls.flatMap intCell⟩, ⟨2, 1, .slice none 0 0, 0, []⟩]))
      simpa using this
    · refine .cons _ (List.Perm.append_left _ ?_)
      exact List.Perm.swap _ _ _)
  have h2 := h1.push_f V (by simpa [fCells] using ho) hg hat
  have h3 := Bl.setp (D := []) (X := C) (t := 63) (q := 6) (xs := [v.r, v.k, v.f, v.t, vc, .int .i64 ((0 : Nat) : Int)]) (E := D) h2 2 (by omega) V
  have h4 : IP w (u'.setCell ⟨C, 2, none⟩ V) { v with f := V } F g.consts (G ++ [(⟨[], 0, ls, g.code⟩, ⟨.slice none 0 0, vl, vc⟩)]) g.certs C vc D := ⟨h3⟩
  exact ⟨h4, ⟨h2.cell (pItems_in (show cbx C v vc 0 ∈ _ by simp)) 2 (by omega), h2.frozen (pItems_in (show cbx C v vc 0 ∈ _ by simp)) 2⟩, h2.cell (pItems_in (show cbx C v vc 0 ∈ _ by simp)) 4 (by omega), h4.bl.cell (pItems_in (show cbx C { v with f := V } vc 0 ∈ _ by simp)) 4 (by omega)⟩
end
def AfRes (w : World) (F : List (List Int × Value)) (G : List (MF × VF)) (C : Nat) (n : Nat) (t : TL n) (g' : Gn) (D : List RowI) (e : Ending) (u' : World) : Prop := e = .returned (.tuple #[]) ∧ ∃ v' vc' vf, IP w u' v' F g'.consts (G ++ [(fnOf n t g', vf)]) g'.certs C vc' D
set_option maxHeartbeats 8000000 in
set_option maxRecDepth 100000 in
theorem addFunction_any (n : Nat) (w u : World) (v : VP) (F : List (List Int × Value)) (cs : List MC) (G : List (MF × VF)) (ts : List MT) (C : Nat) (vc : Value) (D : List RowI) (V : Value) (t : TL n) (A : Nat → Prop) (h : IP w u v F cs G ts C vc D) (hr : RdI w A n V t) (hok : allOkT n t) (hs : sizeT n t ≤ 60) (hty : ∀ x ∈ cs, x.type = 3) (h2 : cs.length ≤ 10000) (h3 : ts.length ≤ 10000) (h4 : G.length ≤ 100) :
    Calls Tryz.prog 25 #[.pointer (some ⟨C, 0, none⟩), V] u (AfRes w F G C n t ((genT n (G.length : Int) t 0 ⟨[], cs, ts⟩).put [⟨29, 0, 0, 0⟩]) D) := by
  obtain ⟨iF, hiF, hF0, hF1, hF2⟩ := info_parts infoF
  have H : Hid (RdI w A n V t ∧ allOkT n t ∧ sizeT n t ≤ 60 ∧ (∀ x ∈ cs, x.type = 3) ∧ cs.length ≤ 10000 ∧ ts.length ≤ 10000) := ⟨hr, hok, hs, hty, h2, h3⟩
  have E0 : Hid (IG w (u.setCell ⟨C, 4, none⟩ (.slice none 0 0)) v F G C (.slice none 0 0) 0 ⟨[], cs, ts⟩ D) := h.open
  have c4 := h.bl.cell (pItems_in (show cbx C v vc 0 ∈ _ by simp)) 4 (by omega)
  have f4 := h.bl.frozen (pItems_in (show cbx C v vc 0 ∈ _ by simp)) 4
  simp only [List.getElem?_cons_zero, List.getElem?_cons_succ] at c4
  obtain ⟨as_, cs_, es⟩ := hr.is_slice
  subst es
  generalize lenT n t = ln at H ⊢
  clear h hr hok hs hty h2 h3
  go_enter Tryz.func25, Tryz.ntmps25
  go_upto_region 1 with fail
  refine wp_world (fun U => Hid (IG w U v F G C (.slice none 0 0) 0 ⟨[], cs, ts⟩ D)) E0 ?_
  clear E0 c4 f4
  rintro U0 E0
  go_wp2_with fail
  refine (putAll_any n w U0 v F G C (.slice none 0 0) 0 ⟨[], cs, ts⟩ D _ t A E0.out H.out.1 H.out.2.1 H.out.2.2.2.1 (by have := H.out.2.2; simp; omega) (by have := H.out.2.2; simp; omega) (by have := H.out.2.2; simp; omega) (by have := H.out.2.2; omega) h4).mono ?_
  rintro e U1 ⟨rfl, v1, vc1, hh⟩
  have hle := genT_le n (G.length : Int) t 0 ⟨[], cs, ts⟩
  generalize hg1 : genT n (G.length : Int) t 0 ⟨[], cs, ts⟩ = g1 at hh hle
  have HG1 : Hid (genT n (G.length : Int) t 0 ⟨[], cs, ts⟩ = g1) := hg1
  have E1 : Hid (IG w U1 v1 F G C vc1 0 g1 D) := hh
  have HL1 : Hid (g1.code.length ≤ 300) := by have a := hle.code; have b := H.out.2.2.1; simp at a; show g1.code.length ≤ 300; omega
  clear hh hle hg1 E0
  go_wp2_with fail
  refine (put_any w _ v1 F G C vc1 0 g1 D [⟨29, 0, 0, 0⟩] U1.heap.size 1 (by simp) (by simp) (cells_of U1 ⟨29, 0, 0, 0⟩) (E1.out.keep (below_alloc _ _)) (by have := HL1.out; omega)).mono ?_
  rintro e U2 ⟨rfl, vc2, hh⟩
  generalize hg2 : g1.put [⟨29, 0, 0, 0⟩] = g2 at hh
  have HG2 : Hid (g1.put [⟨29, 0, 0, 0⟩] = g2) := hg2
  have E2 : Hid (IG w U2 v1 F G C vc2 0 g2 D) := hh
  clear hh hg2 E1 HL1
  obtain ⟨⟨ac, cc, ec⟩, _⟩ := E2.out.bl.nrow
  subst ec
  generalize g2.code.length = lc at E2
  obtain ⟨⟨b1, d1, b2, d2, b3, d3, b4, d4, ev⟩, _⟩ := E2.out.bl.prow
  subst ev
  have hlv : levT n t ≤ 60 := Nat.le_trans (lev_le_size n t) H.out.2.2.1
  have HFN : Hid (fnOf n t g2 = ⟨[], 0, List.replicate (levT n t) 3, g2.code⟩) := rfl
  have hG : G.length ≤ 100 := h4
  generalize hng : G.length = ng at E2 hG
  have HNG : Hid (G.length = ng) := hng
  clear hng h4
  go_upto_region 3 with fail
  have ED : Hid (IG w U2.drew ⟨.slice b1 F.length d1, .slice b2 g2.consts.length d2, .slice b3 ng d3, .slice b4 g2.certs.length d4⟩ F G C (.slice ac lc cc) 0 g2 D) := E2.out.keep (below_drew1 _)
  refine wp_region_held_drew (S := fun W => W.cell? ⟨C, 4, none⟩ = some (.slice ac lc cc)) (by kernel_rfl) (by exact ED.out.cells.2.2.2.2.1) (fun hHeld => ?_)
  clear E2
  generalize U2.drew = UD at ED hHeld ⊢
  have q1 : UD.cell? ⟨C, 2, none⟩ = some (.slice b3 ng d3) := ED.out.cells.2.2.1
  refine wpAnyH_take (i := 0) (v := ?_) rfl (by kernel_rfl) (by kernel_rfl) (by kernel_rfl) (fun _ _ _ h => h) (Or.inl ⟨by rfl, ?_⟩) (by assumption) ?_
  rotate_left
  · (intro w hSw; (try dsimp only at hSw); (try obtain ⟨hSa, hSb, hSc, hSd⟩ := hSw); (try obtain ⟨hSa, hSb, hSc⟩ := hSw); (try obtain ⟨hSa, hSb⟩ := hSw); go_simp; (try with_reducible rfl))
  refine wpAnyH_take (i := 1) (v := ?_) rfl (by kernel_rfl) (by kernel_rfl) (by kernel_rfl) (fun _ _ _ h => h) (Or.inl ⟨by rfl, ?_⟩) (by assumption) ?_
  rotate_left
  · (intro w hSw; (try dsimp only at hSw); (try obtain ⟨hSa, hSb, hSc, hSd⟩ := hSw); (try obtain ⟨hSa, hSb, hSc⟩ := hSw); (try obtain ⟨hSa, hSb⟩ := hSw); go_simp; (try with_reducible rfl))
  refine wpAnyH_take (i := 2) (v := ?_) rfl (by kernel_rfl) (by kernel_rfl) (by kernel_rfl) (fun _ _ _ h => h) (Or.inl ⟨by rfl, ?_⟩) (by assumption) ?_
  rotate_left
  · (intro w hSw; (try dsimp only at hSw); (try obtain ⟨hSa, hSb, hSc, hSd⟩ := hSw); (try obtain ⟨hSa, hSb, hSc⟩ := hSw); (try obtain ⟨hSa, hSb⟩ := hSw); go_simp; (try with_reducible rfl))
  refine wpAnyH_take (i := 3) (v := ?_) rfl (by kernel_rfl) (by kernel_rfl) (by kernel_rfl) (fun _ _ _ h => h) (Or.inl ⟨by rfl, ?_⟩) (by assumption) ?_
  rotate_left
  · (intro w hSw; (try dsimp only at hSw); (try obtain ⟨hSa, hSb, hSc, hSd⟩ := hSw); (try obtain ⟨hSa, hSb, hSc⟩ := hSw); (try obtain ⟨hSa, hSb⟩ := hSw); go_simp; (try with_reducible rfl))
  refine wpAnyH_take (i := 4) (v := ?_) rfl (by kernel_rfl) (by kernel_rfl) (by kernel_rfl) (fun _ _ _ h => h) (Or.inl ⟨by rfl, ?_⟩) (by assumption) ?_
  rotate_left
  · (intro w hSw; (try dsimp only at hSw); (try obtain ⟨hSa, hSb, hSc, hSd⟩ := hSw); (try obtain ⟨hSa, hSb, hSc⟩ := hSw); (try obtain ⟨hSa, hSb⟩ := hSw); go_simp; (try with_reducible rfl))
  refine wpAnyH_take (i := 6) (v := ?_) rfl (by kernel_rfl) (by kernel_rfl) (by kernel_rfl) (fun _ _ _ h => h) (Or.inl ⟨by rfl, ?_⟩) (by assumption) ?_
  rotate_left
  · (intro w hSw; (try dsimp only at hSw); (try obtain ⟨hSa, hSb, hSc, hSd⟩ := hSw); (try obtain ⟨hSa, hSb, hSc⟩ := hSw); (try obtain ⟨hSa, hSb⟩ := hSw); go_simp; (try with_reducible rfl))
  refine wpAnyH_take (i := 9) (v := ?_) rfl (by kernel_rfl) (by kernel_rfl) (by kernel_rfl) (fun _ _ _ h => h) (Or.inl ⟨by rfl, ?_⟩) (by assumption) ?_
  rotate_left
  · (intro w hSw; (try dsimp only at hSw); (try obtain ⟨hSa, hSb, hSc, hSd⟩ := hSw); (try obtain ⟨hSa, hSb, hSc⟩ := hSw); (try obtain ⟨hSa, hSb⟩ := hSw); go_simp; (try with_reducible rfl))
  refine wpAnyH_take (i := 10) (v := ?_) rfl (by kernel_rfl) (by kernel_rfl) (by kernel_rfl) (fun _ _ _ h => h) (Or.inl ⟨by rfl, ?_⟩) (by assumption) ?_
  rotate_left
  · (intro w hSw; (try dsimp only at hSw); (try obtain ⟨hSa, hSb, hSc, hSd⟩ := hSw); (try obtain ⟨hSa, hSb, hSc⟩ := hSw); (try obtain ⟨hSa, hSb⟩ := hSw); go_simp; (try with_reducible rfl))
  refine wpAnyH_take (i := 11) (v := ?_) rfl (by kernel_rfl) (by kernel_rfl) (by kernel_rfl) (fun _ _ _ h => h) (Or.inl ⟨by rfl, ?_⟩) (by assumption) ?_
  rotate_left
  · (intro w hSw; (try dsimp only at hSw); (try obtain ⟨hSa, hSb, hSc, hSd⟩ := hSw); (try obtain ⟨hSa, hSb, hSc⟩ := hSw); (try obtain ⟨hSa, hSb⟩ := hSw); go_simp; (try with_reducible rfl))
  refine wpAnyH_take (i := 12) (v := ?_) rfl (by kernel_rfl) (by kernel_rfl) (by kernel_rfl) (fun _ _ _ h => h) (Or.inl ⟨by rfl, ?_⟩) (by assumption) ?_
  rotate_left
  · (intro w hSw; (try dsimp only at hSw); (try obtain ⟨hSa, hSb, hSc, hSd⟩ := hSw); (try obtain ⟨hSa, hSb, hSc⟩ := hSw); (try obtain ⟨hSa, hSb⟩ := hSw); go_simp; (try with_reducible rfl))
  refine wpAnyH_ready (rs := [5, 7]) (by kernel_rfl) (by simp) ?_
  refine AllReadyH.cons rfl (fun KC hKC => ?_) (AllReadyH.cons rfl (fun KC hKC => ?_) AllReadyH.nil)
  focus
    go_simp
    refine hKC.out _ _ (by assumption) (fun hHeld => ?_)
    clear hKC KC
    refine wpAnyH_ready (rs := [7]) (by kernel_rfl) (by simp) ?_
    refine AllReadyH.cons rfl (fun KC hKC => ?_) AllReadyH.nil
    go_simp
    refine (levelsOf_any n _ t A UD (H.out.1.keep ED.out.bl.bel) H.out.2.1 (by have := H.out.2.2; omega)).mono ?_
    rintro e UE ⟨rfl, bi⟩
    have EE : Hid (IG w UE ⟨.slice b1 F.length d1, .slice b2 g2.consts.length d2, .slice b3 ng d3, .slice b4 g2.certs.length d4⟩ F G C (.slice ac lc cc) 0 g2 D) := ED.out.keep bi
    clear bi
    have q2 : UE.cell? ⟨C, 2, none⟩ = some (.slice b3 ng d3) := EE.out.cells.2.2.1
    refine hKC.out _ _ (by exact EE.out.cells.2.2.2.2.1) (fun hHeld => ?_)
    clear hKC KC
    refine wpAnyH_ready (rs := [8]) (by kernel_rfl) (by simp) ?_
    refine AllReadyH.cons rfl (fun KC hKC => ?_) AllReadyH.nil
    go_simp
    refine (uints_any (levT n t) UE (by omega)).mono ?_
    rintro e UG ⟨Vl, rfl, ho, bi⟩
    obtain ⟨al, cl, el⟩ : ∃ a c, Vl = .slice a (List.replicate (levT n t) (3 : Int)).length c := own_sl ho
    rw [List.length_replicate] at el
    subst el
    have EG : Hid (IG w UG ⟨.slice b1 F.length d1, .slice b2 g2.consts.length d2, .slice b3 ng d3, .slice b4 g2.certs.length d4⟩ F G C (.slice ac lc cc) 0 g2 (D ++ [iRow (.slice al (levT n t) cl) (List.replicate (levT n t) 3)])) := EE.out.row bi ho
    clear bi ho
    have q3 : UG.cell? ⟨C, 2, none⟩ = some (.slice b3 ng d3) := EG.out.cells.2.2.1
    refine hKC.out _ _ (by exact EG.out.cells.2.2.2.2.1) (fun hHeld => ?_)
    clear hKC KC
    refine wpAnyH_take (i := 13) (v := ?_) rfl (by kernel_rfl) (by kernel_rfl) (by kernel_rfl) (fun _ _ _ h => h) (Or.inl ⟨by rfl, ?_⟩) (by assumption) ?_
    rotate_left
    · (intro w hSw; (try dsimp only at hSw); (try obtain ⟨hSa, hSb, hSc, hSd⟩ := hSw); (try obtain ⟨hSa, hSb, hSc⟩ := hSw); (try obtain ⟨hSa, hSb⟩ := hSw); go_simp; (try with_reducible rfl))
    refine wpAnyH_ready (rs := [14]) (by kernel_rfl) (by simp) ?_
    refine AllReadyH.cons rfl (fun KC hKC => ?_) AllReadyH.nil
    go_simp
    have D3 : Hid (IG w (UG.alloc (.cells #[.slice none 0 0, .int .i64 0, .slice al (levT n t) cl, .slice ac lc cc] 86)) ⟨.slice b1 F.length d1, .slice b2 g2.consts.length d2, .slice b3 ng d3, .slice b4 g2.certs.length d4⟩ F G C (.slice ac lc cc) 0 g2 (D ++ [iRow (.slice al (levT n t) cl) (List.replicate (levT n t) 3)])) := EG.out.keep (below_alloc _ _)
    have O3 : Hid ((UG.alloc (.cells #[.slice none 0 0, .int .i64 0, .slice al (levT n t) cl, .slice ac lc cc] 86)).ownsRow w.heap.size 86 4 (.slice b3 ng d3) ng (G.flatMap fCells)) := (by have := D3.out.bl.prow.2.2.2.1; rw [HNG.out] at this; exact this)
    have q4 : (UG.alloc (.cells #[.slice none 0 0, .int .i64 0, .slice al (levT n t) cl, .slice ac lc cc] 86)).cell? ⟨C, 2, none⟩ = some (.slice b3 ng d3) := D3.out.cells.2.2.1
    refine hKC.out _ _ (by exact D3.out.cells.2.2.2.2.1) (fun hHeld => ?_)
    clear hKC KC
    refine wpAnyH_ready (rs := [15]) (by kernel_rfl) (by simp) ?_
    refine AllReadyH.cons rfl (fun KC hKC => ?_) AllReadyH.nil
    refine step_append_lies _ rfl (.tmp 19) (.tmp 28) 28 rfl w.heap.size 86 iF (.agg #[.slice none 0 0, .int .i64 0, .slice none 0 0, .slice none 0 0]) 4 80 Tryz.underlying28 hiF hF0 hF1 hF2 rfl (by decide) (.slice b3 ng d3) ng (G.flatMap fCells) (by simp [Act.eval]) O3.out ⟨UG.heap.size, 0, none⟩ 1 1 [.slice none 0 0, .int .i64 0, .slice al (levT n t) cl, .slice ac lc cc] (by simp [Act.eval]) rfl (lit_at UG [.slice none 0 0, .int .i64 0, .slice al (levT n t) cl, .slice ac lc cc] 86) (by intro u hu; simp at hu; rcases hu with rfl | rfl | rfl | rfl <;> rfl) (by omega) (by unfold maxLen; omega) (by omega) D3.out.bl.size _ rfl ?_
    intro gg cap u8 hown hgrow hat _
    have D4 : Hid _ := D3.out.fdone (.slice (some ⟨gg, 0, none⟩) (ng + 1) cap) (by rw [HNG.out]; exact hown) hgrow (hat_of hat)
    have y0 := D4.out.2.1.1
    have y1 := D4.out.2.1.2
    clear hown hgrow hat O3 D3
    refine hKC.out _ _ (by exact D4.out.2.2.1) (fun hHeld => ?_)
    clear hKC KC
    refine wpAnyH_take (i := 16) (v := ?_) rfl (by kernel_rfl) (by kernel_rfl) (by kernel_rfl) (fun _ _ _ h => h) (Or.inl ⟨by rfl, ?_⟩) (by assumption) ?_
    rotate_left
    · (intro w hSw; (try dsimp only at hSw); (try obtain ⟨hSa, hSb, hSc, hSd⟩ := hSw); (try obtain ⟨hSa, hSb, hSc⟩ := hSw); (try obtain ⟨hSa, hSb⟩ := hSw); go_simp; (try with_reducible rfl))
    refine wpAnyH_take (i := 17) (v := ?_) rfl (by kernel_rfl) (by kernel_rfl) (by kernel_rfl) (fun _ _ _ h => h) (Or.inl ⟨by rfl, ?_⟩) (by assumption) ?_
    rotate_left
    · (intro w hSw; (try dsimp only at hSw); (try obtain ⟨hSa, hSb, hSc, hSd⟩ := hSw); (try obtain ⟨hSa, hSb, hSc⟩ := hSw); (try obtain ⟨hSa, hSb⟩ := hSw); go_simp; (try with_reducible rfl))
    refine wpAnyH_take (i := 18) (v := ?_) rfl (by kernel_rfl) (by kernel_rfl) (by kernel_rfl) (fun _ _ _ h => h) (Or.inl ⟨by rfl, ?_⟩) (by assumption) ?_
    rotate_left
    · (intro w hSw; (try dsimp only at hSw); (try obtain ⟨hSa, hSb, hSc, hSd⟩ := hSw); (try obtain ⟨hSa, hSb, hSc⟩ := hSw); (try obtain ⟨hSa, hSb⟩ := hSw); go_simp; (try with_reducible rfl))
    refine wpAnyH_ready (rs := [19]) (by kernel_rfl) (by simp) ?_
    refine AllReadyH.cons rfl (fun KC hKC => ?_) AllReadyH.nil
    go_simp
    refine hKC.out _ _ (by exact D4.out.2.2.2) (fun hHeld => ?_)
    clear hKC KC
    refine wpAnyH_done (by kernel_rfl) ?_ _
    clear hHeld y0 y1
    refine bodyPost_end (v := .tuple #[]) (by kernel_rfl) rfl ?_
    exact ⟨rfl, _, _, _, by rw [HG1.out, HG2.out, HFN.out]; exact D4.out.1⟩
  focus
    go_simp
    refine (levelsOf_any n _ t A UD (H.out.1.keep ED.out.bl.bel) H.out.2.1 (by have := H.out.2.2; omega)).mono ?_
    rintro e UE ⟨rfl, bi⟩
    have EE : Hid (IG w UE ⟨.slice b1 F.length d1, .slice b2 g2.consts.length d2, .slice b3 ng d3, .slice b4 g2.certs.length d4⟩ F G C (.slice ac lc cc) 0 g2 D) := ED.out.keep bi
    clear bi
    have q2 : UE.cell? ⟨C, 2, none⟩ = some (.slice b3 ng d3) := EE.out.cells.2.2.1
    refine hKC.out _ _ (by exact EE.out.cells.2.2.2.2.1) (fun hHeld => ?_)
    clear hKC KC
    refine wpAnyH_ready (rs := [5, 8]) (by kernel_rfl) (by simp) ?_
    refine AllReadyH.cons rfl (fun KC hKC => ?_) (AllReadyH.cons rfl (fun KC hKC => ?_) AllReadyH.nil)
    focus
      go_simp
      refine hKC.out _ _ (by assumption) (fun hHeld => ?_)
      clear hKC KC
      refine wpAnyH_ready (rs := [8]) (by kernel_rfl) (by simp) ?_
      refine AllReadyH.cons rfl (fun KC hKC => ?_) AllReadyH.nil
      go_simp
      refine (uints_any (levT n t) UE (by omega)).mono ?_
      rintro e UG ⟨Vl, rfl, ho, bi⟩
      obtain ⟨al, cl, el⟩ : ∃ a c, Vl = .slice a (List.replicate (levT n t) (3 : Int)).length c := own_sl ho
      rw [List.length_replicate] at el
      subst el
      have EG : Hid (IG w UG ⟨.slice b1 F.length d1, .slice b2 g2.consts.length d2, .slice b3 ng d3, .slice b4 g2.certs.length d4⟩ F G C (.slice ac lc cc) 0 g2 (D ++ [iRow (.slice al (levT n t) cl) (List.replicate (levT n t) 3)])) := EE.out.row bi ho
      clear bi ho
      have q3 : UG.cell? ⟨C, 2, none⟩ = some (.slice b3 ng d3) := EG.out.cells.2.2.1
      refine hKC.out _ _ (by exact EG.out.cells.2.2.2.2.1) (fun hHeld => ?_)
      clear hKC KC
      refine wpAnyH_take (i := 13) (v := ?_) rfl (by kernel_rfl) (by kernel_rfl) (by kernel_rfl) (fun _ _ _ h => h) (Or.inl ⟨by rfl, ?_⟩) (by assumption) ?_
      rotate_left
      · (intro w hSw; (try dsimp only at hSw); (try obtain ⟨hSa, hSb, hSc, hSd⟩ := hSw); (try obtain ⟨hSa, hSb, hSc⟩ := hSw); (try obtain ⟨hSa, hSb⟩ := hSw); go_simp; (try with_reducible rfl))
      refine wpAnyH_ready (rs := [14]) (by kernel_rfl) (by simp) ?_
      refine AllReadyH.cons rfl (fun KC hKC => ?_) AllReadyH.nil
      go_simp
      have D3 : Hid (IG w (UG.alloc (.cells #[.slice none 0 0, .int .i64 0, .slice al (levT n t) cl, .slice ac lc cc] 86)) ⟨.slice b1 F.length d1, .slice b2 g2.consts.length d2, .slice b3 ng d3, .slice b4 g2.certs.length d4⟩ F G C (.slice ac lc cc) 0 g2 (D ++ [iRow (.slice al (levT n t) cl) (List.replicate (levT n t) 3)])) := EG.out.keep (below_alloc _ _)
      have O3 : Hid ((UG.alloc (.cells #[.slice none 0 0, .int .i64 0, .slice al (levT n t) cl, .slice ac lc cc] 86)).ownsRow w.heap.size 86 4 (.slice b3 ng d3) ng (G.flatMap fCells)) := (by have := D3.out.bl.prow.2.2.2.1; rw [HNG.out] at this; exact this)
      have q4 : (UG.alloc (.cells #[.slice none 0 0, .int .i64 0, .slice al (levT n t) cl, .slice ac lc cc] 86)).cell? ⟨C, 2, none⟩ = some (.slice b3 ng d3) := D3.out.cells.2.2.1
      refine hKC.out _ _ (by exact D3.out.cells.2.2.2.2.1) (fun hHeld => ?_)
      clear hKC KC
      refine wpAnyH_ready (rs := [15]) (by kernel_rfl) (by simp) ?_
      refine AllReadyH.cons rfl (fun KC hKC => ?_) AllReadyH.nil
      refine step_append_lies _ rfl (.tmp 19) (.tmp 28) 28 rfl w.heap.size 86 iF (.agg #[.slice none 0 0, .int .i64 0, .slice none 0 0, .slice none 0 0]) 4 80 Tryz.underlying28 hiF hF0 hF1 hF2 rfl (by decide) (.slice b3 ng d3) ng (G.flatMap fCells) (by simp [Act.eval]) O3.out ⟨UG.heap.size, 0, none⟩ 1 1 [.slice none 0 0, .int .i64 0, .slice al (levT n t) cl, .slice ac lc cc] (by simp [Act.eval]) rfl (lit_at UG [.slice none 0 0, .int .i64 0, .slice al (levT n t) cl, .slice ac lc cc] 86) (by intro u hu; simp at hu; rcases hu with rfl | rfl | rfl | rfl <;> rfl) (by omega) (by unfold maxLen; omega) (by omega) D3.out.bl.size _ rfl ?_
      intro gg cap u8 hown hgrow hat _
      have D4 : Hid _ := D3.out.fdone (.slice (some ⟨gg, 0, none⟩) (ng + 1) cap) (by rw [HNG.out]; exact hown) hgrow (hat_of hat)
      have y0 := D4.out.2.1.1
      have y1 := D4.out.2.1.2
      clear hown hgrow hat O3 D3
      refine hKC.out _ _ (by exact D4.out.2.2.1) (fun hHeld => ?_)
      clear hKC KC
      refine wpAnyH_take (i := 16) (v := ?_) rfl (by kernel_rfl) (by kernel_rfl) (by kernel_rfl) (fun _ _ _ h => h) (Or.inl ⟨by rfl, ?_⟩) (by assumption) ?_
      rotate_left
      · (intro w hSw; (try dsimp only at hSw); (try obtain ⟨hSa, hSb, hSc, hSd⟩ := hSw); (try obtain ⟨hSa, hSb, hSc⟩ := hSw); (try obtain ⟨hSa, hSb⟩ := hSw); go_simp; (try with_reducible rfl))
      refine wpAnyH_take (i := 17) (v := ?_) rfl (by kernel_rfl) (by kernel_rfl) (by kernel_rfl) (fun _ _ _ h => h) (Or.inl ⟨by rfl, ?_⟩) (by assumption) ?_
      rotate_left
      · (intro w hSw; (try dsimp only at hSw); (try obtain ⟨hSa, hSb, hSc, hSd⟩ := hSw); (try obtain ⟨hSa, hSb, hSc⟩ := hSw); (try obtain ⟨hSa, hSb⟩ := hSw); go_simp; (try with_reducible rfl))
      refine wpAnyH_take (i := 18) (v := ?_) rfl (by kernel_rfl) (by kernel_rfl) (by kernel_rfl) (fun _ _ _ h => h) (Or.inl ⟨by rfl, ?_⟩) (by assumption) ?_
      rotate_left
      · (intro w hSw; (try dsimp only at hSw); (try obtain ⟨hSa, hSb, hSc, hSd⟩ := hSw); (try obtain ⟨hSa, hSb, hSc⟩ := hSw); (try obtain ⟨hSa, hSb⟩ := hSw); go_simp; (try with_reducible rfl))
      refine wpAnyH_ready (rs := [19]) (by kernel_rfl) (by simp) ?_
      refine AllReadyH.cons rfl (fun KC hKC => ?_) AllReadyH.nil
      go_simp
      refine hKC.out _ _ (by exact D4.out.2.2.2) (fun hHeld => ?_)
      clear hKC KC
      refine wpAnyH_done (by kernel_rfl) ?_ _
      clear hHeld y0 y1
      refine bodyPost_end (v := .tuple #[]) (by kernel_rfl) rfl ?_
      exact ⟨rfl, _, _, _, by rw [HG1.out, HG2.out, HFN.out]; exact D4.out.1⟩
    focus
      go_simp
      refine (uints_any (levT n t) UE (by omega)).mono ?_
      rintro e UG ⟨Vl, rfl, ho, bi⟩
      obtain ⟨al, cl, el⟩ : ∃ a c, Vl = .slice a (List.replicate (levT n t) (3 : Int)).length c := own_sl ho
      rw [List.length_replicate] at el
      subst el
      have EG : Hid (IG w UG ⟨.slice b1 F.length d1, .slice b2 g2.consts.length d2, .slice b3 ng d3, .slice b4 g2.certs.length d4⟩ F G C (.slice ac lc cc) 0 g2 (D ++ [iRow (.slice al (levT n t) cl) (List.replicate (levT n t) 3)])) := EE.out.row bi ho
      clear bi ho
      have q3 : UG.cell? ⟨C, 2, none⟩ = some (.slice b3 ng d3) := EG.out.cells.2.2.1
      refine hKC.out _ _ (by exact EG.out.cells.2.2.2.2.1) (fun hHeld => ?_)
      clear hKC KC
      refine wpAnyH_take (i := 13) (v := ?_) rfl (by kernel_rfl) (by kernel_rfl) (by kernel_rfl) (fun _ _ _ h => h) (Or.inl ⟨by rfl, ?_⟩) (by assumption) ?_
      rotate_left
      · (intro w hSw; (try dsimp only at hSw); (try obtain ⟨hSa, hSb, hSc, hSd⟩ := hSw); (try obtain ⟨hSa, hSb, hSc⟩ := hSw); (try obtain ⟨hSa, hSb⟩ := hSw); go_simp; (try with_reducible rfl))
      refine wpAnyH_ready (rs := [5, 14]) (by kernel_rfl) (by simp) ?_
      refine AllReadyH.cons rfl (fun KC hKC => ?_) (AllReadyH.cons rfl (fun KC hKC => ?_) AllReadyH.nil)
      focus
        go_simp
        refine hKC.out _ _ (by assumption) (fun hHeld => ?_)
        clear hKC KC
        refine wpAnyH_ready (rs := [14]) (by kernel_rfl) (by simp) ?_
        refine AllReadyH.cons rfl (fun KC hKC => ?_) AllReadyH.nil
        go_simp
        have D3 : Hid (IG w (UG.alloc (.cells #[.slice none 0 0, .int .i64 0, .slice al (levT n t) cl, .slice ac lc cc] 86)) ⟨.slice b1 F.length d1, .slice b2 g2.consts.length d2, .slice b3 ng d3, .slice b4 g2.certs.length d4⟩ F G C (.slice ac lc cc) 0 g2 (D ++ [iRow (.slice al (levT n t) cl) (List.replicate (levT n t) 3)])) := EG.out.keep (below_alloc _ _)
        have O3 : Hid ((UG.alloc (.cells #[.slice none 0 0, .int .i64 0, .slice al (levT n t) cl, .slice ac lc cc] 86)).ownsRow w.heap.size 86 4 (.slice b3 ng d3) ng (G.flatMap fCells)) := (by have := D3.out.bl.prow.2.2.2.1; rw [HNG.out] at this; exact this)
        have q4 : (UG.alloc (.cells #[.slice none 0 0, .int .i64 0, .slice al (levT n t) cl, .slice ac lc cc] 86)).cell? ⟨C, 2, none⟩ = some (.slice b3 ng d3) := D3.out.cells.2.2.1
        refine hKC.out _ _ (by exact D3.out.cells.2.2.2.2.1) (fun hHeld => ?_)
        clear hKC KC
        refine wpAnyH_ready (rs := [15]) (by kernel_rfl) (by simp) ?_
        refine AllReadyH.cons rfl (fun KC hKC => ?_) AllReadyH.nil
        refine step_append_lies _ rfl (.tmp 19) (.tmp 28) 28 rfl w.heap.size 86 iF (.agg #[.slice none 0 0, .int .i64 0, .slice none 0 0, .slice none 0 0]) 4 80 Tryz.underlying28 hiF hF0 hF1 hF2 rfl (by decide) (.slice b3 ng d3) ng (G.flatMap fCells) (by simp [Act.eval]) O3.out ⟨UG.heap.size, 0, none⟩ 1 1 [.slice none 0 0, .int .i64 0, .slice al (levT n t) cl, .slice ac lc cc] (by simp [Act.eval]) rfl (lit_at UG [.slice none 0 0, .int .i64 0, .slice al (levT n t) cl, .slice ac lc cc] 86) (by intro u hu; simp at hu; rcases hu with rfl | rfl | rfl | rfl <;> rfl) (by omega) (by unfold maxLen; omega) (by omega) D3.out.bl.size _ rfl ?_
        intro gg cap u8 hown hgrow hat _
        have D4 : Hid _ := D3.out.fdone (.slice (some ⟨gg, 0, none⟩) (ng + 1) cap) (by rw [HNG.out]; exact hown) hgrow (hat_of hat)
        have y0 := D4.out.2.1.1
        have y1 := D4.out.2.1.2
        clear hown hgrow hat O3 D3
        refine hKC.out _ _ (by exact D4.out.2.2.1) (fun hHeld => ?_)
        clear hKC KC
        refine wpAnyH_take (i := 16) (v := ?_) rfl (by kernel_rfl) (by kernel_rfl) (by kernel_rfl) (fun _ _ _ h => h) (Or.inl ⟨by rfl, ?_⟩) (by assumption) ?_
        rotate_left
        · (intro w hSw; (try dsimp only at hSw); (try obtain ⟨hSa, hSb, hSc, hSd⟩ := hSw); (try obtain ⟨hSa, hSb, hSc⟩ := hSw); (try obtain ⟨hSa, hSb⟩ := hSw); go_simp; (try with_reducible rfl))
        refine wpAnyH_take (i := 17) (v := ?_) rfl (by kernel_rfl) (by kernel_rfl) (by kernel_rfl) (fun _ _ _ h => h) (Or.inl ⟨by rfl, ?_⟩) (by assumption) ?_
        rotate_left
        · (intro w hSw; (try dsimp only at hSw); (try obtain ⟨hSa, hSb, hSc, hSd⟩ := hSw); (try obtain ⟨hSa, hSb, hSc⟩ := hSw); (try obtain ⟨hSa, hSb⟩ := hSw); go_simp; (try with_reducible rfl))
        refine wpAnyH_take (i := 18) (v := ?_) rfl (by kernel_rfl) (by kernel_rfl) (by kernel_rfl) (fun _ _ _ h => h) (Or.inl ⟨by rfl, ?_⟩) (by assumption) ?_
        rotate_left
        · (intro w hSw; (try dsimp only at hSw); (try obtain ⟨hSa, hSb, hSc, hSd⟩ := hSw); (try obtain ⟨hSa, hSb, hSc⟩ := hSw); (try obtain ⟨hSa, hSb⟩ := hSw); go_simp; (try with_reducible rfl))
        refine wpAnyH_ready (rs := [19]) (by kernel_rfl) (by simp) ?_
        refine AllReadyH.cons rfl (fun KC hKC => ?_) AllReadyH.nil
        go_simp
        refine hKC.out _ _ (by exact D4.out.2.2.2) (fun hHeld => ?_)
        clear hKC KC
        refine wpAnyH_done (by kernel_rfl) ?_ _
        clear hHeld y0 y1
        refine bodyPost_end (v := .tuple #[]) (by kernel_rfl) rfl ?_
        exact ⟨rfl, _, _, _, by rw [HG1.out, HG2.out, HFN.out]; exact D4.out.1⟩
      focus
        go_simp
        have D3 : Hid (IG w (UG.alloc (.cells #[.slice none 0 0, .int .i64 0, .slice al (levT n t) cl, .slice ac lc cc] 86)) ⟨.slice b1 F.length d1, .slice b2 g2.consts.length d2, .slice b3 ng d3, .slice b4 g2.certs.length d4⟩ F G C (.slice ac lc cc) 0 g2 (D ++ [iRow (.slice al (levT n t) cl) (List.replicate (levT n t) 3)])) := EG.out.keep (below_alloc _ _)
        have O3 : Hid ((UG.alloc (.cells #[.slice none 0 0, .int .i64 0, .slice al (levT n t) cl, .slice ac lc cc] 86)).ownsRow w.heap.size 86 4 (.slice b3 ng d3) ng (G.flatMap fCells)) := (by have := D3.out.bl.prow.2.2.2.1; rw [HNG.out] at this; exact this)
        have q4 : (UG.alloc (.cells #[.slice none 0 0, .int .i64 0, .slice al (levT n t) cl, .slice ac lc cc] 86)).cell? ⟨C, 2, none⟩ = some (.slice b3 ng d3) := D3.out.cells.2.2.1
        refine hKC.out _ _ (by exact D3.out.cells.2.2.2.2.1) (fun hHeld => ?_)
        clear hKC KC
        refine wpAnyH_ready (rs := [5]) (by kernel_rfl) (by simp) ?_
        refine AllReadyH.cons rfl (fun KC hKC => ?_) AllReadyH.nil
        go_simp
        refine hKC.out _ _ (by assumption) (fun hHeld => ?_)
        clear hKC KC
        refine wpAnyH_ready (rs := [15]) (by kernel_rfl) (by simp) ?_
        refine AllReadyH.cons rfl (fun KC hKC => ?_) AllReadyH.nil
        refine step_append_lies _ rfl (.tmp 19) (.tmp 28) 28 rfl w.heap.size 86 iF (.agg #[.slice none 0 0, .int .i64 0, .slice none 0 0, .slice none 0 0]) 4 80 Tryz.underlying28 hiF hF0 hF1 hF2 rfl (by decide) (.slice b3 ng d3) ng (G.flatMap fCells) (by simp [Act.eval]) O3.out ⟨UG.heap.size, 0, none⟩ 1 1 [.slice none 0 0, .int .i64 0, .slice al (levT n t) cl, .slice ac lc cc] (by simp [Act.eval]) rfl (lit_at UG [.slice none 0 0, .int .i64 0, .slice al (levT n t) cl, .slice ac lc cc] 86) (by intro u hu; simp at hu; rcases hu with rfl | rfl | rfl | rfl <;> rfl) (by omega) (by unfold maxLen; omega) (by omega) D3.out.bl.size _ rfl ?_
        intro gg cap u8 hown hgrow hat _
        have D4 : Hid _ := D3.out.fdone (.slice (some ⟨gg, 0, none⟩) (ng + 1) cap) (by rw [HNG.out]; exact hown) hgrow (hat_of hat)
        have y0 := D4.out.2.1.1
        have y1 := D4.out.2.1.2
        clear hown hgrow hat O3 D3
        refine hKC.out _ _ (by exact D4.out.2.2.1) (fun hHeld => ?_)
        clear hKC KC
        refine wpAnyH_take (i := 16) (v := ?_) rfl (by kernel_rfl) (by kernel_rfl) (by kernel_rfl) (fun _ _ _ h => h) (Or.inl ⟨by rfl, ?_⟩) (by assumption) ?_
        rotate_left
        · (intro w hSw; (try dsimp only at hSw); (try obtain ⟨hSa, hSb, hSc, hSd⟩ := hSw); (try obtain ⟨hSa, hSb, hSc⟩ := hSw); (try obtain ⟨hSa, hSb⟩ := hSw); go_simp; (try with_reducible rfl))
        refine wpAnyH_take (i := 17) (v := ?_) rfl (by kernel_rfl) (by kernel_rfl) (by kernel_rfl) (fun _ _ _ h => h) (Or.inl ⟨by rfl, ?_⟩) (by assumption) ?_
        rotate_left
        · (intro w hSw; (try dsimp only at hSw); (try obtain ⟨hSa, hSb, hSc, hSd⟩ := hSw); (try obtain ⟨hSa, hSb, hSc⟩ := hSw); (try obtain ⟨hSa, hSb⟩ := hSw); go_simp; (try with_reducible rfl))
        refine wpAnyH_take (i := 18) (v := ?_) rfl (by kernel_rfl) (by kernel_rfl) (by kernel_rfl) (fun _ _ _ h => h) (Or.inl ⟨by rfl, ?_⟩) (by assumption) ?_
        rotate_left
        · (intro w hSw; (try dsimp only at hSw); (try obtain ⟨hSa, hSb, hSc, hSd⟩ := hSw); (try obtain ⟨hSa, hSb, hSc⟩ := hSw); (try obtain ⟨hSa, hSb⟩ := hSw); go_simp; (try with_reducible rfl))
        refine wpAnyH_ready (rs := [19]) (by kernel_rfl) (by simp) ?_
        refine AllReadyH.cons rfl (fun KC hKC => ?_) AllReadyH.nil
        go_simp
        refine hKC.out _ _ (by exact D4.out.2.2.2) (fun hHeld => ?_)
        clear hKC KC
        refine wpAnyH_done (by kernel_rfl) ?_ _
        clear hHeld y0 y1
        refine bodyPost_end (v := .tuple #[]) (by kernel_rfl) rfl ?_
        exact ⟨rfl, _, _, _, by rw [HG1.out, HG2.out, HFN.out]; exact D4.out.1⟩
end Go.Proofs.YtalkpddhpmjgcaaGreat
