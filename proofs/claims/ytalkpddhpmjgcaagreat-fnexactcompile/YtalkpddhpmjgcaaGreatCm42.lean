import Derived.Test.YtalkpddhpmjgcaaGreatCm22
namespace Go.Proofs.YtalkpddhpmjgcaaGreat
open Go.ChangeShapes Go.WideShapes Go.ChangeAt Go.RowKit
set_option linter.unusedVariables false
/-- A program that is being made, in its block. -/
structure SP (w u : World) (v : VP) (F : List (List Int × Value)) (cs : List MC) (G : List (MF × VF)) (ts : List MT) (P : Nat) (D : List RowI) : Prop where
  bl : Bl w u (pItems v F cs G ts (gb P v :: D))
def fbx (Fb : Nat) (vl vc : Value) : RowI := bRow Fb 86 4 [.slice none 0 0, .int .i64 0, vl, vc]
theorem int_one (l : List Int) : ∀ u ∈ l.flatMap intCell, u.oneCell' = true := fun u hu => by
  obtain ⟨x, _, hx⟩ := List.mem_flatMap.1 hu
  simp only [intCell, List.mem_cons, List.not_mem_nil, or_false] at hx
  rcases hx with rfl; rfl
section
variable {w u u' : World} {v : VP} {F : List (List Int × Value)} {cs : List MC} {G : List (MF × VF)} {ts : List MT} {P Gb Fb : Nat} {fn : Int} {vc vl : Value} {g : Gn} {D : List RowI} {ls : List Int}
theorem SP.open (h : SP w u v F cs G ts P D) (fn : Int) : SG w (u.alloc (.cells #[.pointer (some ⟨P, 0, none⟩), .int .i64 fn, .slice none 0 0] 82)) v F G P u.heap.size fn (.slice none 0 0) ⟨[], cs, ts⟩ D := by
  have h1 := (h.bl.box 82 3 [.pointer (some ⟨P, 0, none⟩), .int .i64 fn, .slice none 0 0] rfl).nil 92 4
  refine ⟨h1.perm ?_⟩
  rw [pItems_nil, pItems_nil (B := _ :: _ :: _ :: D), List.append_assoc, List.append_assoc]
  refine List.Perm.append_left _ ?_
  exact (List.perm_append_comm (l₁ := gb P v :: D) (l₂ := [_, _])).trans (by
    refine List.Perm.trans (List.Perm.swap _ _ _) (.cons _ (List.Perm.swap _ _ _)))
/-- The function's own block, and its locals. -/
theorem SG.fopen (h : SG w u v F G P Gb fn vc g D) : SG w (u.alloc (.cells #[.slice none 0 0, .int .i64 0, .slice none 0 0, vc] 86)) v F G P Gb fn vc g (D ++ [fbx u.heap.size (.slice none 0 0) vc, iRow (.slice none 0 0) []]) := by
  have h1 := (h.bl.box 86 4 [.slice none 0 0, .int .i64 0, .slice none 0 0, vc] rfl).nil 2 1
  rw [← pItems_app, ← pItems_app] at h1
  refine ⟨?_⟩
  have e : (nRow vc g.code :: gb P v :: sgb P Gb fn vc :: D) ++ [bRow u.heap.size 86 4 [.slice none 0 0, .int .i64 0, .slice none 0 0, vc]] ++ [⟨2, 1, .slice none 0 0, 0, []⟩] = nRow vc g.code :: gb P v :: sgb P Gb fn vc :: (D ++ [fbx u.heap.size (.slice none 0 0) vc, iRow (.slice none 0 0) []]) := by simp [fbx, iRow]
  rw [← e]
  exact h1
theorem SG.fcells (h : SG w u v F G P Gb fn vc g (D ++ [fbx Fb vl vc, iRow vl ls])) : (u.cell? ⟨Fb, 0, none⟩ = some (.slice none 0 0) ∧ u.cell? ⟨Fb, 1, none⟩ = some (.int .i64 0) ∧ u.cell? ⟨Fb, 2, none⟩ = some vl ∧ u.cell? ⟨Fb, 3, none⟩ = some vc) ∧ u.frozen? ⟨Fb, 2, none⟩ = false ∧ u.ownsRow w.heap.size 2 1 vl ls.length (ls.flatMap intCell) :=
  have hm : fbx Fb vl vc ∈ pItems v F g.consts G g.certs (nRow vc g.code :: gb P v :: sgb P Gb fn vc :: (D ++ [fbx Fb vl vc, iRow vl ls])) := pItems_in (by simp)
  ⟨⟨h.bl.cell hm 0 (by omega), h.bl.cell hm 1 (by omega), h.bl.cell hm 2 (by omega), h.bl.cell hm 3 (by omega)⟩, h.bl.frozen hm 2, h.bl.sep.own (iRow vl ls) (pItems_in (by simp))⟩
/-- One local more. -/
theorem SG.fpush (h : SG w u v F G P Gb fn vc g (D ++ [fbx Fb vl vc, iRow vl ls])) (z : Int) (V : Value) (ho : u'.ownsRow w.heap.size 2 1 V (ls.length + 1) (ls.flatMap intCell ++ [.int .i64 z])) (hg : u.grownBy u' vl.ownBlock) (hat : V.ownBlock = vl.ownBlock ∨ V.ownBlock = some u.heap.size) : SG w (u'.setCell ⟨Fb, 2, none⟩ V) v F G P Gb fn vc g (D ++ [fbx Fb V vc, iRow V (ls ++ [z])]) ∧ u'.cell? ⟨Fb, 2, none⟩ = some vl ∧ u'.frozen? ⟨Fb, 2, none⟩ = false := by
  have e : ∀ (x : RowI) (y : RowI), pItems v F g.consts G g.certs (nRow vc g.code :: gb P v :: sgb P Gb fn vc :: (D ++ [x, y])) = pItems v F g.consts G g.certs (nRow vc g.code :: gb P v :: sgb P Gb fn vc :: (D ++ [x])) ++ y :: [] := fun x y => by rw [← pItems_app]; simp
  have h0 := h.bl
  rw [e] at h0
  have h1 := h0.app (iRow V (ls ++ [z])) (by simpa [RowI.own, iRow, intCell] using ho) hg hat
  rw [← e] at h1
  have h2 := Bl.setp (D := nRow vc g.code :: gb P v :: sgb P Gb fn vc :: D) (X := Fb) (t := 86) (q := 4) (xs := [.slice none 0 0, .int .i64 0, vl, vc]) (E := [iRow V (ls ++ [z])]) (by simpa [fbx] using h1) 2 (by omega) V
  have hm : fbx Fb vl vc ∈ pItems v F g.consts G g.certs (nRow vc g.code :: gb P v :: sgb P Gb fn vc :: (D ++ [fbx Fb vl vc, iRow V (ls ++ [z])])) := pItems_in (by simp)
  exact ⟨⟨by simpa [fbx] using h2⟩, h1.cell hm 2 (by omega), h1.frozen hm 2⟩
/-- The function is laid. -/
theorem SG.fdone (h : SG w u v F G P Gb fn vc g (D ++ [fbx Fb vl vc, iRow vl ls])) (V : Value) (ho : u'.ownsRow w.heap.size 86 4 V (G.length + 1) (G.flatMap fCells ++ [.slice none 0 0, .int .i64 0, vl, vc])) (hg : u.grownBy u' v.f.ownBlock) (hat : V.ownBlock = v.f.ownBlock ∨ V.ownBlock = some u.heap.size) : SP w (u'.setCell ⟨P, 2, none⟩ V) { v with f := V } F g.consts (G ++ [(⟨[], 0, ls, g.code⟩, ⟨.slice none 0 0, vl, vc⟩)]) g.certs P D ∧ (u'.cell? ⟨P, 2, none⟩ = some v.f ∧ u'.frozen? ⟨P, 2, none⟩ = false) ∧ (u'.cell? ⟨Fb, 0, none⟩ = some (.slice none 0 0) ∧ u'.cell? ⟨Fb, 1, none⟩ = some (.int .i64 0) ∧ u'.cell? ⟨Fb, 2, none⟩ = some vl ∧ u'.cell? ⟨Fb, 3, none⟩ = some vc) ∧ (u'.setCell ⟨P, 2, none⟩ V).cell? ⟨Fb, 0, none⟩ = some (.slice none 0 0) ∧ (u'.setCell ⟨P, 2, none⟩ V).cell? ⟨Fb, 1, none⟩ = some (.int .i64 0) ∧ (u'.setCell ⟨P, 2, none⟩ V).cell? ⟨Fb, 2, none⟩ = some vl ∧ (u'.setCell ⟨P, 2, none⟩ V).cell? ⟨Fb, 3, none⟩ = some vc := by
  have h0 := h.bl.nil 2 1
  have h1 : Bl w u (pItems v F g.consts G g.certs (gb P v :: (sgb P Gb fn vc :: D ++ [fbx Fb vl vc])) ++ fItem (⟨[], 0, ls, g.code⟩, ⟨.slice none 0 0, vl, vc⟩)) := h0.perm (by
    rw [pItems_nil, pItems_nil (B := gb P v :: _), List.append_assoc, List.append_assoc]
    refine List.Perm.append_left _ ?_
    simp only [fItem, iRow, List.length_nil, List.flatMap_nil, List.cons_append, List.append_assoc, List.nil_append]
    refine List.Perm.trans (l₂ := gb P v :: sgb P Gb fn vc :: (D ++ [fbx Fb vl vc, ⟨2, 1, vl, ls.length, ls.flatMap intCell⟩, ⟨2, 1, .slice none 0 0, 0, []⟩, nRow vc g.code])) ?_ ?_
    · have := List.perm_append_comm (l₁ := [nRow vc g.code]) (l₂ := gb P v :: sgb P Gb fn vc :: (D ++ [fbx Fb vl vc, ⟨2, 1, vl, ls.length, ls.flatMap intCell⟩, ⟨2, 1, .slice none 0 0, 0, []⟩]))
      simpa using this
    · refine .cons _ (.cons _ (List.Perm.append_left _ (.cons _ ?_)))
      exact List.Perm.swap _ _ _)
  have h2 := h1.push_f V (by simpa [fCells] using ho) hg hat
  have h3 := Bl.setp (D := []) (X := P) (t := 31) (q := 4) (xs := [v.r, v.k, v.f, v.t]) (E := sgb P Gb fn vc :: D ++ [fbx Fb vl vc]) h2 2 (by omega) V
  have hm2 : fbx Fb vl vc ∈ pItems { v with f := V } F g.consts (G ++ [(⟨[], 0, ls, g.code⟩, ⟨.slice none 0 0, vl, vc⟩)]) g.certs (gb P v :: (sgb P Gb fn vc :: D ++ [fbx Fb vl vc])) := pItems_in (by simp)
  have hm3 : fbx Fb vl vc ∈ pItems { v with f := V } F g.consts (G ++ [(⟨[], 0, ls, g.code⟩, ⟨.slice none 0 0, vl, vc⟩)]) g.certs ([] ++ bRow P 31 4 ([v.r, v.k, v.f, v.t].set 2 V) :: (sgb P Gb fn vc :: D ++ [fbx Fb vl vc])) := pItems_in (by simp)
  refine ⟨⟨h3.sub ?_⟩, ⟨h2.cell (pItems_in (show gb P v ∈ _ by simp)) 2 (by omega), h2.frozen (pItems_in (show gb P v ∈ _ by simp)) 2⟩, ⟨h2.cell hm2 0 (by omega), h2.cell hm2 1 (by omega), h2.cell hm2 2 (by omega), h2.cell hm2 3 (by omega)⟩, h3.cell hm3 0 (by omega), h3.cell hm3 1 (by omega), h3.cell hm3 2 (by omega), h3.cell hm3 3 (by omega)⟩
  rw [pItems_nil, pItems_nil (B := [] ++ _ :: _)]
  refine List.Sublist.append_left ?_ _
  simp only [List.nil_append]
  refine List.Sublist.cons_cons _ (List.Sublist.cons _ ?_)
  exact List.sublist_append_left _ _
end
def FnRes (w : World) (F : List (List Int × Value)) (G : List (MF × VF)) (P : Nat) (n : Nat) (t : TL n) (g' : Gn) (D : List RowI) (e : Ending) (u' : World) : Prop := e = .returned (.tuple #[]) ∧ ∃ v' vf, SP w u' v' F g'.consts (G ++ [(fnOf n t g', vf)]) g'.certs P D
set_option maxHeartbeats 8000000 in
set_option maxRecDepth 100000 in
theorem l10Func_any (n : Nat) (w u : World) (v : VP) (F : List (List Int × Value)) (cs : List MC) (G : List (MF × VF)) (ts : List MT) (P : Nat) (D : List RowI) (fn : Int) (s : Value) (t : TL n) (h : SP w u v F cs G ts P D) (hr : RdT w n s t) (hok : allOkT n t) (hs : sizeT n t ≤ 60) (h2 : cs.length ≤ 10000) (h3 : ts.length ≤ 10000) (h4 : G.length ≤ 100) :
    Calls Tryz.prog 20 #[.pointer (some ⟨P, 0, none⟩), .int .i64 fn, s] u (FnRes w F G P n t ((genT n fn t 0 ⟨[], cs, ts⟩).put [⟨29, 0, 0, 0⟩]) D) := by
  obtain ⟨iF, hiF, hF0, hF1, hF2⟩ := info_parts infoF
  obtain ⟨k0, hk0, hx0, hx1, hx2⟩ := info_parts info64
  have H : Hid (RdT w n s t ∧ allOkT n t ∧ sizeT n t ≤ 60 ∧ cs.length ≤ 10000 ∧ ts.length ≤ 10000) := ⟨hr, hok, hs, h2, h3⟩
  have E0 : Hid (SG w (u.alloc (.cells #[.pointer (some ⟨P, 0, none⟩), .int .i64 fn, .slice none 0 0] 82)) v F G P u.heap.size fn (.slice none 0 0) ⟨[], cs, ts⟩ D) := h.open fn
  obtain ⟨as_, cs_, es⟩ := hr.is_slice
  subst es
  generalize lenT n t = ln at H ⊢
  clear h hr hok hs h2 h3
  go_enter Tryz.func20, Tryz.ntmps20
  go_upto_region 1 with fail
  generalize u.heap.size = Gb at E0 ⊢
  refine wp_world (fun U => Hid (SG w U v F G P Gb fn (.slice none 0 0) ⟨[], cs, ts⟩ D)) E0 ?_
  clear E0
  rintro U0 E0
  go_wp2_with fail
  refine (l10List_any n w U0 v F G P Gb fn (.slice none 0 0) ⟨[], cs, ts⟩ D _ t 0 _ rfl E0.out H.out.1 H.out.2.1 (by have := H.out.2.2; simp; omega) (by have := H.out.2.2; simp; omega) (by have := H.out.2.2; simp; omega) (by have := H.out.2.2; omega)).mono ?_
  rintro e U1 ⟨rfl, v1, vc1, hh⟩
  have hle := genT_le n fn t 0 ⟨[], cs, ts⟩
  generalize hg1 : genT n fn t 0 ⟨[], cs, ts⟩ = g1 at hh hle
  have HG1 : Hid (genT n fn t 0 ⟨[], cs, ts⟩ = g1) := hg1
  have E1 : Hid (SG w U1 v1 F G P Gb fn vc1 g1 D) := hh
  have HL1 : Hid (g1.code.length ≤ 300) := by have a := hle.code; have b := H.out.2.2.1; simp at a; show g1.code.length ≤ 300; omega
  clear hh hle hg1 E0
  go_wp2_with fail
  refine (l10Put_any w U1 v1 F G P Gb fn vc1 g1 D 29 0 0 0 E1.out (by have := HL1.out; omega)).mono ?_
  rintro e U2 ⟨rfl, vc2, hh⟩
  generalize hg2 : g1.put [⟨29, 0, 0, 0⟩] = g2 at hh
  have HG2 : Hid (g1.put [⟨29, 0, 0, 0⟩] = g2) := hg2
  have E2 : Hid (SG w U2 v1 F G P Gb fn vc2 g2 D) := hh
  clear hh hg2 E1 HL1
  obtain ⟨_, _, q2⟩ := E2.out.cells
  obtain ⟨⟨ac, cc, ec⟩, _⟩ := E2.out.bl.nrow
  subst ec
  have E3 : Hid (SG w (U2.alloc (.cells #[.slice none 0 0, .int .i64 0, .slice none 0 0, .slice ac g2.code.length cc] 86)) v1 F G P Gb fn (.slice ac g2.code.length cc) g2 (D ++ [fbx U2.heap.size (.slice none 0 0) (.slice ac g2.code.length cc), iRow (.slice none 0 0) []])) := E2.out.fopen
  generalize g2.code.length = lc at E3 q2 ⊢
  go_upto_region 4 with fail
  clear q2 E2
  generalize U2.heap.size = Fb at E3 ⊢
  refine wp_world (fun U => Hid (SG w U v1 F G P Gb fn (.slice ac lc cc) g2 (D ++ [fbx Fb (.slice none 0 0) (.slice ac lc cc), iRow (.slice none 0 0) []]))) E3 ?_
  clear E3
  rintro U3 E3
  go_wp2_with fail
  refine (l10Levels_any n _ t U3 (H.out.1.keep E3.out.bl.bel (Nat.le_refl _)) (by have := H.out.2.2; omega)).mono ?_
  rintro e U4 ⟨rfl, b4⟩
  have E4 : Hid (SG w U4 v1 F G P Gb fn (.slice ac lc cc) g2 (D ++ [fbx Fb (.slice none 0 0) (.slice ac lc cc), iRow (.slice none 0 0) []])) := E3.out.keep b4
  have hlv : levT n t ≤ 60 := Nat.le_trans (lev_le_size n t) H.out.2.2.1
  clear b4 E3
  have HFN : Hid (fnOf n t g2 = ⟨[], 0, List.replicate (levT n t) 3, g2.code⟩) := rfl
  generalize levT n t = lv at hlv HFN ⊢
  go_wp2_with fail
  go_loopw [8] (fun i wr => ∃ (q : Nat) (al : Option Addr) (cl : Nat), q ≤ lv ∧ i = .int .i64 ((lv : Int) - (q : Int)) ∧ Hid (SG w wr v1 F G P Gb fn (.slice ac lc cc) g2 (D ++ [fbx Fb (.slice al q cl) (.slice ac lc cc), iRow (.slice al q cl) (List.replicate q 3)]))) (fun i _ => (intOf i).toNat)
  case atStart => exact ⟨0, none, 0, by omega, by simp, E4.out⟩
  case round =>
    clear E4
    obtain ⟨q, al, cl, hq, rfl, HK⟩ := hrel
    by_cases hlt : q < lv
    · have hpos : (0 : Int) < (lv : Int) - (q : Int) := by omega
      have hpos' : decide ((lv : Int) - (q : Int) > 0) = true := by simpa using hpos
      obtain ⟨⟨f0, f1, f2, f3⟩, ff, _⟩ := HK.out.fcells
      have K2 : Hid (SG w (wr.alloc (.cells #[.int .i64 3] 2)) v1 F G P Gb fn (.slice ac lc cc) g2 (D ++ [fbx Fb (.slice al q cl) (.slice ac lc cc), iRow (.slice al q cl) (List.replicate q 3)])) := HK.out.keep (below_alloc _ _)
      go_upto_region 6 with (at_builtin; refine wpList_append_lies _ rfl _ _ 49 rfl w.heap.size 2 k0 (.int .i64 0) 1 8 Tryz.underlying49 hk0 hx0 hx1 hx2 rfl (by decide) _ q ((List.replicate q (3 : Int)).flatMap intCell) rfl (by have := K2.out.fcells.2.2; rw [List.length_replicate] at this; exact this) ⟨wr.heap.size, 0, none⟩ 1 1 [.int .i64 3] rfl rfl (lit_at wr [.int .i64 3] 2) (int_one [3]) (by omega) (by simp [maxLen]; omega) (by omega) K2.out.bl.size _ rfl ?_; intro g5 cap5 w5 hown hgrow hat hlt5; have HU : Hid (SG w (w5.setCell ⟨Fb, 2, none⟩ (.slice (some ⟨g5, 0, none⟩) (q + 1) cap5)) v1 F G P Gb fn (.slice ac lc cc) g2 (D ++ [fbx Fb (.slice (some ⟨g5, 0, none⟩) (q + 1) cap5) (.slice ac lc cc), iRow (.slice (some ⟨g5, 0, none⟩) (q + 1) cap5) (List.replicate q 3 ++ [3])]) ∧ w5.cell? ⟨Fb, 2, none⟩ = some (.slice al q cl) ∧ w5.frozen? ⟨Fb, 2, none⟩ = false) := K2.out.fpush 3 (.slice (some ⟨g5, 0, none⟩) (q + 1) cap5) (by rw [List.length_replicate]; exact hown) hgrow (hat_of hat); have k1 := HU.out.2.1; have k2 := HU.out.2.2; clear hown hgrow hat hlt5)
      have HU2 : Hid (SG w (w5.setCell ⟨Fb, 2, none⟩ (.slice (some ⟨g5, 0, none⟩) (q + 1) cap5)) v1 F G P Gb fn (.slice ac lc cc) g2 (D ++ [fbx Fb (.slice (some ⟨g5, 0, none⟩) (q + 1) cap5) (.slice ac lc cc), iRow (.slice (some ⟨g5, 0, none⟩) (q + 1) cap5) (List.replicate (q + 1) 3)])) := by have := HU.out.1; rwa [← List.replicate_succ'] at this
      clear k1 k2 HU K2 HK f0 f1 f2 f3 ff
      generalize w5.setCell ⟨Fb, 2, none⟩ (.slice (some ⟨g5, 0, none⟩) (q + 1) cap5) = W6 at HU2 ⊢
      go_wp2_with fail
      go_roundw
      case rel => exact ⟨q + 1, _, _, by omega, by go_num, HU2⟩
      case measure => simp [intOf]; omega
    · have hql : q = lv := by omega
      subst hql
      have hz : ((q : Int) - (q : Int)) = 0 := by omega
      have hpos' : ¬ (0 : Int) < (q : Int) - (q : Int) := by omega
      obtain ⟨⟨b1, d1, b2, d2, b3, d3, b4, d4, ev⟩, _⟩ := HK.out.bl.prow
      subst ev
      have hG : G.length ≤ 100 := h4
      generalize hng : G.length = ng at HK hG
      have HNG : Hid (G.length = ng) := hng
      clear hng h4
      go_upto_region 8 with fail
      have HD : Hid (SG w wr.drew ⟨.slice b1 F.length d1, .slice b2 g2.consts.length d2, .slice b3 ng d3, .slice b4 g2.certs.length d4⟩ F G P Gb fn (.slice ac lc cc) g2 (D ++ [fbx Fb (.slice al q cl) (.slice ac lc cc), iRow (.slice al q cl) (List.replicate q 3)])) := HK.out.keep (below_drew1 _)
      refine wp_region_held_drew (S := fun W => W.cell? ⟨Fb, 0, none⟩ = some (.slice none 0 0) ∧ W.cell? ⟨Fb, 1, none⟩ = some (.int .i64 0) ∧ W.cell? ⟨Fb, 2, none⟩ = some (.slice al q cl) ∧ W.cell? ⟨Fb, 3, none⟩ = some (.slice ac lc cc)) (by kernel_rfl) (by exact HD.out.fcells.1) (fun hHeld => ?_)
      clear HK
      generalize wr.drew = UD at HD hHeld ⊢
      have q1 : UD.cell? ⟨P, 2, none⟩ = some (.slice b3 ng d3) := HD.out.pcells.2.2.1
      refine wpAnyH_take (i := 0) (v := ?_) rfl (by kernel_rfl) (by kernel_rfl) (by kernel_rfl) (fun _ _ _ h => h) (Or.inl ⟨by rfl, ?_⟩) (by assumption) ?_
      rotate_left
      · (intro w hSw; (try dsimp only at hSw); (try obtain ⟨hSa, hSb, hSc, hSd⟩ := hSw); (try obtain ⟨hSa, hSb, hSc⟩ := hSw); (try obtain ⟨hSa, hSb⟩ := hSw); go_simp; (try with_reducible rfl))
      refine wpAnyH_take (i := 1) (v := ?_) rfl (by kernel_rfl) (by kernel_rfl) (by kernel_rfl) (fun _ _ _ h => h) (Or.inl ⟨by rfl, ?_⟩) (by assumption) ?_
      rotate_left
      · (intro w hSw; (try dsimp only at hSw); (try obtain ⟨hSa, hSb, hSc, hSd⟩ := hSw); (try obtain ⟨hSa, hSb, hSc⟩ := hSw); (try obtain ⟨hSa, hSb⟩ := hSw); go_simp; (try with_reducible rfl))
      refine wpAnyH_take (i := 2) (v := ?_) rfl (by kernel_rfl) (by kernel_rfl) (by kernel_rfl) (fun _ _ _ h => h) (Or.inl ⟨by rfl, ?_⟩) (by assumption) ?_
      rotate_left
      · (intro w hSw; (try dsimp only at hSw); (try obtain ⟨hSa, hSb, hSc, hSd⟩ := hSw); (try obtain ⟨hSa, hSb, hSc⟩ := hSw); (try obtain ⟨hSa, hSb⟩ := hSw); go_simp; (try with_reducible rfl))
      refine wpAnyH_take (i := 3) (v := ?_) rfl (by kernel_rfl) (by kernel_rfl) (by kernel_rfl) (fun _ _ _ h => h) (Or.inl ⟨by rfl, ?_⟩) (by assumption) ?_
      rotate_left
      · (intro w hSw; (try dsimp only at hSw); (try obtain ⟨hSa, hSb, hSc, hSd⟩ := hSw); (try obtain ⟨hSa, hSb, hSc⟩ := hSw); (try obtain ⟨hSa, hSb⟩ := hSw); go_simp; (try with_reducible rfl))
      refine wpAnyH_take (i := 5) (v := ?_) rfl (by kernel_rfl) (by kernel_rfl) (by kernel_rfl) (fun _ _ _ h => h) (Or.inl ⟨by rfl, ?_⟩) (by assumption) ?_
      rotate_left
      · (intro w hSw; (try dsimp only at hSw); (try obtain ⟨hSa, hSb, hSc, hSd⟩ := hSw); (try obtain ⟨hSa, hSb, hSc⟩ := hSw); (try obtain ⟨hSa, hSb⟩ := hSw); go_simp; (try with_reducible rfl))
      refine wpAnyH_ready (rs := [4, 6]) (by kernel_rfl) (by simp) ?_
      refine AllReadyH.cons rfl (fun KC hKC => ?_) (AllReadyH.cons rfl (fun KC hKC => ?_) AllReadyH.nil)
      focus
        go_simp
        refine hKC.out _ _ (by assumption) (fun hHeld => ?_)
        clear hKC KC
        refine wpAnyH_ready (rs := [6]) (by kernel_rfl) (by simp) ?_
        refine AllReadyH.cons rfl (fun KC hKC => ?_) AllReadyH.nil
        go_simp
        have D3 : Hid (SG w (UD.alloc (.cells #[.slice none 0 0, .int .i64 0, .slice al q cl, .slice ac lc cc] 86)) ⟨.slice b1 F.length d1, .slice b2 g2.consts.length d2, .slice b3 ng d3, .slice b4 g2.certs.length d4⟩ F G P Gb fn (.slice ac lc cc) g2 (D ++ [fbx Fb (.slice al q cl) (.slice ac lc cc), iRow (.slice al q cl) (List.replicate q 3)])) := HD.out.keep (below_alloc _ _)
        have O3 : Hid ((UD.alloc (.cells #[.slice none 0 0, .int .i64 0, .slice al q cl, .slice ac lc cc] 86)).ownsRow w.heap.size 86 4 (.slice b3 ng d3) ng (G.flatMap fCells)) := (by have := D3.out.bl.prow.2.2.2.1; rw [HNG.out] at this; exact this)
        have q3 : (UD.alloc (.cells #[.slice none 0 0, .int .i64 0, .slice al q cl, .slice ac lc cc] 86)).cell? ⟨P, 2, none⟩ = some (.slice b3 ng d3) := D3.out.pcells.2.2.1
        refine hKC.out _ _ (by exact D3.out.fcells.1) (fun hHeld => ?_)
        clear hKC KC
        refine wpAnyH_ready (rs := [7]) (by kernel_rfl) (by simp) ?_
        refine AllReadyH.cons rfl (fun KC hKC => ?_) AllReadyH.nil
        refine step_append_lies _ rfl (.tmp 38) (.tmp 40) 28 rfl w.heap.size 86 iF (.agg #[.slice none 0 0, .int .i64 0, .slice none 0 0, .slice none 0 0]) 4 80 Tryz.underlying28 hiF hF0 hF1 hF2 rfl (by decide) (.slice b3 ng d3) ng (G.flatMap fCells) (by simp [Act.eval]) O3.out ⟨UD.heap.size, 0, none⟩ 1 1 [.slice none 0 0, .int .i64 0, .slice al q cl, .slice ac lc cc] (by simp [Act.eval]) rfl (lit_at UD [.slice none 0 0, .int .i64 0, .slice al q cl, .slice ac lc cc] 86) (by intro u hu; simp at hu; rcases hu with rfl | rfl | rfl | rfl <;> rfl) (by omega) (by unfold maxLen; omega) (by omega) D3.out.bl.size _ rfl ?_
        intro gg cap u8 hown hgrow hat _
        have D4 : Hid _ := D3.out.fdone (.slice (some ⟨gg, 0, none⟩) (ng + 1) cap) (by rw [HNG.out]; exact hown) hgrow (hat_of hat)
        have y0 := D4.out.2.1.1
        have y1 := D4.out.2.1.2
        clear hown hgrow hat O3 D3 q1 q3
        refine hKC.out _ _ (by exact D4.out.2.2.1) (fun hHeld => ?_)
        clear hKC KC
        refine wpAnyH_take (i := 8) (v := ?_) rfl (by kernel_rfl) (by kernel_rfl) (by kernel_rfl) (fun _ _ _ h => h) (Or.inl ⟨by rfl, ?_⟩) (by assumption) ?_
        rotate_left
        · (intro w hSw; (try dsimp only at hSw); (try obtain ⟨hSa, hSb, hSc, hSd⟩ := hSw); (try obtain ⟨hSa, hSb, hSc⟩ := hSw); (try obtain ⟨hSa, hSb⟩ := hSw); go_simp; (try with_reducible rfl))
        refine wpAnyH_take (i := 9) (v := ?_) rfl (by kernel_rfl) (by kernel_rfl) (by kernel_rfl) (fun _ _ _ h => h) (Or.inl ⟨by rfl, ?_⟩) (by assumption) ?_
        rotate_left
        · (intro w hSw; (try dsimp only at hSw); (try obtain ⟨hSa, hSb, hSc, hSd⟩ := hSw); (try obtain ⟨hSa, hSb, hSc⟩ := hSw); (try obtain ⟨hSa, hSb⟩ := hSw); go_simp; (try with_reducible rfl))
        refine wpAnyH_ready (rs := [10]) (by kernel_rfl) (by simp) ?_
        refine AllReadyH.cons rfl (fun KC hKC => ?_) AllReadyH.nil
        go_simp
        refine hKC.out _ _ (by exact D4.out.2.2.2) (fun hHeld => ?_)
        clear hKC KC
        refine wpAnyH_done (by kernel_rfl) ?_ _
        clear hHeld y0 y1
        refine bodyPost_end (v := .tuple #[]) (by kernel_rfl) rfl ?_
        exact ⟨rfl, _, _, by rw [HG1.out, HG2.out, HFN.out]; exact D4.out.1⟩
      focus
        go_simp
        have D3 : Hid (SG w (UD.alloc (.cells #[.slice none 0 0, .int .i64 0, .slice al q cl, .slice ac lc cc] 86)) ⟨.slice b1 F.length d1, .slice b2 g2.consts.length d2, .slice b3 ng d3, .slice b4 g2.certs.length d4⟩ F G P Gb fn (.slice ac lc cc) g2 (D ++ [fbx Fb (.slice al q cl) (.slice ac lc cc), iRow (.slice al q cl) (List.replicate q 3)])) := HD.out.keep (below_alloc _ _)
        have O3 : Hid ((UD.alloc (.cells #[.slice none 0 0, .int .i64 0, .slice al q cl, .slice ac lc cc] 86)).ownsRow w.heap.size 86 4 (.slice b3 ng d3) ng (G.flatMap fCells)) := (by have := D3.out.bl.prow.2.2.2.1; rw [HNG.out] at this; exact this)
        have q3 : (UD.alloc (.cells #[.slice none 0 0, .int .i64 0, .slice al q cl, .slice ac lc cc] 86)).cell? ⟨P, 2, none⟩ = some (.slice b3 ng d3) := D3.out.pcells.2.2.1
        refine hKC.out _ _ (by exact D3.out.fcells.1) (fun hHeld => ?_)
        clear hKC KC
        refine wpAnyH_ready (rs := [4]) (by kernel_rfl) (by simp) ?_
        refine AllReadyH.cons rfl (fun KC hKC => ?_) AllReadyH.nil
        go_simp
        refine hKC.out _ _ (by assumption) (fun hHeld => ?_)
        clear hKC KC
        refine wpAnyH_ready (rs := [7]) (by kernel_rfl) (by simp) ?_
        refine AllReadyH.cons rfl (fun KC hKC => ?_) AllReadyH.nil
        refine step_append_lies _ rfl (.tmp 38) (.tmp 40) 28 rfl w.heap.size 86 iF (.agg #[.slice none 0 0, .int .i64 0, .slice none 0 0, .slice none 0 0]) 4 80 Tryz.underlying28 hiF hF0 hF1 hF2 rfl (by decide) (.slice b3 ng d3) ng (G.flatMap fCells) (by simp [Act.eval]) O3.out ⟨UD.heap.size, 0, none⟩ 1 1 [.slice none 0 0, .int .i64 0, .slice al q cl, .slice ac lc cc] (by simp [Act.eval]) rfl (lit_at UD [.slice none 0 0, .int .i64 0, .slice al q cl, .slice ac lc cc] 86) (by intro u hu; simp at hu; rcases hu with rfl | rfl | rfl | rfl <;> rfl) (by omega) (by unfold maxLen; omega) (by omega) D3.out.bl.size _ rfl ?_
        intro gg cap u8 hown hgrow hat _
        have D4 : Hid _ := D3.out.fdone (.slice (some ⟨gg, 0, none⟩) (ng + 1) cap) (by rw [HNG.out]; exact hown) hgrow (hat_of hat)
        have y0 := D4.out.2.1.1
        have y1 := D4.out.2.1.2
        clear hown hgrow hat O3 D3 q1 q3
        refine hKC.out _ _ (by exact D4.out.2.2.1) (fun hHeld => ?_)
        clear hKC KC
        refine wpAnyH_take (i := 8) (v := ?_) rfl (by kernel_rfl) (by kernel_rfl) (by kernel_rfl) (fun _ _ _ h => h) (Or.inl ⟨by rfl, ?_⟩) (by assumption) ?_
        rotate_left
        · (intro w hSw; (try dsimp only at hSw); (try obtain ⟨hSa, hSb, hSc, hSd⟩ := hSw); (try obtain ⟨hSa, hSb, hSc⟩ := hSw); (try obtain ⟨hSa, hSb⟩ := hSw); go_simp; (try with_reducible rfl))
        refine wpAnyH_take (i := 9) (v := ?_) rfl (by kernel_rfl) (by kernel_rfl) (by kernel_rfl) (fun _ _ _ h => h) (Or.inl ⟨by rfl, ?_⟩) (by assumption) ?_
        rotate_left
        · (intro w hSw; (try dsimp only at hSw); (try obtain ⟨hSa, hSb, hSc, hSd⟩ := hSw); (try obtain ⟨hSa, hSb, hSc⟩ := hSw); (try obtain ⟨hSa, hSb⟩ := hSw); go_simp; (try with_reducible rfl))
        refine wpAnyH_ready (rs := [10]) (by kernel_rfl) (by simp) ?_
        refine AllReadyH.cons rfl (fun KC hKC => ?_) AllReadyH.nil
        go_simp
        refine hKC.out _ _ (by exact D4.out.2.2.2) (fun hHeld => ?_)
        clear hKC KC
        refine wpAnyH_done (by kernel_rfl) ?_ _
        clear hHeld y0 y1
        refine bodyPost_end (v := .tuple #[]) (by kernel_rfl) rfl ?_
        exact ⟨rfl, _, _, by rw [HG1.out, HG2.out, HFN.out]; exact D4.out.1⟩
end Go.Proofs.YtalkpddhpmjgcaaGreat
