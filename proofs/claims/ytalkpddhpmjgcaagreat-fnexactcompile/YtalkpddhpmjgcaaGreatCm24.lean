import Derived.Test.YtalkpddhpmjgcaaGreatCm23
namespace Go.Proofs.YtalkpddhpmjgcaaGreat
open Go.ChangeShapes Go.WideShapes Go.ChangeAt Go.RowKit
set_option linter.unusedVariables false
def kbx (X : Nat) (z : Int) : RowI := bRow X 108 2 [.int .i64 3, .int .u32 z]
section
variable {w u u' : World} {v : VP} {F : List (List Int × Value)} {G : List (MF × VF)} {C : Nat} {vc : Value} {lev : Nat} {g : Gn} {D : List RowI}
theorem IG.box (h : IG w u v F G C vc lev g D) (t : TypeId) (q : Nat) (xs : List Value) (hq : xs.length = q) : IG w (u.alloc (.cells xs.toArray t)) v F G C vc lev g (D ++ [bRow u.heap.size t q xs]) := by
  have := h.bl.box t q xs hq
  rw [← pItems_app] at this
  exact ⟨this⟩
theorem IG.unbox {r : RowI} (h : IG w u v F G C vc lev g (D ++ [r])) : IG w u v F G C vc lev g D := ⟨h.bl.sub (by
  rw [show nRow vc g.code :: cbx C v vc lev :: (D ++ [r]) = (nRow vc g.code :: cbx C v vc lev :: D) ++ [r] by simp, pItems_app]
  exact List.sublist_append_left _ _)⟩
theorem IG.bcell {X : Nat} {t : TypeId} {q : Nat} {xs : List Value} (h : IG w u v F G C vc lev g (D ++ [bRow X t q xs])) (i : Nat) (hi : i < q) : u.cell? ⟨X, i, none⟩ = xs[i]? := h.bl.cell (pItems_in (show bRow X t q xs ∈ _ by simp)) i hi
theorem Bl.bcellP {X : Nat} {t : TypeId} {q : Nat} {xs : List Value} {E : List RowI} {cs : List MC} {ts : List MT} (h : Bl w u (pItems v F cs G ts (E ++ (D ++ [bRow X t q xs])))) (i : Nat) (hi : i < q) : u.cell? ⟨X, i, none⟩ = xs[i]? := h.cell (pItems_in (show bRow X t q xs ∈ _ by simp)) i hi
end
set_option maxHeartbeats 8000000 in
set_option maxRecDepth 100000 in
theorem constant_any (w u : World) (v : VP) (F : List (List Int × Value)) (G : List (MF × VF)) (C : Nat) (vc : Value) (lev : Nat) (g : Gn) (D : List RowI) (z : Int) (hz : 0 ≤ z ∧ z < 256) (h3 : ∀ x ∈ g.consts, x.type = 3) (h : IG w u v F G C vc lev g D) (hl : g.consts.length ≤ 1048570) :
    Calls Tryz.prog 143 #[.pointer (some ⟨C, 0, none⟩), .int .u32 z] u fun e u' => e = .returned (.int .i64 (cnstI g.consts z : Int)) ∧ ∃ v', IG w u' v' F G C vc lev ⟨g.code, cnstL g.consts z, g.certs⟩ D := by
  obtain ⟨iC, hi, hC0, hC1, hC2⟩ := info_parts infoC
  obtain ⟨⟨b1, d1, b2, d2, b3, d3, b4, d4, ev⟩, _⟩ := h.bl.prow
  subst ev
  have E0 : Hid (IG w (u.alloc (.cells #[.int .i64 3, .int .u32 z] 108)) ⟨.slice b1 F.length d1, .slice b2 g.consts.length d2, .slice b3 G.length d3, .slice b4 g.certs.length d4⟩ F G C vc lev g (D ++ [kbx u.heap.size z])) := h.box 108 2 [.int .i64 3, .int .u32 z] rfl
  have H3 : Hid (∀ x ∈ g.consts, x.type = 3) := h3
  clear h h3
  generalize hn : g.consts.length = n at E0 hl
  have HN : Hid (g.consts.length = n) := hn
  clear hn
  go_enter Tryz.func143, Tryz.ntmps143
  go_upto_region 2 with fail
  generalize u.heap.size = X at E0 ⊢
  generalize hV : (⟨.slice b1 F.length d1, .slice b2 n d2, .slice b3 G.length d3, .slice b4 g.certs.length d4⟩ : VP) = V at E0
  have HV : Hid (V = ⟨.slice b1 F.length d1, .slice b2 n d2, .slice b3 G.length d3, .slice b4 g.certs.length d4⟩) := hV.symm
  clear hV
  refine wp_world (fun U => Hid (IG w U V F G C vc lev g (D ++ [kbx X z]))) E0 ?_
  clear E0
  rintro U E0
  have HC : Hid (∀ (u' : World), IG w u' V F G C vc lev g (D ++ [kbx X z]) → u'.cell? ⟨C, 1, none⟩ = some (.slice b2 n d2) ∧ u'.cell? ⟨X, 0, none⟩ = some (.int .i64 3) ∧ u'.cell? ⟨X, 1, none⟩ = some (.int .u32 z)) := fun u' hh => ⟨by have := hh.cells.2.1; rw [HV.out] at this; exact this, hh.bcell 0 (by omega), hh.bcell 1 (by omega)⟩
  have ED : Hid (IG w U.drew V F G C vc lev g (D ++ [kbx X z])) := E0.out.keep (below_drew1 _)
  refine wp_region_held_drew (S := fun W => W.cell? ⟨C, 1, none⟩ = some (.slice b2 n d2) ∧ W.cell? ⟨X, 0, none⟩ = some (.int .i64 3) ∧ W.cell? ⟨X, 1, none⟩ = some (.int .u32 z)) (by kernel_rfl) (by exact HC.out _ ED.out) (fun hHeld => ?_)
  clear E0
  generalize U.drew = UD at ED hHeld ⊢
  refine wpAnyH_take (i := 0) (v := ?_) rfl (by kernel_rfl) (by kernel_rfl) (by kernel_rfl) (fun _ _ _ h => h) (Or.inl ⟨by rfl, ?_⟩) (by assumption) ?_
  rotate_left
  · (intro w hSw; (try dsimp only at hSw); (try obtain ⟨hSa, hSb, hSc, hSd⟩ := hSw); (try obtain ⟨hSa, hSb, hSc⟩ := hSw); (try obtain ⟨hSa, hSb⟩ := hSw); go_simp; (try with_reducible rfl))
  refine wpAnyH_take (i := 1) (v := ?_) rfl (by kernel_rfl) (by kernel_rfl) (by kernel_rfl) (fun _ _ _ h => h) (Or.inl ⟨by rfl, ?_⟩) (by assumption) ?_
  rotate_left
  · (intro w hSw; (try dsimp only at hSw); (try obtain ⟨hSa, hSb, hSc, hSd⟩ := hSw); (try obtain ⟨hSa, hSb, hSc⟩ := hSw); (try obtain ⟨hSa, hSb⟩ := hSw); go_simp; (try with_reducible rfl))
  refine wpAnyH_take (i := 2) (v := ?_) rfl (by kernel_rfl) (by kernel_rfl) (by kernel_rfl) (fun _ _ _ h => h) (Or.inl ⟨by rfl, ?_⟩) (by assumption) ?_
  rotate_left
  · (intro w hSw; (try dsimp only at hSw); (try obtain ⟨hSa, hSb, hSc, hSd⟩ := hSw); (try obtain ⟨hSa, hSb, hSc⟩ := hSw); (try obtain ⟨hSa, hSb⟩ := hSw); go_simp; (try with_reducible rfl))
  refine wpAnyH_take (i := 3) (v := ?_) rfl (by kernel_rfl) (by kernel_rfl) (by kernel_rfl) (fun _ _ _ h => h) (Or.inl ⟨by rfl, ?_⟩) (by assumption) ?_
  rotate_left
  · (intro w hSw; (try dsimp only at hSw); (try obtain ⟨hSa, hSb, hSc, hSd⟩ := hSw); (try obtain ⟨hSa, hSb, hSc⟩ := hSw); (try obtain ⟨hSa, hSb⟩ := hSw); go_simp; (try with_reducible rfl))
  refine wpAnyH_take (i := 4) (v := ?_) rfl (by kernel_rfl) (by kernel_rfl) (by kernel_rfl) (fun _ _ _ h => h) (Or.inl ⟨by rfl, ?_⟩) (by assumption) ?_
  rotate_left
  · (intro w hSw; (try dsimp only at hSw); (try obtain ⟨hSa, hSb, hSc, hSd⟩ := hSw); (try obtain ⟨hSa, hSb, hSc⟩ := hSw); (try obtain ⟨hSa, hSb⟩ := hSw); go_simp; (try with_reducible rfl))
  refine wpAnyH_take (i := 5) (v := ?_) rfl (by kernel_rfl) (by kernel_rfl) (by kernel_rfl) (fun _ _ _ h => h) (Or.inl ⟨by rfl, ?_⟩) (by assumption) ?_
  rotate_left
  · (intro w hSw; (try dsimp only at hSw); (try obtain ⟨hSa, hSb, hSc, hSd⟩ := hSw); (try obtain ⟨hSa, hSb, hSc⟩ := hSw); (try obtain ⟨hSa, hSb⟩ := hSw); go_simp; (try with_reducible rfl))
  refine wpAnyH_ready (rs := [6]) (by kernel_rfl) (by simp) ?_
  refine AllReadyH.cons rfl (fun KC hKC => ?_) AllReadyH.nil
  go_simp
  refine (index_any (.slice b2 n d2) g.consts z UD (by have := Rd.of_own ED.out.bl.prow.2.2.1; rw [HV.out] at this; rw [HN.out] at this ⊢; exact this) H3.out (by rw [HN.out]; omega)).mono ?_
  rintro e U1 ⟨rfl, bi⟩
  have E1 : Hid (IG w U1 V F G C vc lev g (D ++ [kbx X z])) := ED.out.keep bi
  clear ED bi
  refine hKC.out _ _ (by exact HC.out _ E1.out) (fun hHeld => ?_)
  clear hKC KC
  refine wpAnyH_take (i := 7) (v := ?_) rfl (by kernel_rfl) (by kernel_rfl) (by kernel_rfl) (fun _ _ _ h => h) (Or.inl ⟨by rfl, ?_⟩) (by assumption) ?_
  rotate_left
  · (intro w hSw; (try dsimp only at hSw); (try obtain ⟨hSa, hSb, hSc, hSd⟩ := hSw); (try obtain ⟨hSa, hSb, hSc⟩ := hSw); (try obtain ⟨hSa, hSb⟩ := hSw); go_simp; (try with_reducible rfl))
  refine wpAnyH_done (by kernel_rfl) ?_ _
  clear hHeld
  by_cases hin : cnstI g.consts z < n
  · have HR : Hid (idxC g.consts z = (cnstI g.consts z : Int) ∧ cnstL g.consts z = g.consts) := by
      refine ⟨?_, ?_⟩
      · unfold idxC; rw [if_pos (by rw [HN.out]; exact hin)]
      · unfold cnstL; rw [if_pos (by rw [HN.out]; exact hin)]
    rw [HR.out.1]
    generalize hix0 : cnstI g.consts z = ix at hin HR ⊢
    have HIX : Hid (cnstI g.consts z = ix) := hix0
    clear hix0
    have hix : ¬ ((ix : Int) < 0) := by omega
    go_wp2_with fail
    go_ret
    exact ⟨by rw [HIX.out]; rfl, V, by rw [HR.out.2]; exact E1.out.unbox⟩
  · have HR : Hid (idxC g.consts z = -1 ∧ cnstL g.consts z = g.consts ++ [⟨3, z⟩] ∧ cnstI g.consts z = n) := by
      have hle := cnstI_le g.consts z
      rw [HN.out] at hle
      refine ⟨?_, ?_, by omega⟩
      · unfold idxC; rw [if_neg (by rw [HN.out]; exact hin)]
      · unfold cnstL; rw [if_neg (by rw [HN.out]; exact hin)]
    rw [HR.out.1]
    obtain ⟨q1, _, _⟩ := HC.out _ E1.out
    go_upto_region 5 with fail
    clear q1
    have EF : Hid (IG w U1.drew V F G C vc lev g (D ++ [kbx X z])) := E1.out.keep (below_drew1 _)
    refine wp_region_held_drew (S := fun W => W.cell? ⟨X, 0, none⟩ = some (.int .i64 3) ∧ W.cell? ⟨X, 1, none⟩ = some (.int .u32 z)) (by kernel_rfl) (by exact ⟨(HC.out _ EF.out).2.1, (HC.out _ EF.out).2.2⟩) (fun hHeld => ?_)
    clear E1
    generalize U1.drew = UF at EF hHeld ⊢
    have q1 := (HC.out _ EF.out).1
    refine wpAnyH_take (i := 0) (v := ?_) rfl (by kernel_rfl) (by kernel_rfl) (by kernel_rfl) (fun _ _ _ h => h) (Or.inl ⟨by rfl, ?_⟩) (by assumption) ?_
    rotate_left
    · (intro w hSw; (try dsimp only at hSw); (try obtain ⟨hSa, hSb, hSc, hSd⟩ := hSw); (try obtain ⟨hSa, hSb, hSc⟩ := hSw); (try obtain ⟨hSa, hSb⟩ := hSw); go_simp; (try with_reducible rfl))
    refine wpAnyH_take (i := 1) (v := ?_) rfl (by kernel_rfl) (by kernel_rfl) (by kernel_rfl) (fun _ _ _ h => h) (Or.inl ⟨by rfl, ?_⟩) (by assumption) ?_
    rotate_left
    · (intro w hSw; (try dsimp only at hSw); (try obtain ⟨hSa, hSb, hSc, hSd⟩ := hSw); (try obtain ⟨hSa, hSb, hSc⟩ := hSw); (try obtain ⟨hSa, hSb⟩ := hSw); go_simp; (try with_reducible rfl))
    refine wpAnyH_take (i := 2) (v := ?_) rfl (by kernel_rfl) (by kernel_rfl) (by kernel_rfl) (fun _ _ _ h => h) (Or.inl ⟨by rfl, ?_⟩) (by assumption) ?_
    rotate_left
    · (intro w hSw; (try dsimp only at hSw); (try obtain ⟨hSa, hSb, hSc, hSd⟩ := hSw); (try obtain ⟨hSa, hSb, hSc⟩ := hSw); (try obtain ⟨hSa, hSb⟩ := hSw); go_simp; (try with_reducible rfl))
    refine wpAnyH_take (i := 3) (v := ?_) rfl (by kernel_rfl) (by kernel_rfl) (by kernel_rfl) (fun _ _ _ h => h) (Or.inl ⟨by rfl, ?_⟩) (by assumption) ?_
    rotate_left
    · (intro w hSw; (try dsimp only at hSw); (try obtain ⟨hSa, hSb, hSc, hSd⟩ := hSw); (try obtain ⟨hSa, hSb, hSc⟩ := hSw); (try obtain ⟨hSa, hSb⟩ := hSw); go_simp; (try with_reducible rfl))
    refine wpAnyH_take (i := 4) (v := ?_) rfl (by kernel_rfl) (by kernel_rfl) (by kernel_rfl) (fun _ _ _ h => h) (Or.inl ⟨by rfl, ?_⟩) (by assumption) ?_
    rotate_left
    · (intro w hSw; (try dsimp only at hSw); (try obtain ⟨hSa, hSb, hSc, hSd⟩ := hSw); (try obtain ⟨hSa, hSb, hSc⟩ := hSw); (try obtain ⟨hSa, hSb⟩ := hSw); go_simp; (try with_reducible rfl))
    refine wpAnyH_take (i := 6) (v := ?_) rfl (by kernel_rfl) (by kernel_rfl) (by kernel_rfl) (fun _ _ _ h => h) (Or.inl ⟨by rfl, ?_⟩) (by assumption) ?_
    rotate_left
    · (intro w hSw; (try dsimp only at hSw); (try obtain ⟨hSa, hSb, hSc, hSd⟩ := hSw); (try obtain ⟨hSa, hSb, hSc⟩ := hSw); (try obtain ⟨hSa, hSb⟩ := hSw); go_simp; (try with_reducible rfl))
    refine wpAnyH_ready (rs := [5, 7]) (by kernel_rfl) (by simp) ?_
    refine AllReadyH.cons rfl (fun KC hKC => ?_) (AllReadyH.cons rfl (fun KC hKC => ?_) AllReadyH.nil)
    focus
      go_simp
      refine hKC.out _ _ (by assumption) (fun hHeld => ?_)
      clear hKC KC
      refine wpAnyH_ready (rs := [7]) (by kernel_rfl) (by simp) ?_
      refine AllReadyH.cons rfl (fun KC hKC => ?_) AllReadyH.nil
      go_simp
      have D3 : Hid (IG w (UF.alloc (.cells #[.int .i64 3, .int .u32 z] 108)) V F G C vc lev g (D ++ [kbx X z])) := EF.out.keep (below_alloc _ _)
      have O3 : Hid ((UF.alloc (.cells #[.int .i64 3, .int .u32 z] 108)).ownsRow w.heap.size 108 2 (.slice b2 n d2) n (g.consts.flatMap MC.cells)) := (by have := D3.out.bl.prow.2.2.1; rw [HN.out, HV.out] at this; exact this)
      have q3 := (HC.out _ D3.out).1
      refine hKC.out _ _ (by exact ⟨(HC.out _ D3.out).2.1, (HC.out _ D3.out).2.2⟩) (fun hHeld => ?_)
      clear hKC KC
      refine wpAnyH_ready (rs := [8]) (by kernel_rfl) (by simp) ?_
      refine AllReadyH.cons rfl (fun KC hKC => ?_) AllReadyH.nil
      refine step_append_lies _ rfl (.tmp 29) (.tmp 31) 27 rfl w.heap.size 108 iC (.agg #[.int .i64 0, .int .u32 0]) 2 16 Tryz.underlying27 hi hC0 hC1 hC2 rfl (by decide) (.slice b2 n d2) n (g.consts.flatMap MC.cells) (by simp [Act.eval]) O3.out ⟨UF.heap.size, 0, none⟩ 1 1 [.int .i64 3, .int .u32 z] (by simp [Act.eval]) rfl (lit_at UF [.int .i64 3, .int .u32 z] 108) (by intro u hu; simp at hu; rcases hu with rfl | rfl <;> rfl) (by omega) (by unfold maxLen; omega) (by omega) D3.out.bl.size _ rfl ?_
      intro gg cap u8 hown hgrow hat _
      have hgrow' : ((UF.alloc (.cells #[.int .i64 3, .int .u32 z] 108))).grownBy u8 V.k.ownBlock := by rw [HV.out]; exact hgrow
      have hat' : (Value.slice (some ⟨gg, 0, none⟩) (n + 1) cap).ownBlock = V.k.ownBlock ∨ (Value.slice (some ⟨gg, 0, none⟩) (n + 1) cap).ownBlock = some (UF.alloc (.cells #[.int .i64 3, .int .u32 z] 108)).heap.size := by rw [HV.out]; exact hat_of hat
      have D4 : Hid _ := D3.out.push_c ⟨3, z⟩ (.slice (some ⟨gg, 0, none⟩) (n + 1) cap) (by rw [HN.out]; exact hown) hgrow' hat'
      have D4x : Hid ((u8.cell? ⟨X, 0, none⟩ = some (.int .i64 3) ∧ u8.cell? ⟨X, 1, none⟩ = some (.int .u32 z)) ∧ (u8.setCell ⟨C, 1, none⟩ (.slice (some ⟨gg, 0, none⟩) (n + 1) cap)).cell? ⟨X, 0, none⟩ = some (.int .i64 3) ∧ (u8.setCell ⟨C, 1, none⟩ (.slice (some ⟨gg, 0, none⟩) (n + 1) cap)).cell? ⟨X, 1, none⟩ = some (.int .u32 z)) := ⟨⟨Bl.bcellP (E := [nRow vc g.code, cbx C V vc lev]) (D3.out.bl.push_c ⟨3, z⟩ (.slice (some ⟨gg, 0, none⟩) (n + 1) cap) (by rw [HN.out]; exact hown) hgrow' hat') 0 (by omega), Bl.bcellP (E := [nRow vc g.code, cbx C V vc lev]) (D3.out.bl.push_c ⟨3, z⟩ (.slice (some ⟨gg, 0, none⟩) (n + 1) cap) (by rw [HN.out]; exact hown) hgrow' hat') 1 (by omega)⟩, D4.out.1.bcell 0 (by omega), D4.out.1.bcell 1 (by omega)⟩
      have y0 : u8.cell? ⟨C, 1, none⟩ = some (.slice b2 n d2) := by have := D4.out.2.1; rw [HV.out] at this; exact this
      have y1 := D4.out.2.2
      clear hown hgrow hat hgrow' hat' O3 D3 q1 q3
      refine hKC.out _ _ (by exact D4x.out.1) (fun hHeld => ?_)
      clear hKC KC
      refine wpAnyH_take (i := 9) (v := ?_) rfl (by kernel_rfl) (by kernel_rfl) (by kernel_rfl) (fun _ _ _ h => h) (Or.inl ⟨by rfl, ?_⟩) (by assumption) ?_
      rotate_left
      · (intro w hSw; (try dsimp only at hSw); (try obtain ⟨hSa, hSb, hSc, hSd⟩ := hSw); (try obtain ⟨hSa, hSb, hSc⟩ := hSw); (try obtain ⟨hSa, hSb⟩ := hSw); go_simp; (try with_reducible rfl))
      refine wpAnyH_take (i := 10) (v := ?_) rfl (by kernel_rfl) (by kernel_rfl) (by kernel_rfl) (fun _ _ _ h => h) (Or.inl ⟨by rfl, ?_⟩) (by assumption) ?_
      rotate_left
      · (intro w hSw; (try dsimp only at hSw); (try obtain ⟨hSa, hSb, hSc, hSd⟩ := hSw); (try obtain ⟨hSa, hSb, hSc⟩ := hSw); (try obtain ⟨hSa, hSb⟩ := hSw); go_simp; (try with_reducible rfl))
      refine wpAnyH_take (i := 11) (v := ?_) rfl (by kernel_rfl) (by kernel_rfl) (by kernel_rfl) (fun _ _ _ h => h) (Or.inl ⟨by rfl, ?_⟩) (by assumption) ?_
      rotate_left
      · (intro w hSw; (try dsimp only at hSw); (try obtain ⟨hSa, hSb, hSc, hSd⟩ := hSw); (try obtain ⟨hSa, hSb, hSc⟩ := hSw); (try obtain ⟨hSa, hSb⟩ := hSw); go_simp; (try with_reducible rfl))
      refine wpAnyH_ready (rs := [12]) (by kernel_rfl) (by simp) ?_
      refine AllReadyH.cons rfl (fun KC hKC => ?_) AllReadyH.nil
      go_simp
      refine hKC.out _ _ (by exact D4x.out.2) (fun hHeld => ?_)
      clear hKC KC
      refine wpAnyH_done (by kernel_rfl) ?_ _
      clear hHeld y0 y1 D4x
      have D5 : Hid _ := D4.out.1
      generalize u8.setCell ⟨C, 1, none⟩ (.slice (some ⟨gg, 0, none⟩) (n + 1) cap) = W5 at D5 ⊢
      clear D4 EF
      go_wp2_with fail
      go_ret
      exact ⟨by rw [HR.out.2.2]; rfl, _, by rw [HR.out.2.1]; exact D5.out.unbox⟩
    focus
      go_simp
      have D3 : Hid (IG w (UF.alloc (.cells #[.int .i64 3, .int .u32 z] 108)) V F G C vc lev g (D ++ [kbx X z])) := EF.out.keep (below_alloc _ _)
      have O3 : Hid ((UF.alloc (.cells #[.int .i64 3, .int .u32 z] 108)).ownsRow w.heap.size 108 2 (.slice b2 n d2) n (g.consts.flatMap MC.cells)) := (by have := D3.out.bl.prow.2.2.1; rw [HN.out, HV.out] at this; exact this)
      have q3 := (HC.out _ D3.out).1
      refine hKC.out _ _ (by exact ⟨(HC.out _ D3.out).2.1, (HC.out _ D3.out).2.2⟩) (fun hHeld => ?_)
      clear hKC KC
      refine wpAnyH_ready (rs := [5]) (by kernel_rfl) (by simp) ?_
      refine AllReadyH.cons rfl (fun KC hKC => ?_) AllReadyH.nil
      go_simp
      refine hKC.out _ _ (by assumption) (fun hHeld => ?_)
      clear hKC KC
      refine wpAnyH_ready (rs := [8]) (by kernel_rfl) (by simp) ?_
      refine AllReadyH.cons rfl (fun KC hKC => ?_) AllReadyH.nil
      refine step_append_lies _ rfl (.tmp 29) (.tmp 31) 27 rfl w.heap.size 108 iC (.agg #[.int .i64 0, .int .u32 0]) 2 16 Tryz.underlying27 hi hC0 hC1 hC2 rfl (by decide) (.slice b2 n d2) n (g.consts.flatMap MC.cells) (by simp [Act.eval]) O3.out ⟨UF.heap.size, 0, none⟩ 1 1 [.int .i64 3, .int .u32 z] (by simp [Act.eval]) rfl (lit_at UF [.int .i64 3, .int .u32 z] 108) (by intro u hu; simp at hu; rcases hu with rfl | rfl <;> rfl) (by omega) (by unfold maxLen; omega) (by omega) D3.out.bl.size _ rfl ?_
      intro gg cap u8 hown hgrow hat _
      have hgrow' : ((UF.alloc (.cells #[.int .i64 3, .int .u32 z] 108))).grownBy u8 V.k.ownBlock := by rw [HV.out]; exact hgrow
      have hat' : (Value.slice (some ⟨gg, 0, none⟩) (n + 1) cap).ownBlock = V.k.ownBlock ∨ (Value.slice (some ⟨gg, 0, none⟩) (n + 1) cap).ownBlock = some (UF.alloc (.cells #[.int .i64 3, .int .u32 z] 108)).heap.size := by rw [HV.out]; exact hat_of hat
      have D4 : Hid _ := D3.out.push_c ⟨3, z⟩ (.slice (some ⟨gg, 0, none⟩) (n + 1) cap) (by rw [HN.out]; exact hown) hgrow' hat'
      have D4x : Hid ((u8.cell? ⟨X, 0, none⟩ = some (.int .i64 3) ∧ u8.cell? ⟨X, 1, none⟩ = some (.int .u32 z)) ∧ (u8.setCell ⟨C, 1, none⟩ (.slice (some ⟨gg, 0, none⟩) (n + 1) cap)).cell? ⟨X, 0, none⟩ = some (.int .i64 3) ∧ (u8.setCell ⟨C, 1, none⟩ (.slice (some ⟨gg, 0, none⟩) (n + 1) cap)).cell? ⟨X, 1, none⟩ = some (.int .u32 z)) := ⟨⟨Bl.bcellP (E := [nRow vc g.code, cbx C V vc lev]) (D3.out.bl.push_c ⟨3, z⟩ (.slice (some ⟨gg, 0, none⟩) (n + 1) cap) (by rw [HN.out]; exact hown) hgrow' hat') 0 (by omega), Bl.bcellP (E := [nRow vc g.code, cbx C V vc lev]) (D3.out.bl.push_c ⟨3, z⟩ (.slice (some ⟨gg, 0, none⟩) (n + 1) cap) (by rw [HN.out]; exact hown) hgrow' hat') 1 (by omega)⟩, D4.out.1.bcell 0 (by omega), D4.out.1.bcell 1 (by omega)⟩
      have y0 : u8.cell? ⟨C, 1, none⟩ = some (.slice b2 n d2) := by have := D4.out.2.1; rw [HV.out] at this; exact this
      have y1 := D4.out.2.2
      clear hown hgrow hat hgrow' hat' O3 D3 q1 q3
      refine hKC.out _ _ (by exact D4x.out.1) (fun hHeld => ?_)
      clear hKC KC
      refine wpAnyH_take (i := 9) (v := ?_) rfl (by kernel_rfl) (by kernel_rfl) (by kernel_rfl) (fun _ _ _ h => h) (Or.inl ⟨by rfl, ?_⟩) (by assumption) ?_
      rotate_left
      · (intro w hSw; (try dsimp only at hSw); (try obtain ⟨hSa, hSb, hSc, hSd⟩ := hSw); (try obtain ⟨hSa, hSb, hSc⟩ := hSw); (try obtain ⟨hSa, hSb⟩ := hSw); go_simp; (try with_reducible rfl))
      refine wpAnyH_take (i := 10) (v := ?_) rfl (by kernel_rfl) (by kernel_rfl) (by kernel_rfl) (fun _ _ _ h => h) (Or.inl ⟨by rfl, ?_⟩) (by assumption) ?_
      rotate_left
      · (intro w hSw; (try dsimp only at hSw); (try obtain ⟨hSa, hSb, hSc, hSd⟩ := hSw); (try obtain ⟨hSa, hSb, hSc⟩ := hSw); (try obtain ⟨hSa, hSb⟩ := hSw); go_simp; (try with_reducible rfl))
      refine wpAnyH_take (i := 11) (v := ?_) rfl (by kernel_rfl) (by kernel_rfl) (by kernel_rfl) (fun _ _ _ h => h) (Or.inl ⟨by rfl, ?_⟩) (by assumption) ?_
      rotate_left
      · (intro w hSw; (try dsimp only at hSw); (try obtain ⟨hSa, hSb, hSc, hSd⟩ := hSw); (try obtain ⟨hSa, hSb, hSc⟩ := hSw); (try obtain ⟨hSa, hSb⟩ := hSw); go_simp; (try with_reducible rfl))
      refine wpAnyH_ready (rs := [12]) (by kernel_rfl) (by simp) ?_
      refine AllReadyH.cons rfl (fun KC hKC => ?_) AllReadyH.nil
      go_simp
      refine hKC.out _ _ (by exact D4x.out.2) (fun hHeld => ?_)
      clear hKC KC
      refine wpAnyH_done (by kernel_rfl) ?_ _
      clear hHeld y0 y1 D4x
      have D5 : Hid _ := D4.out.1
      generalize u8.setCell ⟨C, 1, none⟩ (.slice (some ⟨gg, 0, none⟩) (n + 1) cap) = W5 at D5 ⊢
      clear D4 EF
      go_wp2_with fail
      go_ret
      exact ⟨by rw [HR.out.2.2]; rfl, _, by rw [HR.out.2.1]; exact D5.out.unbox⟩
end Go.Proofs.YtalkpddhpmjgcaaGreat
namespace Go.Proofs.YtalkpddhpmjgcaaGreat
open Go.ChangeShapes Go.WideShapes Go.ChangeAt Go.RowKit
set_option linter.unusedVariables false
/-- What makeCode and putAll leave. -/
def PaRes (w : World) (F : List (List Int × Value)) (G : List (MF × VF)) (C : Nat) (lev : Nat) (g' : Gn) (D : List RowI) (e : Ending) (u' : World) : Prop := e = .returned (.tuple #[]) ∧ ∃ v' vc', IG w u' v' F G C vc' lev g' D
theorem cnstL_ty {cs : List MC} (h : ∀ x ∈ cs, x.type = 3) (v : Int) : ∀ x ∈ cnstL cs v, x.type = 3 := by
  intro x hx
  unfold cnstL at hx
  split at hx
  · exact h x hx
  · rcases List.mem_append.1 hx with hx | hx
    · exact h x hx
    · rw [List.mem_singleton.1 hx]
theorem genS_ty (n : Nat) (fn : Int) (gen : TL n → Nat → Gn → Gn) (h : ∀ t lev g, (∀ x ∈ g.consts, x.type = 3) → ∀ x ∈ (gen t lev g).consts, x.type = 3) (s : SS (TL n)) (lev : Nat) (g : Gn) (hg : ∀ x ∈ g.consts, x.type = 3) : ∀ x ∈ (genS n fn gen s lev g).consts, x.type = 3 := by
  unfold genS
  split
  · exact hg
  · split
    · exact h _ _ _ (h _ _ _ hg)
    · split
      · exact h _ _ _ (cnstL_ty hg _)
      · split
        · exact hg
        · exact hg
theorem genN_ty {n : Nat} {fn : Int} (h : ∀ (t : TL n) lev g, (∀ x ∈ g.consts, x.type = 3) → ∀ x ∈ (genT n fn t lev g).consts, x.type = 3) (l : List (SS (TL n))) (lev : Nat) (g : Gn) (hg : ∀ x ∈ g.consts, x.type = 3) (k : Nat) : ∀ x ∈ (genN n fn l lev k g).consts, x.type = 3 := by
  unfold genN
  generalize l.take k = m
  induction m generalizing g with
  | nil => exact hg
  | cons s m ih => exact ih _ (genS_ty n fn _ h s lev g hg)
theorem genT_ty (n : Nat) (fn : Int) : ∀ (t : TL n) (lev : Nat) (g : Gn), (∀ x ∈ g.consts, x.type = 3) → ∀ x ∈ (genT n fn t lev g).consts, x.type = 3 := by
  induction n with
  | zero => intro t lev g hg; exact hg
  | succ n ih =>
    intro t lev g hg
    have e : genN n fn t lev (List.length t) g = genT (n + 1) fn t lev g := genN_all (Nat.le_refl _)
    rw [← e]
    exact genN_ty ih t lev g hg _
set_option maxHeartbeats 8000000 in
set_option maxRecDepth 100000 in
theorem mkA_any (w u : World) (v : VP) (F : List (List Int × Value)) (G : List (MF × VF)) (C : Nat) (vc : Value) (lev : Nat) (g : Gn) (D : List RowI) (a b : Int) (h : IG w u v F G C vc lev g D) (hl : g.code.length ≤ 1048570) :
    Calls Tryz.prog 149 #[.agg #[.int .i64 a, .int .i64 b], .pointer (some ⟨C, 0, none⟩)] u (PaRes w F G C lev (g.put [ldK a, ldK b, ⟨8, 3, 0, 0⟩, ⟨5, 2, a, 0⟩]) D) := by
  have E0 : Hid (IG w (u.alloc (.cells #[.int .i64 a, .int .i64 b] 156)) v F G C vc lev g (D ++ [bRow u.heap.size 156 2 [.int .i64 a, .int .i64 b]])) := h.box 156 2 [.int .i64 a, .int .i64 b] rfl
  clear h
  go_enter Tryz.func149, Tryz.ntmps149
  go_upto_region 1 with fail
  generalize u.heap.size = X at E0 ⊢
  refine wp_world (fun U => Hid (IG w U v F G C vc lev g (D ++ [bRow X 156 2 [.int .i64 a, .int .i64 b]]))) E0 ?_
  clear E0
  rintro U E0
  have HC : Hid (∀ (u' : World) (vc' : Value) (g' : Gn), IG w u' v F G C vc' lev g' (D ++ [bRow X 156 2 [.int .i64 a, .int .i64 b]]) → u'.cell? ⟨X, 0, none⟩ = some (.int .i64 a) ∧ u'.cell? ⟨X, 1, none⟩ = some (.int .i64 b)) := fun u' vc' g' hh => ⟨hh.bcell 0 (by omega), hh.bcell 1 (by omega)⟩
  have ED : Hid (IG w U.drew v F G C vc lev g (D ++ [bRow X 156 2 [.int .i64 a, .int .i64 b]])) := E0.out.keep (below_drew1 _)
  refine wp_region_held_drew (S := fun W => W.cell? ⟨X, 0, none⟩ = some (.int .i64 a) ∧ W.cell? ⟨X, 1, none⟩ = some (.int .i64 b)) (by kernel_rfl) (by exact HC.out _ _ _ ED.out) (fun hHeld => ?_)
  clear E0
  generalize U.drew = UD at ED hHeld ⊢
  refine wpAnyH_take (i := 0) (v := ?_) rfl (by kernel_rfl) (by kernel_rfl) (by kernel_rfl) (fun _ _ _ h => h) (Or.inl ⟨by rfl, ?_⟩) (by assumption) ?_
  rotate_left
  · (intro w hSw; (try dsimp only at hSw); (try obtain ⟨hSa, hSb, hSc, hSd⟩ := hSw); (try obtain ⟨hSa, hSb, hSc⟩ := hSw); (try obtain ⟨hSa, hSb⟩ := hSw); go_simp; (try with_reducible rfl))
  refine wpAnyH_take (i := 1) (v := ?_) rfl (by kernel_rfl) (by kernel_rfl) (by kernel_rfl) (fun _ _ _ h => h) (Or.inl ⟨by rfl, ?_⟩) (by assumption) ?_
  rotate_left
  · (intro w hSw; (try dsimp only at hSw); (try obtain ⟨hSa, hSb, hSc, hSd⟩ := hSw); (try obtain ⟨hSa, hSb, hSc⟩ := hSw); (try obtain ⟨hSa, hSb⟩ := hSw); go_simp; (try with_reducible rfl))
  refine wpAnyH_take (i := 2) (v := ?_) rfl (by kernel_rfl) (by kernel_rfl) (by kernel_rfl) (fun _ _ _ h => h) (Or.inl ⟨by rfl, ?_⟩) (by assumption) ?_
  rotate_left
  · (intro w hSw; (try dsimp only at hSw); (try obtain ⟨hSa, hSb, hSc, hSd⟩ := hSw); (try obtain ⟨hSa, hSb, hSc⟩ := hSw); (try obtain ⟨hSa, hSb⟩ := hSw); go_simp; (try with_reducible rfl))
  refine wpAnyH_take (i := 4) (v := ?_) rfl (by kernel_rfl) (by kernel_rfl) (by kernel_rfl) (fun _ _ _ h => h) (Or.inl ⟨by rfl, ?_⟩) (by assumption) ?_
  rotate_left
  · (intro w hSw; (try dsimp only at hSw); (try obtain ⟨hSa, hSb, hSc, hSd⟩ := hSw); (try obtain ⟨hSa, hSb, hSc⟩ := hSw); (try obtain ⟨hSa, hSb⟩ := hSw); go_simp; (try with_reducible rfl))
  refine wpAnyH_take (i := 5) (v := ?_) rfl (by kernel_rfl) (by kernel_rfl) (by kernel_rfl) (fun _ _ _ h => h) (Or.inl ⟨by rfl, ?_⟩) (by assumption) ?_
  rotate_left
  · (intro w hSw; (try dsimp only at hSw); (try obtain ⟨hSa, hSb, hSc, hSd⟩ := hSw); (try obtain ⟨hSa, hSb, hSc⟩ := hSw); (try obtain ⟨hSa, hSb⟩ := hSw); go_simp; (try with_reducible rfl))
  refine wpAnyH_take (i := 7) (v := ?_) rfl (by kernel_rfl) (by kernel_rfl) (by kernel_rfl) (fun _ _ _ h => h) (Or.inl ⟨by rfl, ?_⟩) (by assumption) ?_
  rotate_left
  · (intro w hSw; (try dsimp only at hSw); (try obtain ⟨hSa, hSb, hSc, hSd⟩ := hSw); (try obtain ⟨hSa, hSb, hSc⟩ := hSw); (try obtain ⟨hSa, hSb⟩ := hSw); go_simp; (try with_reducible rfl))
  refine wpAnyH_take (i := 8) (v := ?_) rfl (by kernel_rfl) (by kernel_rfl) (by kernel_rfl) (fun _ _ _ h => h) (Or.inl ⟨by rfl, ?_⟩) (by assumption) ?_
  rotate_left
  · (intro w hSw; (try dsimp only at hSw); (try obtain ⟨hSa, hSb, hSc, hSd⟩ := hSw); (try obtain ⟨hSa, hSb, hSc⟩ := hSw); (try obtain ⟨hSa, hSb⟩ := hSw); go_simp; (try with_reducible rfl))
  refine wpAnyH_take (i := 9) (v := ?_) rfl (by kernel_rfl) (by kernel_rfl) (by kernel_rfl) (fun _ _ _ h => h) (Or.inl ⟨by rfl, ?_⟩) (by assumption) ?_
  rotate_left
  · (intro w hSw; (try dsimp only at hSw); (try obtain ⟨hSa, hSb, hSc, hSd⟩ := hSw); (try obtain ⟨hSa, hSb, hSc⟩ := hSw); (try obtain ⟨hSa, hSb⟩ := hSw); go_simp; (try with_reducible rfl))
  refine wpAnyH_take (i := 10) (v := ?_) rfl (by kernel_rfl) (by kernel_rfl) (by kernel_rfl) (fun _ _ _ h => h) (Or.inl ⟨by rfl, ?_⟩) (by assumption) ?_
  rotate_left
  · (intro w hSw; (try dsimp only at hSw); (try obtain ⟨hSa, hSb, hSc, hSd⟩ := hSw); (try obtain ⟨hSa, hSb, hSc⟩ := hSw); (try obtain ⟨hSa, hSb⟩ := hSw); go_simp; (try with_reducible rfl))
  refine wpAnyH_ready (rs := [3]) (by kernel_rfl) (by simp) ?_
  refine AllReadyH.cons rfl (fun KC hKC => ?_) AllReadyH.nil
  go_simp
  refine (loadOf_any _ _).mono ?_
  rintro e UD ⟨rfl, bi⟩
  have E1 : Hid (IG w UD v F G C vc lev g (D ++ [bRow X 156 2 [.int .i64 a, .int .i64 b]])) := ED.out.keep bi
  clear ED bi
  have ED := E1
  clear E1
  refine hKC.out _ _ (by exact HC.out _ _ _ ED.out) (fun hHeld => ?_)
  clear hKC KC
  refine wpAnyH_ready (rs := [6]) (by kernel_rfl) (by simp) ?_
  refine AllReadyH.cons rfl (fun KC hKC => ?_) AllReadyH.nil
  go_simp
  refine (loadOf_any _ _).mono ?_
  rintro e UD ⟨rfl, bi⟩
  have E1 : Hid (IG w UD v F G C vc lev g (D ++ [bRow X 156 2 [.int .i64 a, .int .i64 b]])) := ED.out.keep bi
  clear ED bi
  have ED := E1
  clear E1
  refine hKC.out _ _ (by exact HC.out _ _ _ ED.out) (fun hHeld => ?_)
  clear hKC KC
  refine wpAnyH_ready (rs := [11]) (by kernel_rfl) (by simp) ?_
  refine AllReadyH.cons rfl (fun KC hKC => ?_) AllReadyH.nil
  go_simp
  have EA : Hid (IG w (UD.alloc (.cells #[.int .i64 4, .int .i64 2, .int .i64 a, .int .i64 0, .int .i64 4, .int .i64 2, .int .i64 b, .int .i64 0, .int .i64 8, .int .i64 3, .int .i64 0, .int .i64 0, .int .i64 5, .int .i64 2, .int .i64 a, .int .i64 0] 92)) v F G C vc lev g (D ++ [bRow X 156 2 [.int .i64 a, .int .i64 b]]) ∧ ∀ j y, (([ldK a, ldK b, ⟨8, 3, 0, 0⟩, ⟨5, 2, a, 0⟩] : List MI).flatMap MI.cells)[j]? = some y → (UD.alloc (.cells #[.int .i64 4, .int .i64 2, .int .i64 a, .int .i64 0, .int .i64 4, .int .i64 2, .int .i64 b, .int .i64 0, .int .i64 8, .int .i64 3, .int .i64 0, .int .i64 0, .int .i64 5, .int .i64 2, .int .i64 a, .int .i64 0] 92)).cell? ((⟨UD.heap.size, 0, none⟩ : Addr).add j) = some y) := ⟨ED.out.keep (below_alloc _ _), lit_at UD (([ldK a, ldK b, ⟨8, 3, 0, 0⟩, ⟨5, 2, a, 0⟩] : List MI).flatMap MI.cells) 92⟩
  clear ED
  refine hKC.out _ _ (by exact HC.out _ _ _ EA.out.1) (fun hHeld => ?_)
  clear hKC KC
  refine wpAnyH_ready (rs := [12]) (by kernel_rfl) (by simp) ?_
  refine AllReadyH.cons rfl (fun KC hKC => ?_) AllReadyH.nil
  go_simp
  refine (put_any w _ v F G C vc lev g (D ++ [bRow X 156 2 [.int .i64 a, .int .i64 b]]) [ldK a, ldK b, ⟨8, 3, 0, 0⟩, ⟨5, 2, a, 0⟩] UD.heap.size 4 (by simp) (by simp) EA.out.2 EA.out.1 (by omega)).mono ?_
  rintro e U9 ⟨rfl, vc9, hh⟩
  have E9 : Hid (IG w U9 v F G C vc9 lev (g.put [ldK a, ldK b, ⟨8, 3, 0, 0⟩, ⟨5, 2, a, 0⟩]) (D ++ [bRow X 156 2 [.int .i64 a, .int .i64 b]])) := hh
  clear hh EA
  refine hKC.out _ _ (by exact HC.out _ _ _ E9.out) (fun hHeld => ?_)
  clear hKC KC
  refine wpAnyH_done (by kernel_rfl) ?_ _
  refine bodyPost_end (v := .tuple #[]) (by kernel_rfl) rfl ?_
  exact ⟨rfl, _, _, E9.out.unbox⟩
set_option maxHeartbeats 4000000 in
set_option maxRecDepth 100000 in
theorem mkH_any (w u : World) (v : VP) (F : List (List Int × Value)) (G : List (MF × VF)) (C : Nat) (vc : Value) (lev : Nat) (g : Gn) (D : List RowI) (a : Int) (ha : 0 ≤ a ∧ a < 8) (h : IG w u v F G C vc lev g D) (hl : g.code.length ≤ 1048570) :
    Calls Tryz.prog 141 #[.agg #[.int .i64 a], .pointer (some ⟨C, 0, none⟩)] u (PaRes w F G C lev (g.put [⟨28, a + 1, 0, 0⟩]) D) := by
  have E0 : Hid (IG w (u.alloc (.cells #[.int .i64 a] 131)) v F G C vc lev g (D ++ [bRow u.heap.size 131 1 [.int .i64 a]])) := h.box 131 1 [.int .i64 a] rfl
  clear h
  go_enter Tryz.func141, Tryz.ntmps141
  go_upto_region 1 with fail
  generalize u.heap.size = X at E0 ⊢
  refine wp_world (fun U => Hid (IG w U v F G C vc lev g (D ++ [bRow X 131 1 [.int .i64 a]]))) E0 ?_
  clear E0
  rintro U E0
  have x0 := E0.out.bcell 0 (by omega)
  simp only [List.getElem?_cons_zero] at x0
  go_wp2_with fail
  refine (put_any w _ v F G C vc lev g (D ++ [bRow X 131 1 [.int .i64 a]]) [⟨28, a + 1, 0, 0⟩] U.heap.size 1 (by simp) (by simp) (cells_of U ⟨28, a + 1, 0, 0⟩) (E0.out.keep (below_alloc _ _)) (by omega)).mono ?_
  rintro e U1 ⟨rfl, vc1, hh⟩
  have E1 : Hid (IG w U1 v F G C vc1 lev (g.put [⟨28, a + 1, 0, 0⟩]) (D ++ [bRow X 131 1 [.int .i64 a]])) := hh
  clear hh
  go_wp2_with fail
  refine bodyPost_end (v := .tuple #[]) (by kernel_rfl) rfl ?_
  exact ⟨rfl, _, _, E1.out.unbox⟩
end Go.Proofs.YtalkpddhpmjgcaaGreat
