import Derived.Test.YtalkpddhpmjgcaaGreatCm20
import Derived.Deep.RegionHeld
namespace Go.Proofs.YtalkpddhpmjgcaaGreat
open Go.ChangeShapes Go.WideShapes Go.ChangeAt Go.RowKit
set_option linter.unusedVariables false
theorem cnstI_at {cs : List MC} {v : Int} {k : Nat} {x : MC} (hx : cs[k]? = some x) (hv : x.word = v) (hn : ∀ j y, j < k → cs[j]? = some y → y.word ≠ v) : cnstI cs v = k := by
  obtain ⟨hk, rfl⟩ := List.getElem?_eq_some_iff.1 hx
  unfold cnstI
  rw [List.findIdx_eq hk]
  exact ⟨by simpa using hv, fun j hj => by simpa using hn j cs[j] hj (List.getElem?_eq_getElem (by omega))⟩
theorem cnstI_no {cs : List MC} {v : Int} (hn : ∀ j y, j < cs.length → cs[j]? = some y → y.word ≠ v) : cnstI cs v = cs.length := by
  unfold cnstI
  rw [List.findIdx_eq_length]
  intro x hx
  obtain ⟨i, hi⟩ := List.getElem?_of_mem hx
  simpa using hn i x (List.getElem?_eq_some_iff.1 hi).1 hi
section
variable {w u u' : World} {v : VP} {F : List (List Int × Value)} {G : List (MF × VF)} {P Gb : Nat} {fn : Int} {vc : Value} {g : Gn} {D : List RowI}
/-- A constant more. -/
theorem SG.push_c (h : SG w u v F G P Gb fn vc g D) (x : MC) (V : Value) (ho : u'.ownsRow w.heap.size 108 2 V (g.consts.length + 1) (g.consts.flatMap MC.cells ++ x.cells)) (hg : u.grownBy u' v.k.ownBlock) (hat : V.ownBlock = v.k.ownBlock ∨ V.ownBlock = some u.heap.size) : SG w (u'.setCell ⟨P, 1, none⟩ V) { v with k := V } F G P Gb fn vc ⟨g.code, g.consts ++ [x], g.certs⟩ D ∧ (u'.cell? ⟨P, 1, none⟩ = some v.k ∧ u'.frozen? ⟨P, 1, none⟩ = false) ∧ u'.cell? ⟨Gb, 0, none⟩ = some (.pointer (some ⟨P, 0, none⟩)) ∧ (u'.setCell ⟨P, 1, none⟩ V).cell? ⟨Gb, 0, none⟩ = some (.pointer (some ⟨P, 0, none⟩)) := by
  have h1 := h.bl.push_c x V ho hg hat
  have h2 : SG w (u'.setCell ⟨P, 1, none⟩ V) { v with k := V } F G P Gb fn vc ⟨g.code, g.consts ++ [x], g.certs⟩ D := ⟨h1.setp (D := [nRow vc g.code]) 1 (by omega) V⟩
  exact ⟨h2, ⟨h1.cell (pItems_in (show gb P v ∈ _ by simp)) 1 (by omega), h1.frozen (pItems_in (show gb P v ∈ _ by simp)) 1⟩, h1.cell (pItems_in (show sgb P Gb fn vc ∈ _ by simp)) 0 (by omega), h2.cells.1⟩
/-- A certificate more. -/
theorem SG.push_t (h : SG w u v F G P Gb fn vc g D) (x : MT) (V : Value) (ho : u'.ownsRow w.heap.size 112 4 V (g.certs.length + 1) (g.certs.flatMap MT.cells ++ x.cells)) (hg : u.grownBy u' v.t.ownBlock) (hat : V.ownBlock = v.t.ownBlock ∨ V.ownBlock = some u.heap.size) : SG w (u'.setCell ⟨P, 3, none⟩ V) { v with t := V } F G P Gb fn vc ⟨g.code, g.consts, g.certs ++ [x]⟩ D ∧ (u'.cell? ⟨P, 3, none⟩ = some v.t ∧ u'.frozen? ⟨P, 3, none⟩ = false) ∧ (u'.cell? ⟨Gb, 0, none⟩ = some (.pointer (some ⟨P, 0, none⟩)) ∧ u'.cell? ⟨Gb, 1, none⟩ = some (.int .i64 fn)) ∧ (u'.setCell ⟨P, 3, none⟩ V).cell? ⟨Gb, 0, none⟩ = some (.pointer (some ⟨P, 0, none⟩)) ∧ (u'.setCell ⟨P, 3, none⟩ V).cell? ⟨Gb, 1, none⟩ = some (.int .i64 fn) := by
  have h1 := h.bl.push_t x V ho hg hat
  have h2 : SG w (u'.setCell ⟨P, 3, none⟩ V) { v with t := V } F G P Gb fn vc ⟨g.code, g.consts, g.certs ++ [x]⟩ D := ⟨h1.setp (D := [nRow vc g.code]) 3 (by omega) V⟩
  exact ⟨h2, ⟨h1.cell (pItems_in (show gb P v ∈ _ by simp)) 3 (by omega), h1.frozen (pItems_in (show gb P v ∈ _ by simp)) 3⟩, ⟨h1.cell (pItems_in (show sgb P Gb fn vc ∈ _ by simp)) 0 (by omega), h1.cell (pItems_in (show sgb P Gb fn vc ∈ _ by simp)) 1 (by omega)⟩, h2.cells.1, h2.cells.2.1⟩
end
set_option maxHeartbeats 4000000 in
set_option maxRecDepth 100000 in
theorem l10Const_any (w u : World) (v : VP) (F : List (List Int × Value)) (G : List (MF × VF)) (P Gb : Nat) (fn : Int) (vc : Value) (g : Gn) (D : List RowI) (z : Int) (hz : 0 ≤ z ∧ z < 256) (h : SG w u v F G P Gb fn vc g D) (hl : g.consts.length ≤ 1048576) :
    Calls Tryz.prog 69 #[.pointer (some ⟨Gb, 0, none⟩), .int .i64 z] u fun e u' => e = .returned (.int .i64 (cnstI g.consts z : Int)) ∧ ∃ v', SG w u' v' F G P Gb fn vc ⟨g.code, cnstL g.consts z, g.certs⟩ D := by
  obtain ⟨iC, hi, hC0, hC1, hC2⟩ := info_parts infoC
  obtain ⟨⟨a1, c1, a2, c2, a3, c3, a4, c4, e1⟩, _⟩ := h.bl.prow
  subst e1
  have H : Hid (SG w u ⟨.slice a1 F.length c1, .slice a2 g.consts.length c2, .slice a3 G.length c3, .slice a4 g.certs.length c4⟩ F G P Gb fn vc g D) := h
  obtain ⟨q0, _, _⟩ := h.cells
  obtain ⟨_, p1, _, _⟩ := h.pcells
  clear h
  simp only [] at p1
  generalize hn : g.consts.length = n at H p1 hl ⊢
  have HN : Hid (g.consts.length = n) := hn
  clear hn
  have hw : IntKind.u32.wrap z = z := IntWalk.u32_in _ ⟨by omega, by omega⟩
  go_enter Tryz.func69, Tryz.ntmps69
  go_wp2_with fail
  go_loopw [5] (fun i wr => ∃ k : Nat, k ≤ n ∧ i = .int .i64 k ∧ wr = u ∧ Hid (∀ j y, j < k → g.consts[j]? = some y → y.word ≠ z)) (fun i _ => n - (intOf i).toNat)
  case atStart => exact ⟨0, by omega, rfl, rfl, fun j y hj => absurd hj (by omega)⟩
  case round =>
    obtain ⟨k, hk, rfl, rfl, HK⟩ := hrel
    by_cases hlt : k < n
    · obtain ⟨x, hx⟩ : ∃ x, g.consts[k]? = some x := ⟨_, List.getElem?_eq_getElem (by rw [HN.out]; exact hlt)⟩
      have hr := Rd.of_own H.out.bl.prow.2.2.1
      rw [HN.out] at hr
      obtain ⟨gk, ok, ck, ek, hck⟩ : ∃ gk ok ck, (Value.slice a2 n c2) = .slice (some ⟨gk, ok, none⟩) n ck ∧ ∀ j u', (g.consts.flatMap MC.cells)[j]? = some u' → wr.cell? ⟨gk, ok + j, none⟩ = some u' := by
        rcases hr.2 with ⟨e, _⟩ | ⟨gk, ok, ck, ek, hck⟩
        · omega
        · exact ⟨gk, ok, ck, ek, hck⟩
      simp only [Value.slice.injEq, true_and] at ek
      obtain ⟨rfl, rfl⟩ := ek
      have j1 := Rd.elem MC.cells_length hck k x hx 1 _ rfl
      clear hck hr
      by_cases hxz : x.word = z
      · have HR : Hid (cnstI g.consts z = k ∧ cnstL g.consts z = g.consts) := by
          have e := cnstI_at hx hxz HK.out
          refine ⟨e, ?_⟩
          unfold cnstL
          rw [if_pos (by rw [e, HN.out]; exact hlt)]
        have hxz' : (x.word == z) = true := by simpa using hxz
        clear hx hxz
        go_wp2_with fail
        go_ret
        exact ⟨by rw [HR.out.1]; rfl, _, by rw [HR.out.2]; exact H.out⟩
      · have hxz' : (x.word == z) = false := by simpa using hxz
        have HK2 : Hid (∀ j y, j < k + 1 → g.consts[j]? = some y → y.word ≠ z) := fun j y hj hy => by
          by_cases e : j = k
          · subst e
            rw [hx] at hy
            obtain rfl := Option.some.inj hy
            exact hxz
          · exact HK.out j y (by omega) hy
        clear hx hxz
        go_wp2_with fail
        go_roundw
        case rel => exact ⟨k + 1, by omega, by go_num, trivial, HK2⟩
        case measure => simp [intOf]; omega
    · have hkn : k = n := by omega
      subst hkn
      have HR : Hid (cnstI g.consts z = k ∧ cnstL g.consts z = g.consts ++ [⟨3, z⟩]) := by
        have e := cnstI_no (cs := g.consts) (v := z) (by rw [HN.out]; exact HK.out)
        refine ⟨by rw [e, HN.out], ?_⟩
        unfold cnstL
        rw [if_neg (by rw [e]; omega)]
      go_upto_region 6 with fail
      refine wp_region_held_drew (S := fun W => W.cell? ⟨Gb, 0, none⟩ = some (.pointer (some ⟨P, 0, none⟩))) (by kernel_rfl) (by exact (H.out.keep (below_drew1 _)).cells.1) (fun hHeld => ?_)
      have D0 : Hid (SG w wr.drew ⟨.slice a1 F.length c1, .slice a2 k c2, .slice a3 G.length c3, .slice a4 g.certs.length c4⟩ F G P Gb fn vc g D) := H.out.keep (below_drew1 _)
      clear p1
      generalize wr.drew = UD at D0 hHeld ⊢
      have q1 : UD.cell? ⟨P, 1, none⟩ = some (.slice a2 k c2) := D0.out.pcells.2.1
      refine wpAnyH_take (i := 0) (v := ?_) rfl (by kernel_rfl) (by kernel_rfl) (by kernel_rfl) (fun _ _ _ h => h) (Or.inl ⟨by rfl, ?_⟩) (by assumption) ?_
      rotate_left
      · (intro w hSw; (try dsimp only at hSw); (try obtain ⟨hSa, hSb, hSc, hSd⟩ := hSw); (try obtain ⟨hSa, hSb, hSc⟩ := hSw); (try obtain ⟨hSa, hSb⟩ := hSw); go_simp; (try with_reducible rfl))
      refine wpAnyH_take (i := 1) (v := ?_) rfl (by kernel_rfl) (by kernel_rfl) (by kernel_rfl) (fun _ _ _ h => h) (Or.inl ⟨by rfl, ?_⟩) (by assumption) ?_
      rotate_left
      · (intro w hSw; (try dsimp only at hSw); (try obtain ⟨hSa, hSb, hSc, hSd⟩ := hSw); (try obtain ⟨hSa, hSb, hSc⟩ := hSw); (try obtain ⟨hSa, hSb⟩ := hSw); go_simp; (try with_reducible rfl))
      refine wpAnyH_take (i := 2) (v := ?_) rfl (by kernel_rfl) (by kernel_rfl) (by kernel_rfl) (fun _ _ _ h => h) (Or.inl ⟨by rfl, ?_⟩) (by assumption) ?_
      rotate_left
      · (intro w hSw; (try dsimp only at hSw); (try obtain ⟨hSa, hSb, hSc, hSd⟩ := hSw); (try obtain ⟨hSa, hSb, hSc⟩ := hSw); (try obtain ⟨hSa, hSb⟩ := hSw); go_simp; (try with_reducible rfl))
      refine wpAnyH_take (i := 3) (v := ?_) rfl (by kernel_rfl) (by kernel_rfl) (by kernel_rfl) (fun _ _ _ h => h) (Or.inl ⟨by rfl, ?_⟩) (by assumption) ?_
      rotate_left
      · (intro w hSw; (try dsimp only at hSw); (try obtain ⟨hSa, hSb, hSc, hSd⟩ := hSw); (try obtain ⟨hSa, hSb, hSc⟩ := hSw); (try obtain ⟨hSa, hSb⟩ := hSw); go_simp; (try with_reducible rfl))
      refine wpAnyH_take (i := 4) (v := ?_) rfl (by kernel_rfl) (by kernel_rfl) (by kernel_rfl) (fun _ _ _ h => h) (Or.inl ⟨by rfl, ?_⟩) (by assumption) ?_
      rotate_left
      · (intro w hSw; (try dsimp only at hSw); (try obtain ⟨hSa, hSb, hSc, hSd⟩ := hSw); (try obtain ⟨hSa, hSb, hSc⟩ := hSw); (try obtain ⟨hSa, hSb⟩ := hSw); go_simp; (try with_reducible rfl))
      refine wpAnyH_take (i := 5) (v := ?_) rfl (by kernel_rfl) (by kernel_rfl) (by kernel_rfl) (fun _ _ _ h => h) (Or.inl ⟨by rfl, ?_⟩) (by assumption) ?_
      rotate_left
      · (intro w hSw; (try dsimp only at hSw); (try obtain ⟨hSa, hSb, hSc, hSd⟩ := hSw); (try obtain ⟨hSa, hSb, hSc⟩ := hSw); (try obtain ⟨hSa, hSb⟩ := hSw); go_simp; (try with_reducible rfl))
      refine wpAnyH_take (i := 6) (v := ?_) rfl (by kernel_rfl) (by kernel_rfl) (by kernel_rfl) (fun _ _ _ h => h) (Or.inl ⟨by rfl, ?_⟩) (by assumption) ?_
      rotate_left
      · (intro w hSw; (try dsimp only at hSw); (try obtain ⟨hSa, hSb, hSc, hSd⟩ := hSw); (try obtain ⟨hSa, hSb, hSc⟩ := hSw); (try obtain ⟨hSa, hSb⟩ := hSw); go_simp; (try with_reducible rfl))
      refine wpAnyH_take (i := 7) (v := ?_) rfl (by kernel_rfl) (by kernel_rfl) (by kernel_rfl) (fun _ _ _ h => h) (Or.inl ⟨by rfl, ?_⟩) (by assumption) ?_
      rotate_left
      · (intro w hSw; (try dsimp only at hSw); (try obtain ⟨hSa, hSb, hSc, hSd⟩ := hSw); (try obtain ⟨hSa, hSb, hSc⟩ := hSw); (try obtain ⟨hSa, hSb⟩ := hSw); go_simp; (try with_reducible rfl))
      refine wpAnyH_take (i := 8) (v := ?_) rfl (by kernel_rfl) (by kernel_rfl) (by kernel_rfl) (fun _ _ _ h => h) (Or.inl ⟨by rfl, ?_⟩) (by assumption) ?_
      rotate_left
      · (intro w hSw; (try dsimp only at hSw); (try obtain ⟨hSa, hSb, hSc, hSd⟩ := hSw); (try obtain ⟨hSa, hSb, hSc⟩ := hSw); (try obtain ⟨hSa, hSb⟩ := hSw); go_simp; (try with_reducible rfl))
      refine wpAnyH_take (i := 9) (v := ?_) rfl (by kernel_rfl) (by kernel_rfl) (by kernel_rfl) (fun _ _ _ h => h) (Or.inl ⟨by rfl, ?_⟩) (by assumption) ?_
      rotate_left
      · (intro w hSw; (try dsimp only at hSw); (try obtain ⟨hSa, hSb, hSc, hSd⟩ := hSw); (try obtain ⟨hSa, hSb, hSc⟩ := hSw); (try obtain ⟨hSa, hSb⟩ := hSw); go_simp; (try with_reducible rfl))
      refine wpAnyH_take (i := 11) (v := ?_) rfl (by kernel_rfl) (by kernel_rfl) (by kernel_rfl) (fun _ _ _ h => h) (Or.inl ⟨by rfl, ?_⟩) (by assumption) ?_
      rotate_left
      · (intro w hSw; (try dsimp only at hSw); (try obtain ⟨hSa, hSb, hSc, hSd⟩ := hSw); (try obtain ⟨hSa, hSb, hSc⟩ := hSw); (try obtain ⟨hSa, hSb⟩ := hSw); go_simp; (try with_reducible rfl))
      refine wpAnyH_take (i := 12) (v := ?_) rfl (by kernel_rfl) (by kernel_rfl) (by kernel_rfl) (fun _ _ _ h => h) (Or.inl ⟨by rfl, ?_⟩) (by assumption) ?_
      rotate_left
      · (intro w hSw; (try dsimp only at hSw); (try obtain ⟨hSa, hSb, hSc, hSd⟩ := hSw); (try obtain ⟨hSa, hSb, hSc⟩ := hSw); (try obtain ⟨hSa, hSb⟩ := hSw); go_simp; (try with_reducible rfl))
      refine wpAnyH_take (i := 13) (v := ?_) rfl (by kernel_rfl) (by kernel_rfl) (by kernel_rfl) (fun _ _ _ h => h) (Or.inl ⟨by rfl, ?_⟩) (by assumption) ?_
      rotate_left
      · (intro w hSw; (try dsimp only at hSw); (try obtain ⟨hSa, hSb, hSc, hSd⟩ := hSw); (try obtain ⟨hSa, hSb, hSc⟩ := hSw); (try obtain ⟨hSa, hSb⟩ := hSw); go_simp; (try with_reducible rfl))
      refine wpAnyH_ready (rs := [10, 14]) (by kernel_rfl) (by simp) ?_
      refine AllReadyH.cons rfl (fun KC hKC => ?_) (AllReadyH.cons rfl (fun KC hKC => ?_) AllReadyH.nil)
      focus
        go_simp
        refine hKC.out _ _ (by assumption) (fun hHeld => ?_)
        clear hKC KC
        refine wpAnyH_ready (rs := [14]) (by kernel_rfl) (by simp) ?_
        refine AllReadyH.cons rfl (fun KC hKC => ?_) AllReadyH.nil
        go_simp
        have D3 : Hid (SG w (UD.alloc (.cells #[.int .i64 3, .int .u32 z] 108)) ⟨.slice a1 F.length c1, .slice a2 k c2, .slice a3 G.length c3, .slice a4 g.certs.length c4⟩ F G P Gb fn vc g D) := D0.out.keep (below_alloc _ _)
        have O3 : Hid ((UD.alloc (.cells #[.int .i64 3, .int .u32 z] 108)).ownsRow w.heap.size 108 2 (.slice a2 k c2) k (g.consts.flatMap MC.cells)) := (by have := D3.out.bl.prow.2.2.1; rw [HN.out] at this; exact this)
        have q3 : (UD.alloc (.cells #[.int .i64 3, .int .u32 z] 108)).cell? ⟨P, 1, none⟩ = some (.slice a2 k c2) := D3.out.pcells.2.1
        refine hKC.out _ _ (by exact D3.out.cells.1) (fun hHeld => ?_)
        clear hKC KC
        refine wpAnyH_ready (rs := [15]) (by kernel_rfl) (by simp) ?_
        refine AllReadyH.cons rfl (fun KC hKC => ?_) AllReadyH.nil
        refine step_append_lies _ rfl (.tmp 43) (.tmp 47) 27 rfl w.heap.size 108 iC (.agg #[.int .i64 0, .int .u32 0]) 2 16 Tryz.underlying27 hi hC0 hC1 hC2 rfl (by decide) (.slice a2 k c2) k (g.consts.flatMap MC.cells) (by simp [Act.eval]) O3.out ⟨UD.heap.size, 0, none⟩ 1 1 [.int .i64 3, .int .u32 z] (by simp [Act.eval]) rfl (lit_at UD [.int .i64 3, .int .u32 z] 108) (by intro u hu; simp at hu; rcases hu with rfl | rfl <;> rfl) (by omega) (by unfold maxLen; omega) (by omega) D3.out.bl.size _ rfl ?_
        intro gg cap u8 hown hgrow hat _
        have D4 : Hid (SG w (u8.setCell ⟨P, 1, none⟩ (.slice (some ⟨gg, 0, none⟩) (k + 1) cap)) ⟨.slice a1 F.length c1, (.slice (some ⟨gg, 0, none⟩) (k + 1) cap), .slice a3 G.length c3, .slice a4 g.certs.length c4⟩ F G P Gb fn vc ⟨g.code, g.consts ++ [⟨3, z⟩], g.certs⟩ D ∧ (u8.cell? ⟨P, 1, none⟩ = some (.slice a2 k c2) ∧ u8.frozen? ⟨P, 1, none⟩ = false) ∧ u8.cell? ⟨Gb, 0, none⟩ = some (.pointer (some ⟨P, 0, none⟩)) ∧ (u8.setCell ⟨P, 1, none⟩ (.slice (some ⟨gg, 0, none⟩) (k + 1) cap)).cell? ⟨Gb, 0, none⟩ = some (.pointer (some ⟨P, 0, none⟩))) := D3.out.push_c ⟨3, z⟩ (.slice (some ⟨gg, 0, none⟩) (k + 1) cap) (by rw [HN.out]; exact hown) hgrow (hat_of hat)
        have y0 := D4.out.2.1.1
        have y1 := D4.out.2.1.2
        clear hown hgrow hat O3 D3 q1 q3
        refine hKC.out _ _ (by exact D4.out.2.2.1) (fun hHeld => ?_)
        clear hKC KC
        refine wpAnyH_take (i := 16) (v := ?_) rfl (by kernel_rfl) (by kernel_rfl) (by kernel_rfl) (fun _ _ _ h => h) (Or.inl ⟨by rfl, ?_⟩) (by assumption) ?_
        rotate_left
        · (intro w hSw; (try dsimp only at hSw); (try obtain ⟨hSa, hSb, hSc, hSd⟩ := hSw); (try obtain ⟨hSa, hSb, hSc⟩ := hSw); (try obtain ⟨hSa, hSb⟩ := hSw); go_simp; (try with_reducible rfl))
        refine wpAnyH_take (i := 17) (v := ?_) rfl (by kernel_rfl) (by kernel_rfl) (by kernel_rfl) (fun _ _ _ h => h) (Or.inl ⟨by rfl, ?_⟩) (by assumption) ?_
        rotate_left
        · (intro w hSw; (try dsimp only at hSw); (try obtain ⟨hSa, hSb, hSc, hSd⟩ := hSw); (try obtain ⟨hSa, hSb, hSc⟩ := hSw); (try obtain ⟨hSa, hSb⟩ := hSw); go_simp; (try with_reducible rfl))
        refine wpAnyH_ready (rs := [18]) (by kernel_rfl) (by simp) ?_
        refine AllReadyH.cons rfl (fun KC hKC => ?_) AllReadyH.nil
        go_simp
        refine hKC.out _ _ (by exact D4.out.2.2.2) (fun hHeld => ?_)
        clear hKC KC
        refine wpAnyH_done (by kernel_rfl) ?_ _
        clear hHeld
        have D5 : Hid _ := D4.out.1
        generalize u8.setCell ⟨P, 1, none⟩ (.slice (some ⟨gg, 0, none⟩) (k + 1) cap) = W5 at D5 ⊢
        clear D4 y0 y1 q0 D0
        obtain ⟨z0, _, _⟩ := D5.out.cells
        obtain ⟨_, z1, _, _⟩ := D5.out.pcells
        simp only [] at z1
        go_wp2_with fail
        go_ret
        exact ⟨by rw [HR.out.1]; simp, _, by rw [HR.out.2]; exact D5.out⟩
      focus
        go_simp
        have D3 : Hid (SG w (UD.alloc (.cells #[.int .i64 3, .int .u32 z] 108)) ⟨.slice a1 F.length c1, .slice a2 k c2, .slice a3 G.length c3, .slice a4 g.certs.length c4⟩ F G P Gb fn vc g D) := D0.out.keep (below_alloc _ _)
        have O3 : Hid ((UD.alloc (.cells #[.int .i64 3, .int .u32 z] 108)).ownsRow w.heap.size 108 2 (.slice a2 k c2) k (g.consts.flatMap MC.cells)) := (by have := D3.out.bl.prow.2.2.1; rw [HN.out] at this; exact this)
        have q3 : (UD.alloc (.cells #[.int .i64 3, .int .u32 z] 108)).cell? ⟨P, 1, none⟩ = some (.slice a2 k c2) := D3.out.pcells.2.1
        refine hKC.out _ _ (by exact D3.out.cells.1) (fun hHeld => ?_)
        clear hKC KC
        refine wpAnyH_ready (rs := [10]) (by kernel_rfl) (by simp) ?_
        refine AllReadyH.cons rfl (fun KC hKC => ?_) AllReadyH.nil
        go_simp
        refine hKC.out _ _ (by assumption) (fun hHeld => ?_)
        clear hKC KC
        refine wpAnyH_ready (rs := [15]) (by kernel_rfl) (by simp) ?_
        refine AllReadyH.cons rfl (fun KC hKC => ?_) AllReadyH.nil
        refine step_append_lies _ rfl (.tmp 43) (.tmp 47) 27 rfl w.heap.size 108 iC (.agg #[.int .i64 0, .int .u32 0]) 2 16 Tryz.underlying27 hi hC0 hC1 hC2 rfl (by decide) (.slice a2 k c2) k (g.consts.flatMap MC.cells) (by simp [Act.eval]) O3.out ⟨UD.heap.size, 0, none⟩ 1 1 [.int .i64 3, .int .u32 z] (by simp [Act.eval]) rfl (lit_at UD [.int .i64 3, .int .u32 z] 108) (by intro u hu; simp at hu; rcases hu with rfl | rfl <;> rfl) (by omega) (by unfold maxLen; omega) (by omega) D3.out.bl.size _ rfl ?_
        intro gg cap u8 hown hgrow hat _
        have D4 : Hid (SG w (u8.setCell ⟨P, 1, none⟩ (.slice (some ⟨gg, 0, none⟩) (k + 1) cap)) ⟨.slice a1 F.length c1, (.slice (some ⟨gg, 0, none⟩) (k + 1) cap), .slice a3 G.length c3, .slice a4 g.certs.length c4⟩ F G P Gb fn vc ⟨g.code, g.consts ++ [⟨3, z⟩], g.certs⟩ D ∧ (u8.cell? ⟨P, 1, none⟩ = some (.slice a2 k c2) ∧ u8.frozen? ⟨P, 1, none⟩ = false) ∧ u8.cell? ⟨Gb, 0, none⟩ = some (.pointer (some ⟨P, 0, none⟩)) ∧ (u8.setCell ⟨P, 1, none⟩ (.slice (some ⟨gg, 0, none⟩) (k + 1) cap)).cell? ⟨Gb, 0, none⟩ = some (.pointer (some ⟨P, 0, none⟩))) := D3.out.push_c ⟨3, z⟩ (.slice (some ⟨gg, 0, none⟩) (k + 1) cap) (by rw [HN.out]; exact hown) hgrow (hat_of hat)
        have y0 := D4.out.2.1.1
        have y1 := D4.out.2.1.2
        clear hown hgrow hat O3 D3 q1 q3
        refine hKC.out _ _ (by exact D4.out.2.2.1) (fun hHeld => ?_)
        clear hKC KC
        refine wpAnyH_take (i := 16) (v := ?_) rfl (by kernel_rfl) (by kernel_rfl) (by kernel_rfl) (fun _ _ _ h => h) (Or.inl ⟨by rfl, ?_⟩) (by assumption) ?_
        rotate_left
        · (intro w hSw; (try dsimp only at hSw); (try obtain ⟨hSa, hSb, hSc, hSd⟩ := hSw); (try obtain ⟨hSa, hSb, hSc⟩ := hSw); (try obtain ⟨hSa, hSb⟩ := hSw); go_simp; (try with_reducible rfl))
        refine wpAnyH_take (i := 17) (v := ?_) rfl (by kernel_rfl) (by kernel_rfl) (by kernel_rfl) (fun _ _ _ h => h) (Or.inl ⟨by rfl, ?_⟩) (by assumption) ?_
        rotate_left
        · (intro w hSw; (try dsimp only at hSw); (try obtain ⟨hSa, hSb, hSc, hSd⟩ := hSw); (try obtain ⟨hSa, hSb, hSc⟩ := hSw); (try obtain ⟨hSa, hSb⟩ := hSw); go_simp; (try with_reducible rfl))
        refine wpAnyH_ready (rs := [18]) (by kernel_rfl) (by simp) ?_
        refine AllReadyH.cons rfl (fun KC hKC => ?_) AllReadyH.nil
        go_simp
        refine hKC.out _ _ (by exact D4.out.2.2.2) (fun hHeld => ?_)
        clear hKC KC
        refine wpAnyH_done (by kernel_rfl) ?_ _
        clear hHeld
        have D5 : Hid _ := D4.out.1
        generalize u8.setCell ⟨P, 1, none⟩ (.slice (some ⟨gg, 0, none⟩) (k + 1) cap) = W5 at D5 ⊢
        clear D4 y0 y1 q0 D0
        obtain ⟨z0, _, _⟩ := D5.out.cells
        obtain ⟨_, z1, _, _⟩ := D5.out.pcells
        simp only [] at z1
        go_wp2_with fail
        go_ret
        exact ⟨by rw [HR.out.1]; simp, _, by rw [HR.out.2]; exact D5.out⟩
end Go.Proofs.YtalkpddhpmjgcaaGreat
