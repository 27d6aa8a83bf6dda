import Derived.Test.YtnemieeeappgnaaGreatDoorDc18
import Derived.Deep.RegionHeld
import Derived.Deep.AppendLies
import Derived.Deep.DeepCutAuto
import Derived.Deep.CutBlock
namespace Go.Proofs.YtnemieeeappgnaaGreatDoor
open Go.ChangeShapes Go.WideShapes Go.ChangeAt Go.RowKit
set_option linter.unusedVariables false
def PgRes (B I L : Nat) (a : Option Addr) (c : Nat) (zs : List Int) (k : Nat) (bad : Bool) (w : World) (e : Ending) (w' : World) : Prop := ∃ (v : VP) (F : List (List Int × Value)) (cs : List MC) (G : List (MF × VF)) (ts : List MT) (k' : Nat) (bad' : Bool), e = .returned (.agg #[v.r, v.k, v.f, v.t]) ∧ Sep w' w.heap.size (pItems v F cs G ts []) ∧ Reads' (progR zs) k bad ⟨F.map Prod.fst, cs, G.map Prod.fst, ts⟩ k' bad' ∧ GotAt w w' B I L a c zs k' bad'
set_option maxHeartbeats 8000000 in
set_option maxRecDepth 100000 in
theorem l3GetProgram_any (B I L : Nat) (a : Option Addr) (c : Nat) (zs : List Int) (k : Nat) (bad : Bool) (w : World) (h : InAt w B I L a c zs k bad) :
    Calls Tryz.prog 14 #[.pointer (some ⟨I, 0, none⟩)] w (PgRes B I L a c zs k bad w) := by
  obtain ⟨iR, hiR, hR0, hR1, hR2⟩ := info_parts infoR
  obtain ⟨iC, hiC, hC0, hC1, hC2⟩ := info_parts infoC
  obtain ⟨iF, hiF, hF0, hF1, hF2⟩ := info_parts infoF
  obtain ⟨iT, hiT, hT0, hT1, hT2⟩ := info_parts infoT
  have H0 : Hid (Bt w ((w.alloc (.cells #[.slice none 0 0, .slice none 0 0, .slice none 0 0, .slice none 0 0] 28)).alloc (.cells #[.slice none 0 0, .slice none 0 0, .slice none 0 0, .slice none 0 0] 28)) (pItems (⟨.slice none 0 0, .slice none 0 0, .slice none 0 0, .slice none 0 0⟩ : VP) [] [] [] [] [gb w.heap.size (⟨.slice none 0 0, .slice none 0 0, .slice none 0 0, .slice none 0 0⟩ : VP), gb (w.heap.size + 1) (⟨.slice none 0 0, .slice none 0 0, .slice none 0 0, .slice none 0 0⟩ : VP)]) B I L a c zs k bad) := by
    have h1 := ((((((Bt.start h).box 28 4 [.slice none 0 0, .slice none 0 0, .slice none 0 0, .slice none 0 0] rfl).box 28 4 [.slice none 0 0, .slice none 0 0, .slice none 0 0, .slice none 0 0] rfl).nil 57 1).nil 61 2).nil 64 4).nil 67 4
    rw [World.size_alloc] at h1
    exact h1.perm (List.perm_append_comm (l₁ := [_, _]) (l₂ := [_, _, _, _]))
  have hIl := h.lt
  have hbig := h.big
  have HZ : Hid (AllB zs) := h.hz
  clear h
  go_enter Tryz.func14, Tryz.ntmps14
  go_upto_region 2 with fail
  refine wp_world (fun u => Hid (Bt w u (pItems (⟨.slice none 0 0, .slice none 0 0, .slice none 0 0, .slice none 0 0⟩ : VP) [] [] [] [] [gb w.heap.size (⟨.slice none 0 0, .slice none 0 0, .slice none 0 0, .slice none 0 0⟩ : VP), gb (w.heap.size + 1) (⟨.slice none 0 0, .slice none 0 0, .slice none 0 0, .slice none 0 0⟩ : VP)]) B I L a c zs k bad)) H0 ?_
  clear H0
  generalize w.heap.size + 1 = X
  intro u0 H0
  go_wp2
  go_loopw [4] (fun iv wr => ∃ (j : Nat) (F : List (List Int × Value)) (kk : Nat) (bb : Bool) (a1 : Option Addr) (c1 : Nat), iv = .int .i64 (j : Int) ∧ j ≤ 3 ∧ Hid (F.length = j ∧ Reads' (manyR (typesR zs 2) j) k bad (F.map Prod.fst) kk bb ∧ Bt w wr (pItems ⟨.slice a1 F.length c1, .slice none 0 0, .slice none 0 0, .slice none 0 0⟩ F [] [] [] [gb w.heap.size (⟨.slice none 0 0, .slice none 0 0, .slice none 0 0, .slice none 0 0⟩ : VP), gb X ⟨.slice a1 F.length c1, .slice none 0 0, .slice none 0 0, .slice none 0 0⟩]) B I L a c zs kk bb)) (fun iv _ => 3 - (intOf iv).toNat)
  case atStart =>
    exact ⟨0, [], k, bad, none, 0, rfl, by omega, rfl, Reads'.give _ _ _, H0.out⟩
  case round =>
    obtain ⟨j, F, kk, bb, a1, c1, rfl, hj, HM⟩ := hrel
    have HL : Hid (F.length = j) := HM.out.1
    have hFl : F.length ≤ 3 := by rw [HL.out]; omega
    have HB : Hid (Bt w wr (pItems ⟨.slice a1 F.length c1, .slice none 0 0, .slice none 0 0, .slice none 0 0⟩ F [] [] [] [gb w.heap.size (⟨.slice none 0 0, .slice none 0 0, .slice none 0 0, .slice none 0 0⟩ : VP), gb X ⟨.slice a1 F.length c1, .slice none 0 0, .slice none 0 0, .slice none 0 0⟩]) B I L a c zs kk bb) := HM.out.2.2
    have HR : Hid (Reads' (manyR (typesR zs 2) j) k bad (F.map Prod.fst) kk bb) := HM.out.2.1
    clear HM
    by_cases hlt : j < 3
    · have q0 : wr.cell? ⟨X, 0, none⟩ = some (.slice a1 F.length c1) := HB.out.cell (pItems_in (show gb X ⟨.slice a1 F.length c1, .slice none 0 0, .slice none 0 0, .slice none 0 0⟩ ∈ _ by simp)) 0 (by omega)
      go_upto_region 5 with fail
      refine wp_region_held_drew (S := fun _ => True) (by kernel_rfl) trivial (fun hHeld => ?_)
      have D0 : Hid (Bt w wr.drew (pItems ⟨.slice a1 F.length c1, .slice none 0 0, .slice none 0 0, .slice none 0 0⟩ F [] [] [] [gb w.heap.size (⟨.slice none 0 0, .slice none 0 0, .slice none 0 0, .slice none 0 0⟩ : VP), gb X ⟨.slice a1 F.length c1, .slice none 0 0, .slice none 0 0, .slice none 0 0⟩]) B I L a c zs kk bb) := HB.out.keep (below_drew1 _)
      clear HB q0
      generalize wr.drew = UD at D0 hHeld ⊢
      have q0 : UD.cell? ⟨X, 0, none⟩ = some (.slice a1 F.length c1) := D0.out.cell (pItems_in (show gb X ⟨.slice a1 F.length c1, .slice none 0 0, .slice none 0 0, .slice none 0 0⟩ ∈ _ by simp)) 0 (by omega)
      refine wpAnyH_take (i := 0) (v := ?_) rfl (by kernel_rfl) (by kernel_rfl) (by kernel_rfl) (fun _ _ _ h => h) (Or.inl ⟨by rfl, ?_⟩) (by assumption) ?_
      rotate_left
      · (intro w hSw; (try dsimp only at hSw); go_simp; (try with_reducible rfl))
      refine wpAnyH_take (i := 2) (v := ?_) rfl (by kernel_rfl) (by kernel_rfl) (by kernel_rfl) (fun _ _ _ h => h) (Or.inl ⟨by rfl, ?_⟩) (by assumption) ?_
      rotate_left
      · (intro w hSw; (try dsimp only at hSw); go_simp; (try with_reducible rfl))
      refine wpAnyH_take (i := 3) (v := ?_) rfl (by kernel_rfl) (by kernel_rfl) (by kernel_rfl) (fun _ _ _ h => h) (Or.inl ⟨by rfl, ?_⟩) (by assumption) ?_
      rotate_left
      · (intro w hSw; (try dsimp only at hSw); go_simp; (try with_reducible rfl))
      refine wpAnyH_ready (rs := [1, 4]) (by kernel_rfl) (by simp) ?_
      refine AllReadyH.cons rfl (fun KC hKC => ?_) (AllReadyH.cons rfl (fun KC hKC => ?_) AllReadyH.nil)
      focus
        go_simp
        refine hKC.out _ _ trivial (fun hHeld => ?_)
        clear hKC KC
        refine wpAnyH_ready (rs := [4]) (by kernel_rfl) (by simp) ?_
        refine AllReadyH.cons rfl (fun KC hKC => ?_) AllReadyH.nil
        go_simp
        refine (l3Get_any B I L a c zs 2 kk bb UD (by omega) (by omega) D0.out.got.at_).mono ?_
        rintro e U1 ⟨n1, k1, b1, rfl, z1, r1, g1⟩
        have D1 : Hid (Bt w U1 (pItems ⟨.slice a1 F.length c1, .slice none 0 0, .slice none 0 0, .slice none 0 0⟩ F [] [] [] [gb w.heap.size (⟨.slice none 0 0, .slice none 0 0, .slice none 0 0, .slice none 0 0⟩ : VP), gb X ⟨.slice a1 F.length c1, .slice none 0 0, .slice none 0 0, .slice none 0 0⟩]) B I L a c zs k1 b1) := D0.out.read g1
        have R1 : Hid (Reads' (numR zs 2) kk bb n1 k1 b1) := r1
        obtain ⟨n1a, n1b⟩ := num_bd HZ.out (by omega) r1 z1
        clear z1 r1 g1 D0
        have q1 : U1.cell? ⟨X, 0, none⟩ = some (.slice a1 F.length c1) := D1.out.cell (pItems_in (show gb X ⟨.slice a1 F.length c1, .slice none 0 0, .slice none 0 0, .slice none 0 0⟩ ∈ _ by simp)) 0 (by omega)
        go_simp
        refine hKC.out _ _ trivial (fun hHeld => ?_)
        clear hKC KC
        refine wpAnyH_ready (rs := [5]) (by kernel_rfl) (by simp) ?_
        refine AllReadyH.cons rfl (fun KC hKC => ?_) AllReadyH.nil
        go_simp
        refine (l3GetList_any B I L a c zs n1 k1 b1 U1 n1a (by omega) D1.out.got.at_).mono ?_
        rintro e U2 ⟨vp, ps, k2, b2, rfl, o2, s2, r2, g2⟩
        obtain ⟨a5, c5, e5⟩ : ∃ a c, vp = .slice a ps.length c := own_sl o2
        subst e5
        have D2 : Hid (Bt w U2 (pItems ⟨.slice a1 F.length c1, .slice none 0 0, .slice none 0 0, .slice none 0 0⟩ F [] [] [] [gb w.heap.size (⟨.slice none 0 0, .slice none 0 0, .slice none 0 0, .slice none 0 0⟩ : VP), gb X ⟨.slice a1 F.length c1, .slice none 0 0, .slice none 0 0, .slice none 0 0⟩] ++ [iRow (.slice a5 ps.length c5) ps]) B I L a c zs k2 b2) := D1.out.row g2 (r := iRow (.slice a5 ps.length c5) ps) o2
        have R2 : Hid (Reads' (typesR zs 2) kk bb ps k2 b2) := R1.out.then r2
        clear r2 g2 R1 D1 o2
        have q2 : U2.cell? ⟨X, 0, none⟩ = some (.slice a1 F.length c1) := D2.out.cell (List.mem_append_left _ (pItems_in (show gb X ⟨.slice a1 F.length c1, .slice none 0 0, .slice none 0 0, .slice none 0 0⟩ ∈ _ by simp))) 0 (by omega)
        go_simp
        refine hKC.out _ _ trivial (fun hHeld => ?_)
        clear hKC KC
        refine wpAnyH_ready (rs := [6]) (by kernel_rfl) (by simp) ?_
        refine AllReadyH.cons rfl (fun KC hKC => ?_) AllReadyH.nil
        go_simp
        have D3 : Hid (Bt w (U2.alloc (.cells #[.slice a5 ps.length c5] 57)) (pItems ⟨.slice a1 F.length c1, .slice none 0 0, .slice none 0 0, .slice none 0 0⟩ F [] [] [] [gb w.heap.size (⟨.slice none 0 0, .slice none 0 0, .slice none 0 0, .slice none 0 0⟩ : VP), gb X ⟨.slice a1 F.length c1, .slice none 0 0, .slice none 0 0, .slice none 0 0⟩] ++ [iRow (.slice a5 ps.length c5) ps]) B I L a c zs k2 b2) := D2.out.keep (below_alloc _ _)
        have O3 : Hid ((U2.alloc (.cells #[.slice a5 ps.length c5] 57)).ownsRow w.heap.size 57 1 (.slice a1 F.length c1) F.length (F.flatMap rCells)) := D3.out.sep.own (rHead (.slice a1 F.length c1) F) (by simp [pItems])
        have q3 : (U2.alloc (.cells #[.slice a5 ps.length c5] 57)).cell? ⟨X, 0, none⟩ = some (.slice a1 F.length c1) := D3.out.cell (List.mem_append_left _ (pItems_in (show gb X ⟨.slice a1 F.length c1, .slice none 0 0, .slice none 0 0, .slice none 0 0⟩ ∈ _ by simp))) 0 (by omega)
        have hs3 := D3.out.size
        refine hKC.out _ _ trivial (fun hHeld => ?_)
        clear hKC KC
        refine wpAnyH_ready (rs := [7]) (by kernel_rfl) (by simp) ?_
        refine AllReadyH.cons rfl (fun KC hKC => ?_) AllReadyH.nil
        refine step_append_lies _ rfl (.tmp 16) (.tmp 21) 23 rfl w.heap.size 57 iR (.slice none 0 0) 1 24 Tryz.underlying23 hiR hR0 hR1 hR2 rfl (by decide) (.slice a1 F.length c1) F.length (F.flatMap rCells) (by simp [Act.eval]) O3.out ⟨U2.heap.size, 0, none⟩ 1 1 [.slice a5 ps.length c5] (by simp [Act.eval]) rfl (lit_at U2 [.slice a5 ps.length c5] 57) (by intro u hu; simp at hu; subst hu; rfl) (by omega) (by unfold maxLen; omega) (by omega) hs3 _ rfl ?_
        intro gg cap u8 hown hgrow hat _
        have D4 : Hid (Bt w u8 (pItems ⟨.slice (some ⟨gg, 0, none⟩) (F.length + 1) cap, .slice none 0 0, .slice none 0 0, .slice none 0 0⟩ (F ++ [(ps, Value.slice a5 ps.length c5)]) [] [] [] [gb w.heap.size (⟨.slice none 0 0, .slice none 0 0, .slice none 0 0, .slice none 0 0⟩ : VP), gb X ⟨.slice a1 F.length c1, .slice none 0 0, .slice none 0 0, .slice none 0 0⟩]) B I L a c zs k2 b2) := D3.out.push_r (.slice (some ⟨gg, 0, none⟩) (F.length + 1) cap) hown hgrow (hat_of hat)
        have y0 : u8.cell? ⟨X, 0, none⟩ = some (.slice a1 F.length c1) := D4.out.cell (pItems_in (show gb X ⟨.slice a1 F.length c1, .slice none 0 0, .slice none 0 0, .slice none 0 0⟩ ∈ _ by simp)) 0 (by omega)
        have y1 : u8.frozen? ⟨X, 0, none⟩ = false := D4.out.frozen (pItems_in (show gb X ⟨.slice a1 F.length c1, .slice none 0 0, .slice none 0 0, .slice none 0 0⟩ ∈ _ by simp)) 0
        clear hown hgrow hat O3 D3 D2
        refine hKC.out _ _ trivial (fun hHeld => ?_)
        clear hKC KC
        refine wpAnyH_take (i := 8) (v := ?_) rfl (by kernel_rfl) (by kernel_rfl) (by kernel_rfl) (fun _ _ _ h => h) (Or.inl ⟨by rfl, ?_⟩) (by assumption) ?_
        rotate_left
        · (intro w hSw; (try dsimp only at hSw); go_simp; (try with_reducible rfl))
        refine wpAnyH_ready (rs := [9]) (by kernel_rfl) (by simp) ?_
        refine AllReadyH.cons rfl (fun KC hKC => ?_) AllReadyH.nil
        go_simp
        refine hKC.out _ _ trivial (fun hHeld => ?_)
        clear hKC KC
        refine wpAnyH_done (by kernel_rfl) ?_ _
        have S5 : Hid (Reads' (manyR (typesR zs 2) (j + 1)) k bad ((F ++ [(ps, Value.slice a5 ps.length c5)]).map Prod.fst) k2 b2) := by have := HR.out.next R2.out; simpa [Hid] using this
        have D5 : Hid (Bt w (u8.setCell ⟨X, 0, none⟩ (.slice (some ⟨gg, 0, none⟩) (F.length + 1) cap)) (pItems ⟨.slice (some ⟨gg, 0, none⟩) (F.length + 1) cap, .slice none 0 0, .slice none 0 0, .slice none 0 0⟩ (F ++ [(ps, Value.slice a5 ps.length c5)]) [] [] [] [gb w.heap.size (⟨.slice none 0 0, .slice none 0 0, .slice none 0 0, .slice none 0 0⟩ : VP), gb X ⟨.slice (some ⟨gg, 0, none⟩) (F.length + 1) cap, .slice none 0 0, .slice none 0 0, .slice none 0 0⟩]) B I L a c zs k2 b2) := D4.out.setp (D := [gb w.heap.size (⟨.slice none 0 0, .slice none 0 0, .slice none 0 0, .slice none 0 0⟩ : VP)]) 0 (by omega) (.slice (some ⟨gg, 0, none⟩) (F.length + 1) cap)
        generalize u8.setCell ⟨X, 0, none⟩ (.slice (some ⟨gg, 0, none⟩) (F.length + 1) cap) = W5 at D5 ⊢
        clear D4 HR R2 y0 y1 q0 q1 q2 q3
        go_wp2
        refine ⟨⟨j + 1, (F ++ [(ps, Value.slice a5 ps.length c5)]), k2, b2, some ⟨gg, 0, none⟩, cap, by go_num, by omega, ?_⟩, by simp [intOf]; omega⟩
        have el : (F ++ [(ps, Value.slice a5 ps.length c5)]).length = F.length + 1 := by simp
        refine ⟨by rw [el, HL.out], S5.out, ?_⟩
        rw [el]
        exact D5.out
      focus
        go_simp
        refine (l3Get_any B I L a c zs 2 kk bb UD (by omega) (by omega) D0.out.got.at_).mono ?_
        rintro e U1 ⟨n1, k1, b1, rfl, z1, r1, g1⟩
        have D1 : Hid (Bt w U1 (pItems ⟨.slice a1 F.length c1, .slice none 0 0, .slice none 0 0, .slice none 0 0⟩ F [] [] [] [gb w.heap.size (⟨.slice none 0 0, .slice none 0 0, .slice none 0 0, .slice none 0 0⟩ : VP), gb X ⟨.slice a1 F.length c1, .slice none 0 0, .slice none 0 0, .slice none 0 0⟩]) B I L a c zs k1 b1) := D0.out.read g1
        have R1 : Hid (Reads' (numR zs 2) kk bb n1 k1 b1) := r1
        obtain ⟨n1a, n1b⟩ := num_bd HZ.out (by omega) r1 z1
        clear z1 r1 g1 D0
        have q1 : U1.cell? ⟨X, 0, none⟩ = some (.slice a1 F.length c1) := D1.out.cell (pItems_in (show gb X ⟨.slice a1 F.length c1, .slice none 0 0, .slice none 0 0, .slice none 0 0⟩ ∈ _ by simp)) 0 (by omega)
        go_simp
        refine hKC.out _ _ trivial (fun hHeld => ?_)
        clear hKC KC
        refine wpAnyH_ready (rs := [1, 5]) (by kernel_rfl) (by simp) ?_
        refine AllReadyH.cons rfl (fun KC hKC => ?_) (AllReadyH.cons rfl (fun KC hKC => ?_) AllReadyH.nil)
        focus
          go_simp
          refine hKC.out _ _ trivial (fun hHeld => ?_)
          clear hKC KC
          refine wpAnyH_ready (rs := [5]) (by kernel_rfl) (by simp) ?_
          refine AllReadyH.cons rfl (fun KC hKC => ?_) AllReadyH.nil
          go_simp
          refine (l3GetList_any B I L a c zs n1 k1 b1 U1 n1a (by omega) D1.out.got.at_).mono ?_
          rintro e U2 ⟨vp, ps, k2, b2, rfl, o2, s2, r2, g2⟩
          obtain ⟨a5, c5, e5⟩ : ∃ a c, vp = .slice a ps.length c := own_sl o2
          subst e5
          have D2 : Hid (Bt w U2 (pItems ⟨.slice a1 F.length c1, .slice none 0 0, .slice none 0 0, .slice none 0 0⟩ F [] [] [] [gb w.heap.size (⟨.slice none 0 0, .slice none 0 0, .slice none 0 0, .slice none 0 0⟩ : VP), gb X ⟨.slice a1 F.length c1, .slice none 0 0, .slice none 0 0, .slice none 0 0⟩] ++ [iRow (.slice a5 ps.length c5) ps]) B I L a c zs k2 b2) := D1.out.row g2 (r := iRow (.slice a5 ps.length c5) ps) o2
          have R2 : Hid (Reads' (typesR zs 2) kk bb ps k2 b2) := R1.out.then r2
          clear r2 g2 R1 D1 o2
          have q2 : U2.cell? ⟨X, 0, none⟩ = some (.slice a1 F.length c1) := D2.out.cell (List.mem_append_left _ (pItems_in (show gb X ⟨.slice a1 F.length c1, .slice none 0 0, .slice none 0 0, .slice none 0 0⟩ ∈ _ by simp))) 0 (by omega)
          go_simp
          refine hKC.out _ _ trivial (fun hHeld => ?_)
          clear hKC KC
          refine wpAnyH_ready (rs := [6]) (by kernel_rfl) (by simp) ?_
          refine AllReadyH.cons rfl (fun KC hKC => ?_) AllReadyH.nil
          go_simp
          have D3 : Hid (Bt w (U2.alloc (.cells #[.slice a5 ps.length c5] 57)) (pItems ⟨.slice a1 F.length c1, .slice none 0 0, .slice none 0 0, .slice none 0 0⟩ F [] [] [] [gb w.heap.size (⟨.slice none 0 0, .slice none 0 0, .slice none 0 0, .slice none 0 0⟩ : VP), gb X ⟨.slice a1 F.length c1, .slice none 0 0, .slice none 0 0, .slice none 0 0⟩] ++ [iRow (.slice a5 ps.length c5) ps]) B I L a c zs k2 b2) := D2.out.keep (below_alloc _ _)
          have O3 : Hid ((U2.alloc (.cells #[.slice a5 ps.length c5] 57)).ownsRow w.heap.size 57 1 (.slice a1 F.length c1) F.length (F.flatMap rCells)) := D3.out.sep.own (rHead (.slice a1 F.length c1) F) (by simp [pItems])
          have q3 : (U2.alloc (.cells #[.slice a5 ps.length c5] 57)).cell? ⟨X, 0, none⟩ = some (.slice a1 F.length c1) := D3.out.cell (List.mem_append_left _ (pItems_in (show gb X ⟨.slice a1 F.length c1, .slice none 0 0, .slice none 0 0, .slice none 0 0⟩ ∈ _ by simp))) 0 (by omega)
          have hs3 := D3.out.size
          refine hKC.out _ _ trivial (fun hHeld => ?_)
          clear hKC KC
          refine wpAnyH_ready (rs := [7]) (by kernel_rfl) (by simp) ?_
          refine AllReadyH.cons rfl (fun KC hKC => ?_) AllReadyH.nil
          refine step_append_lies _ rfl (.tmp 16) (.tmp 21) 23 rfl w.heap.size 57 iR (.slice none 0 0) 1 24 Tryz.underlying23 hiR hR0 hR1 hR2 rfl (by decide) (.slice a1 F.length c1) F.length (F.flatMap rCells) (by simp [Act.eval]) O3.out ⟨U2.heap.size, 0, none⟩ 1 1 [.slice a5 ps.length c5] (by simp [Act.eval]) rfl (lit_at U2 [.slice a5 ps.length c5] 57) (by intro u hu; simp at hu; subst hu; rfl) (by omega) (by unfold maxLen; omega) (by omega) hs3 _ rfl ?_
          intro gg cap u8 hown hgrow hat _
          have D4 : Hid (Bt w u8 (pItems ⟨.slice (some ⟨gg, 0, none⟩) (F.length + 1) cap, .slice none 0 0, .slice none 0 0, .slice none 0 0⟩ (F ++ [(ps, Value.slice a5 ps.length c5)]) [] [] [] [gb w.heap.size (⟨.slice none 0 0, .slice none 0 0, .slice none 0 0, .slice none 0 0⟩ : VP), gb X ⟨.slice a1 F.length c1, .slice none 0 0, .slice none 0 0, .slice none 0 0⟩]) B I L a c zs k2 b2) := D3.out.push_r (.slice (some ⟨gg, 0, none⟩) (F.length + 1) cap) hown hgrow (hat_of hat)
          have y0 : u8.cell? ⟨X, 0, none⟩ = some (.slice a1 F.length c1) := D4.out.cell (pItems_in (show gb X ⟨.slice a1 F.length c1, .slice none 0 0, .slice none 0 0, .slice none 0 0⟩ ∈ _ by simp)) 0 (by omega)
          have y1 : u8.frozen? ⟨X, 0, none⟩ = false := D4.out.frozen (pItems_in (show gb X ⟨.slice a1 F.length c1, .slice none 0 0, .slice none 0 0, .slice none 0 0⟩ ∈ _ by simp)) 0
          clear hown hgrow hat O3 D3 D2
          refine hKC.out _ _ trivial (fun hHeld => ?_)
          clear hKC KC
          refine wpAnyH_take (i := 8) (v := ?_) rfl (by kernel_rfl) (by kernel_rfl) (by kernel_rfl) (fun _ _ _ h => h) (Or.inl ⟨by rfl, ?_⟩) (by assumption) ?_
          rotate_left
          · (intro w hSw; (try dsimp only at hSw); go_simp; (try with_reducible rfl))
          refine wpAnyH_ready (rs := [9]) (by kernel_rfl) (by simp) ?_
          refine AllReadyH.cons rfl (fun KC hKC => ?_) AllReadyH.nil
          go_simp
          refine hKC.out _ _ trivial (fun hHeld => ?_)
          clear hKC KC
          refine wpAnyH_done (by kernel_rfl) ?_ _
          have S5 : Hid (Reads' (manyR (typesR zs 2) (j + 1)) k bad ((F ++ [(ps, Value.slice a5 ps.length c5)]).map Prod.fst) k2 b2) := by have := HR.out.next R2.out; simpa [Hid] using this
          have D5 : Hid (Bt w (u8.setCell ⟨X, 0, none⟩ (.slice (some ⟨gg, 0, none⟩) (F.length + 1) cap)) (pItems ⟨.slice (some ⟨gg, 0, none⟩) (F.length + 1) cap, .slice none 0 0, .slice none 0 0, .slice none 0 0⟩ (F ++ [(ps, Value.slice a5 ps.length c5)]) [] [] [] [gb w.heap.size (⟨.slice none 0 0, .slice none 0 0, .slice none 0 0, .slice none 0 0⟩ : VP), gb X ⟨.slice (some ⟨gg, 0, none⟩) (F.length + 1) cap, .slice none 0 0, .slice none 0 0, .slice none 0 0⟩]) B I L a c zs k2 b2) := D4.out.setp (D := [gb w.heap.size (⟨.slice none 0 0, .slice none 0 0, .slice none 0 0, .slice none 0 0⟩ : VP)]) 0 (by omega) (.slice (some ⟨gg, 0, none⟩) (F.length + 1) cap)
          generalize u8.setCell ⟨X, 0, none⟩ (.slice (some ⟨gg, 0, none⟩) (F.length + 1) cap) = W5 at D5 ⊢
          clear D4 HR R2 y0 y1 q0 q1 q2 q3
          go_wp2
          refine ⟨⟨j + 1, (F ++ [(ps, Value.slice a5 ps.length c5)]), k2, b2, some ⟨gg, 0, none⟩, cap, by go_num, by omega, ?_⟩, by simp [intOf]; omega⟩
          have el : (F ++ [(ps, Value.slice a5 ps.length c5)]).length = F.length + 1 := by simp
          refine ⟨by rw [el, HL.out], S5.out, ?_⟩
          rw [el]
          exact D5.out
        focus
          go_simp
          refine (l3GetList_any B I L a c zs n1 k1 b1 U1 n1a (by omega) D1.out.got.at_).mono ?_
          rintro e U2 ⟨vp, ps, k2, b2, rfl, o2, s2, r2, g2⟩
          obtain ⟨a5, c5, e5⟩ : ∃ a c, vp = .slice a ps.length c := own_sl o2
          subst e5
          have D2 : Hid (Bt w U2 (pItems ⟨.slice a1 F.length c1, .slice none 0 0, .slice none 0 0, .slice none 0 0⟩ F [] [] [] [gb w.heap.size (⟨.slice none 0 0, .slice none 0 0, .slice none 0 0, .slice none 0 0⟩ : VP), gb X ⟨.slice a1 F.length c1, .slice none 0 0, .slice none 0 0, .slice none 0 0⟩] ++ [iRow (.slice a5 ps.length c5) ps]) B I L a c zs k2 b2) := D1.out.row g2 (r := iRow (.slice a5 ps.length c5) ps) o2
          have R2 : Hid (Reads' (typesR zs 2) kk bb ps k2 b2) := R1.out.then r2
          clear r2 g2 R1 D1 o2
          have q2 : U2.cell? ⟨X, 0, none⟩ = some (.slice a1 F.length c1) := D2.out.cell (List.mem_append_left _ (pItems_in (show gb X ⟨.slice a1 F.length c1, .slice none 0 0, .slice none 0 0, .slice none 0 0⟩ ∈ _ by simp))) 0 (by omega)
          go_simp
          refine hKC.out _ _ trivial (fun hHeld => ?_)
          clear hKC KC
          refine wpAnyH_ready (rs := [1, 6]) (by kernel_rfl) (by simp) ?_
          refine AllReadyH.cons rfl (fun KC hKC => ?_) (AllReadyH.cons rfl (fun KC hKC => ?_) AllReadyH.nil)
          focus
            go_simp
            refine hKC.out _ _ trivial (fun hHeld => ?_)
            clear hKC KC
            refine wpAnyH_ready (rs := [6]) (by kernel_rfl) (by simp) ?_
            refine AllReadyH.cons rfl (fun KC hKC => ?_) AllReadyH.nil
            go_simp
            have D3 : Hid (Bt w (U2.alloc (.cells #[.slice a5 ps.length c5] 57)) (pItems ⟨.slice a1 F.length c1, .slice none 0 0, .slice none 0 0, .slice none 0 0⟩ F [] [] [] [gb w.heap.size (⟨.slice none 0 0, .slice none 0 0, .slice none 0 0, .slice none 0 0⟩ : VP), gb X ⟨.slice a1 F.length c1, .slice none 0 0, .slice none 0 0, .slice none 0 0⟩] ++ [iRow (.slice a5 ps.length c5) ps]) B I L a c zs k2 b2) := D2.out.keep (below_alloc _ _)
            have O3 : Hid ((U2.alloc (.cells #[.slice a5 ps.length c5] 57)).ownsRow w.heap.size 57 1 (.slice a1 F.length c1) F.length (F.flatMap rCells)) := D3.out.sep.own (rHead (.slice a1 F.length c1) F) (by simp [pItems])
            have q3 : (U2.alloc (.cells #[.slice a5 ps.length c5] 57)).cell? ⟨X, 0, none⟩ = some (.slice a1 F.length c1) := D3.out.cell (List.mem_append_left _ (pItems_in (show gb X ⟨.slice a1 F.length c1, .slice none 0 0, .slice none 0 0, .slice none 0 0⟩ ∈ _ by simp))) 0 (by omega)
            have hs3 := D3.out.size
            refine hKC.out _ _ trivial (fun hHeld => ?_)
            clear hKC KC
            refine wpAnyH_ready (rs := [7]) (by kernel_rfl) (by simp) ?_
            refine AllReadyH.cons rfl (fun KC hKC => ?_) AllReadyH.nil
            refine step_append_lies _ rfl (.tmp 16) (.tmp 21) 23 rfl w.heap.size 57 iR (.slice none 0 0) 1 24 Tryz.underlying23 hiR hR0 hR1 hR2 rfl (by decide) (.slice a1 F.length c1) F.length (F.flatMap rCells) (by simp [Act.eval]) O3.out ⟨U2.heap.size, 0, none⟩ 1 1 [.slice a5 ps.length c5] (by simp [Act.eval]) rfl (lit_at U2 [.slice a5 ps.length c5] 57) (by intro u hu; simp at hu; subst hu; rfl) (by omega) (by unfold maxLen; omega) (by omega) hs3 _ rfl ?_
            intro gg cap u8 hown hgrow hat _
            have D4 : Hid (Bt w u8 (pItems ⟨.slice (some ⟨gg, 0, none⟩) (F.length + 1) cap, .slice none 0 0, .slice none 0 0, .slice none 0 0⟩ (F ++ [(ps, Value.slice a5 ps.length c5)]) [] [] [] [gb w.heap.size (⟨.slice none 0 0, .slice none 0 0, .slice none 0 0, .slice none 0 0⟩ : VP), gb X ⟨.slice a1 F.length c1, .slice none 0 0, .slice none 0 0, .slice none 0 0⟩]) B I L a c zs k2 b2) := D3.out.push_r (.slice (some ⟨gg, 0, none⟩) (F.length + 1) cap) hown hgrow (hat_of hat)
            have y0 : u8.cell? ⟨X, 0, none⟩ = some (.slice a1 F.length c1) := D4.out.cell (pItems_in (show gb X ⟨.slice a1 F.length c1, .slice none 0 0, .slice none 0 0, .slice none 0 0⟩ ∈ _ by simp)) 0 (by omega)
            have y1 : u8.frozen? ⟨X, 0, none⟩ = false := D4.out.frozen (pItems_in (show gb X ⟨.slice a1 F.length c1, .slice none 0 0, .slice none 0 0, .slice none 0 0⟩ ∈ _ by simp)) 0
            clear hown hgrow hat O3 D3 D2
            refine hKC.out _ _ trivial (fun hHeld => ?_)
            clear hKC KC
            refine wpAnyH_take (i := 8) (v := ?_) rfl (by kernel_rfl) (by kernel_rfl) (by kernel_rfl) (fun _ _ _ h => h) (Or.inl ⟨by rfl, ?_⟩) (by assumption) ?_
            rotate_left
            · (intro w hSw; (try dsimp only at hSw); go_simp; (try with_reducible rfl))
            refine wpAnyH_ready (rs := [9]) (by kernel_rfl) (by simp) ?_
            refine AllReadyH.cons rfl (fun KC hKC => ?_) AllReadyH.nil
            go_simp
            refine hKC.out _ _ trivial (fun hHeld => ?_)
            clear hKC KC
            refine wpAnyH_done (by kernel_rfl) ?_ _
            have S5 : Hid (Reads' (manyR (typesR zs 2) (j + 1)) k bad ((F ++ [(ps, Value.slice a5 ps.length c5)]).map Prod.fst) k2 b2) := by have := HR.out.next R2.out; simpa [Hid] using this
            have D5 : Hid (Bt w (u8.setCell ⟨X, 0, none⟩ (.slice (some ⟨gg, 0, none⟩) (F.length + 1) cap)) (pItems ⟨.slice (some ⟨gg, 0, none⟩) (F.length + 1) cap, .slice none 0 0, .slice none 0 0, .slice none 0 0⟩ (F ++ [(ps, Value.slice a5 ps.length c5)]) [] [] [] [gb w.heap.size (⟨.slice none 0 0, .slice none 0 0, .slice none 0 0, .slice none 0 0⟩ : VP), gb X ⟨.slice (some ⟨gg, 0, none⟩) (F.length + 1) cap, .slice none 0 0, .slice none 0 0, .slice none 0 0⟩]) B I L a c zs k2 b2) := D4.out.setp (D := [gb w.heap.size (⟨.slice none 0 0, .slice none 0 0, .slice none 0 0, .slice none 0 0⟩ : VP)]) 0 (by omega) (.slice (some ⟨gg, 0, none⟩) (F.length + 1) cap)
            generalize u8.setCell ⟨X, 0, none⟩ (.slice (some ⟨gg, 0, none⟩) (F.length + 1) cap) = W5 at D5 ⊢
            clear D4 HR R2 y0 y1 q0 q1 q2 q3
            go_wp2
            refine ⟨⟨j + 1, (F ++ [(ps, Value.slice a5 ps.length c5)]), k2, b2, some ⟨gg, 0, none⟩, cap, by go_num, by omega, ?_⟩, by simp [intOf]; omega⟩
            have el : (F ++ [(ps, Value.slice a5 ps.length c5)]).length = F.length + 1 := by simp
            refine ⟨by rw [el, HL.out], S5.out, ?_⟩
            rw [el]
            exact D5.out
          focus
            go_simp
            have D3 : Hid (Bt w (U2.alloc (.cells #[.slice a5 ps.length c5] 57)) (pItems ⟨.slice a1 F.length c1, .slice none 0 0, .slice none 0 0, .slice none 0 0⟩ F [] [] [] [gb w.heap.size (⟨.slice none 0 0, .slice none 0 0, .slice none 0 0, .slice none 0 0⟩ : VP), gb X ⟨.slice a1 F.length c1, .slice none 0 0, .slice none 0 0, .slice none 0 0⟩] ++ [iRow (.slice a5 ps.length c5) ps]) B I L a c zs k2 b2) := D2.out.keep (below_alloc _ _)
            have O3 : Hid ((U2.alloc (.cells #[.slice a5 ps.length c5] 57)).ownsRow w.heap.size 57 1 (.slice a1 F.length c1) F.length (F.flatMap rCells)) := D3.out.sep.own (rHead (.slice a1 F.length c1) F) (by simp [pItems])
            have q3 : (U2.alloc (.cells #[.slice a5 ps.length c5] 57)).cell? ⟨X, 0, none⟩ = some (.slice a1 F.length c1) := D3.out.cell (List.mem_append_left _ (pItems_in (show gb X ⟨.slice a1 F.length c1, .slice none 0 0, .slice none 0 0, .slice none 0 0⟩ ∈ _ by simp))) 0 (by omega)
            have hs3 := D3.out.size
            refine hKC.out _ _ trivial (fun hHeld => ?_)
            clear hKC KC
            refine wpAnyH_ready (rs := [1]) (by kernel_rfl) (by simp) ?_
            refine AllReadyH.cons rfl (fun KC hKC => ?_) AllReadyH.nil
            go_simp
            refine hKC.out _ _ trivial (fun hHeld => ?_)
            clear hKC KC
            refine wpAnyH_ready (rs := [7]) (by kernel_rfl) (by simp) ?_
            refine AllReadyH.cons rfl (fun KC hKC => ?_) AllReadyH.nil
            refine step_append_lies _ rfl (.tmp 16) (.tmp 21) 23 rfl w.heap.size 57 iR (.slice none 0 0) 1 24 Tryz.underlying23 hiR hR0 hR1 hR2 rfl (by decide) (.slice a1 F.length c1) F.length (F.flatMap rCells) (by simp [Act.eval]) O3.out ⟨U2.heap.size, 0, none⟩ 1 1 [.slice a5 ps.length c5] (by simp [Act.eval]) rfl (lit_at U2 [.slice a5 ps.length c5] 57) (by intro u hu; simp at hu; subst hu; rfl) (by omega) (by unfold maxLen; omega) (by omega) hs3 _ rfl ?_
            intro gg cap u8 hown hgrow hat _
            have D4 : Hid (Bt w u8 (pItems ⟨.slice (some ⟨gg, 0, none⟩) (F.length + 1) cap, .slice none 0 0, .slice none 0 0, .slice none 0 0⟩ (F ++ [(ps, Value.slice a5 ps.length c5)]) [] [] [] [gb w.heap.size (⟨.slice none 0 0, .slice none 0 0, .slice none 0 0, .slice none 0 0⟩ : VP), gb X ⟨.slice a1 F.length c1, .slice none 0 0, .slice none 0 0, .slice none 0 0⟩]) B I L a c zs k2 b2) := D3.out.push_r (.slice (some ⟨gg, 0, none⟩) (F.length + 1) cap) hown hgrow (hat_of hat)
            have y0 : u8.cell? ⟨X, 0, none⟩ = some (.slice a1 F.length c1) := D4.out.cell (pItems_in (show gb X ⟨.slice a1 F.length c1, .slice none 0 0, .slice none 0 0, .slice none 0 0⟩ ∈ _ by simp)) 0 (by omega)
            have y1 : u8.frozen? ⟨X, 0, none⟩ = false := D4.out.frozen (pItems_in (show gb X ⟨.slice a1 F.length c1, .slice none 0 0, .slice none 0 0, .slice none 0 0⟩ ∈ _ by simp)) 0
            clear hown hgrow hat O3 D3 D2
            refine hKC.out _ _ trivial (fun hHeld => ?_)
            clear hKC KC
            refine wpAnyH_take (i := 8) (v := ?_) rfl (by kernel_rfl) (by kernel_rfl) (by kernel_rfl) (fun _ _ _ h => h) (Or.inl ⟨by rfl, ?_⟩) (by assumption) ?_
            rotate_left
            · (intro w hSw; (try dsimp only at hSw); go_simp; (try with_reducible rfl))
            refine wpAnyH_ready (rs := [9]) (by kernel_rfl) (by simp) ?_
            refine AllReadyH.cons rfl (fun KC hKC => ?_) AllReadyH.nil
            go_simp
            refine hKC.out _ _ trivial (fun hHeld => ?_)
            clear hKC KC
            refine wpAnyH_done (by kernel_rfl) ?_ _
            have S5 : Hid (Reads' (manyR (typesR zs 2) (j + 1)) k bad ((F ++ [(ps, Value.slice a5 ps.length c5)]).map Prod.fst) k2 b2) := by have := HR.out.next R2.out; simpa [Hid] using this
            have D5 : Hid (Bt w (u8.setCell ⟨X, 0, none⟩ (.slice (some ⟨gg, 0, none⟩) (F.length + 1) cap)) (pItems ⟨.slice (some ⟨gg, 0, none⟩) (F.length + 1) cap, .slice none 0 0, .slice none 0 0, .slice none 0 0⟩ (F ++ [(ps, Value.slice a5 ps.length c5)]) [] [] [] [gb w.heap.size (⟨.slice none 0 0, .slice none 0 0, .slice none 0 0, .slice none 0 0⟩ : VP), gb X ⟨.slice (some ⟨gg, 0, none⟩) (F.length + 1) cap, .slice none 0 0, .slice none 0 0, .slice none 0 0⟩]) B I L a c zs k2 b2) := D4.out.setp (D := [gb w.heap.size (⟨.slice none 0 0, .slice none 0 0, .slice none 0 0, .slice none 0 0⟩ : VP)]) 0 (by omega) (.slice (some ⟨gg, 0, none⟩) (F.length + 1) cap)
            generalize u8.setCell ⟨X, 0, none⟩ (.slice (some ⟨gg, 0, none⟩) (F.length + 1) cap) = W5 at D5 ⊢
            clear D4 HR R2 y0 y1 q0 q1 q2 q3
            go_wp2
            refine ⟨⟨j + 1, (F ++ [(ps, Value.slice a5 ps.length c5)]), k2, b2, some ⟨gg, 0, none⟩, cap, by go_num, by omega, ?_⟩, by simp [intOf]; omega⟩
            have el : (F ++ [(ps, Value.slice a5 ps.length c5)]).length = F.length + 1 := by simp
            refine ⟨by rw [el, HL.out], S5.out, ?_⟩
            rw [el]
            exact D5.out
    · have HRX : Hid (Reads' (manyR (typesR zs 2) 3) k bad (F.map Prod.fst) kk bb) := by have := HR.out; rwa [show j = 3 by omega] at this
      go_wp2_with fail
      refine (l3Get_any B I L a c zs 2 kk bb _ (by omega) (by omega) HB.out.got.at_).mono ?_
      rintro e UA ⟨nA, kA, bA, rfl, zA, rA, gA⟩
      have DA : Hid (Bt w UA (pItems ⟨.slice a1 F.length c1, .slice none 0 0, .slice none 0 0, .slice none 0 0⟩ F [] [] [] [gb w.heap.size (⟨.slice none 0 0, .slice none 0 0, .slice none 0 0, .slice none 0 0⟩ : VP), gb X ⟨.slice a1 F.length c1, .slice none 0 0, .slice none 0 0, .slice none 0 0⟩]) B I L a c zs kA bA) := HB.out.read gA
      have RA : Hid (Reads' (numR zs 2) kk bb nA kA bA) := rA
      obtain ⟨nAa, nAb⟩ := num_bd HZ.out (by omega) rA zA
      clear zA rA gA HB
      obtain ⟨mA, rfl⟩ := Int.eq_ofNat_of_zero_le nAa
      have hA16 : mA < 65536 := by omega
      clear HR
      go_upto_block 2 with fail
      go_cut [] (fun wx => ∃ (cs : List MC) (ke : Nat) (be : Bool) (a2 : Option Addr) (c2 : Nat), Hid (Reads' (manyR (constR zs) mA) kA bA cs ke be ∧ Bt w wx (pItems ⟨.slice a1 F.length c1, .slice a2 cs.length c2, .slice none 0 0, .slice none 0 0⟩ F cs [] [] [gb w.heap.size (⟨.slice none 0 0, .slice none 0 0, .slice none 0 0, .slice none 0 0⟩ : VP), gb X ⟨.slice a1 F.length c1, .slice a2 cs.length c2, .slice none 0 0, .slice none 0 0⟩]) B I L a c zs ke be))
      case first =>
        go_wp2_with fail
        go_loopw [5] (fun kv wr => ∃ (q : Nat) (cs : List MC) (ke : Nat) (be : Bool) (a2 : Option Addr) (c2 : Nat), kv = .int .i64 ((mA : Int) - (q : Int)) ∧ q ≤ mA ∧ Hid (cs.length = q ∧ Reads' (manyR (constR zs) q) kA bA cs ke be ∧ Bt w wr (pItems ⟨.slice a1 F.length c1, .slice a2 cs.length c2, .slice none 0 0, .slice none 0 0⟩ F cs [] [] [gb w.heap.size (⟨.slice none 0 0, .slice none 0 0, .slice none 0 0, .slice none 0 0⟩ : VP), gb X ⟨.slice a1 F.length c1, .slice a2 cs.length c2, .slice none 0 0, .slice none 0 0⟩]) B I L a c zs ke be)) (fun kv _ => (intOf kv).toNat)
        case atStart =>
          exact ⟨0, [], kA, bA, none, 0, by simp, by omega, rfl, Reads'.give _ _ _, DA.out⟩
        case round =>
          clear DA
          obtain ⟨q, cs, ke, be, a2, c2, rfl, hq, HM⟩ := hrel
          have HL : Hid (cs.length = q) := HM.out.1
          have hlb : cs.length ≤ 65535 := by rw [HL.out]; omega
          have HB : Hid (Bt w wr (pItems ⟨.slice a1 F.length c1, .slice a2 cs.length c2, .slice none 0 0, .slice none 0 0⟩ F cs [] [] [gb w.heap.size (⟨.slice none 0 0, .slice none 0 0, .slice none 0 0, .slice none 0 0⟩ : VP), gb X ⟨.slice a1 F.length c1, .slice a2 cs.length c2, .slice none 0 0, .slice none 0 0⟩]) B I L a c zs ke be) := HM.out.2.2
          have HR : Hid (Reads' (manyR (constR zs) q) kA bA cs ke be) := HM.out.2.1
          clear HM
          obtain ⟨w0, w1, w2⟩ := three_cells HB.out.got.at_.blk
          by_cases hlt : q < mA
          · cases be
            · skip
              go_wp2_with fail
              refine (l3Get_any B I L a c zs 1 ke false _ (by omega) (by omega) HB.out.got.at_).mono ?_
              rintro e V1 ⟨ty, t1, d1, rfl, z1, r1, g1⟩
              have M1 : Hid (Bt w V1 (pItems ⟨.slice a1 F.length c1, .slice a2 cs.length c2, .slice none 0 0, .slice none 0 0⟩ F cs [] [] [gb w.heap.size (⟨.slice none 0 0, .slice none 0 0, .slice none 0 0, .slice none 0 0⟩ : VP), gb X ⟨.slice a1 F.length c1, .slice a2 cs.length c2, .slice none 0 0, .slice none 0 0⟩]) B I L a c zs t1 d1) := HB.out.read g1
              have S1 : Hid (Reads' (numR zs 1) ke false ty t1 d1) := r1
              clear z1 r1 g1 HB w0 w1 w2
              go_upto_region 10 with fail
              refine wp_region_held_drew (S := fun _ => True) (by kernel_rfl) trivial (fun hHeld => ?_)
              have D0 : Hid (Bt w V1.drew (pItems ⟨.slice a1 F.length c1, .slice a2 cs.length c2, .slice none 0 0, .slice none 0 0⟩ F cs [] [] [gb w.heap.size (⟨.slice none 0 0, .slice none 0 0, .slice none 0 0, .slice none 0 0⟩ : VP), gb X ⟨.slice a1 F.length c1, .slice a2 cs.length c2, .slice none 0 0, .slice none 0 0⟩]) B I L a c zs t1 d1) := M1.out.keep (below_drew1 _)
              clear M1
              generalize V1.drew = UD at D0 hHeld ⊢
              have q0 : UD.cell? ⟨X, 1, none⟩ = some (.slice a2 cs.length c2) := D0.out.cell (pItems_in (show gb X ⟨.slice a1 F.length c1, .slice a2 cs.length c2, .slice none 0 0, .slice none 0 0⟩ ∈ _ by simp)) 1 (by omega)
              refine wpAnyH_take (i := 0) (v := ?_) rfl (by kernel_rfl) (by kernel_rfl) (by kernel_rfl) (fun _ _ _ h => h) (Or.inl ⟨by rfl, ?_⟩) (by assumption) ?_
              rotate_left
              · (intro w hSw; (try dsimp only at hSw); go_simp; (try with_reducible rfl))
              refine wpAnyH_take (i := 2) (v := ?_) rfl (by kernel_rfl) (by kernel_rfl) (by kernel_rfl) (fun _ _ _ h => h) (Or.inl ⟨by rfl, ?_⟩) (by assumption) ?_
              rotate_left
              · (intro w hSw; (try dsimp only at hSw); go_simp; (try with_reducible rfl))
              refine wpAnyH_take (i := 3) (v := ?_) rfl (by kernel_rfl) (by kernel_rfl) (by kernel_rfl) (fun _ _ _ h => h) (Or.inl ⟨by rfl, ?_⟩) (by assumption) ?_
              rotate_left
              · (intro w hSw; (try dsimp only at hSw); go_simp; (try with_reducible rfl))
              refine wpAnyH_ready (rs := [1, 4]) (by kernel_rfl) (by simp) ?_
              refine AllReadyH.cons rfl (fun KC hKC => ?_) (AllReadyH.cons rfl (fun KC hKC => ?_) AllReadyH.nil)
              focus
                go_simp
                refine hKC.out _ _ trivial (fun hHeld => ?_)
                clear hKC KC
                refine wpAnyH_ready (rs := [4]) (by kernel_rfl) (by simp) ?_
                refine AllReadyH.cons rfl (fun KC hKC => ?_) AllReadyH.nil
                go_simp
                refine (l3Get_any B I L a c zs 4 t1 d1 UD (by omega) (by omega) D0.out.got.at_).mono ?_
                rintro e U1 ⟨x, t2, d2, rfl, z2, r2, g2⟩
                have D1 : Hid (Bt w U1 (pItems ⟨.slice a1 F.length c1, .slice a2 cs.length c2, .slice none 0 0, .slice none 0 0⟩ F cs [] [] [gb w.heap.size (⟨.slice none 0 0, .slice none 0 0, .slice none 0 0, .slice none 0 0⟩ : VP), gb X ⟨.slice a1 F.length c1, .slice a2 cs.length c2, .slice none 0 0, .slice none 0 0⟩]) B I L a c zs t2 d2) := D0.out.read g2
                have S2 : Hid (Reads' (numR zs 4) t1 d1 x t2 d2) := r2
                obtain ⟨xa, xb⟩ := num_bd HZ.out (by omega) r2 z2
                have hw : IntKind.u32.wrap x = x := IntWalk.u32_in _ ⟨by omega, by omega⟩
                clear z2 r2 g2 D0
                have q1 : U1.cell? ⟨X, 1, none⟩ = some (.slice a2 cs.length c2) := D1.out.cell (pItems_in (show gb X ⟨.slice a1 F.length c1, .slice a2 cs.length c2, .slice none 0 0, .slice none 0 0⟩ ∈ _ by simp)) 1 (by omega)
                go_simp
                refine hKC.out _ _ trivial (fun hHeld => ?_)
                clear hKC KC
                refine wpAnyH_take (i := 5) (v := ?_) rfl (by kernel_rfl) (by kernel_rfl) (by kernel_rfl) (fun _ _ _ h => h) (Or.inl ⟨by rfl, ?_⟩) (by assumption) ?_
                rotate_left
                · (intro w hSw; (try dsimp only at hSw); go_simp; (try with_reducible rfl))
                refine wpAnyH_take (i := 6) (v := ?_) rfl (by kernel_rfl) (by kernel_rfl) (by kernel_rfl) (fun _ _ _ h => h) (Or.inl ⟨by rfl, ?_⟩) (by assumption) ?_
                rotate_left
                · (intro w hSw; (try dsimp only at hSw); go_simp; (try with_reducible rfl))
                refine wpAnyH_ready (rs := [7]) (by kernel_rfl) (by simp) ?_
                refine AllReadyH.cons rfl (fun KC hKC => ?_) AllReadyH.nil
                go_simp
                have D3 : Hid (Bt w (U1.alloc (.cells #[.int .i64 ty, .int .u32 x] 61)) (pItems ⟨.slice a1 F.length c1, .slice a2 cs.length c2, .slice none 0 0, .slice none 0 0⟩ F cs [] [] [gb w.heap.size (⟨.slice none 0 0, .slice none 0 0, .slice none 0 0, .slice none 0 0⟩ : VP), gb X ⟨.slice a1 F.length c1, .slice a2 cs.length c2, .slice none 0 0, .slice none 0 0⟩]) B I L a c zs t2 d2) := D1.out.keep (below_alloc _ _)
                have O3 : Hid ((U1.alloc (.cells #[.int .i64 ty, .int .u32 x] 61)).ownsRow w.heap.size 61 2 (.slice a2 cs.length c2) cs.length (cs.flatMap MC.cells)) := D3.out.sep.own (cRow (.slice a2 cs.length c2) cs) (by simp [pItems])
                have q3 : (U1.alloc (.cells #[.int .i64 ty, .int .u32 x] 61)).cell? ⟨X, 1, none⟩ = some (.slice a2 cs.length c2) := D3.out.cell (pItems_in (show gb X ⟨.slice a1 F.length c1, .slice a2 cs.length c2, .slice none 0 0, .slice none 0 0⟩ ∈ _ by simp)) 1 (by omega)
                have hs3 := D3.out.size
                refine hKC.out _ _ trivial (fun hHeld => ?_)
                clear hKC KC
                refine wpAnyH_ready (rs := [8]) (by kernel_rfl) (by simp) ?_
                refine AllReadyH.cons rfl (fun KC hKC => ?_) AllReadyH.nil
                refine step_append_lies _ rfl (.tmp 40) (.tmp 46) 24 rfl w.heap.size 61 iC (.agg #[.int .i64 0, .int .u32 0]) 2 16 Tryz.underlying24 hiC hC0 hC1 hC2 rfl (by decide) (.slice a2 cs.length c2) cs.length (cs.flatMap MC.cells) (by simp [Act.eval]) O3.out ⟨U1.heap.size, 0, none⟩ 1 1 [.int .i64 ty, .int .u32 x] (by simp [Act.eval]) rfl (lit_at U1 [.int .i64 ty, .int .u32 x] 61) (by intro u hu; simp at hu; rcases hu with rfl | rfl <;> rfl) (by omega) (by unfold maxLen; omega) (by omega) hs3 _ rfl ?_
                intro gg cap u8 hown hgrow hat _
                have D4 : Hid (Bt w u8 (pItems ⟨.slice a1 F.length c1, .slice (some ⟨gg, 0, none⟩) (cs.length + 1) cap, .slice none 0 0, .slice none 0 0⟩ F (cs ++ [(⟨ty, x⟩ : MC)]) [] [] [gb w.heap.size (⟨.slice none 0 0, .slice none 0 0, .slice none 0 0, .slice none 0 0⟩ : VP), gb X ⟨.slice a1 F.length c1, .slice a2 cs.length c2, .slice none 0 0, .slice none 0 0⟩]) B I L a c zs t2 d2) := D3.out.push_c ⟨ty, x⟩ (.slice (some ⟨gg, 0, none⟩) (cs.length + 1) cap) hown hgrow (hat_of hat)
                have y0 : u8.cell? ⟨X, 1, none⟩ = some (.slice a2 cs.length c2) := D4.out.cell (pItems_in (show gb X ⟨.slice a1 F.length c1, .slice a2 cs.length c2, .slice none 0 0, .slice none 0 0⟩ ∈ _ by simp)) 1 (by omega)
                have y1 : u8.frozen? ⟨X, 1, none⟩ = false := D4.out.frozen (pItems_in (show gb X ⟨.slice a1 F.length c1, .slice a2 cs.length c2, .slice none 0 0, .slice none 0 0⟩ ∈ _ by simp)) 1
                clear hown hgrow hat O3 D3 D1
                refine hKC.out _ _ trivial (fun hHeld => ?_)
                clear hKC KC
                refine wpAnyH_take (i := 9) (v := ?_) rfl (by kernel_rfl) (by kernel_rfl) (by kernel_rfl) (fun _ _ _ h => h) (Or.inl ⟨by rfl, ?_⟩) (by assumption) ?_
                rotate_left
                · (intro w hSw; (try dsimp only at hSw); go_simp; (try with_reducible rfl))
                refine wpAnyH_ready (rs := [10]) (by kernel_rfl) (by simp) ?_
                refine AllReadyH.cons rfl (fun KC hKC => ?_) AllReadyH.nil
                go_simp
                refine hKC.out _ _ trivial (fun hHeld => ?_)
                clear hKC KC
                refine wpAnyH_done (by kernel_rfl) ?_ _
                have S5 : Hid (Reads' (manyR (constR zs) (q + 1)) kA bA (cs ++ [(⟨ty, x⟩ : MC)]) t2 d2) := HR.out.next (S1.out.then (S2.out.then (Reads'.give _ _ _)))
                have D5 : Hid (Bt w (u8.setCell ⟨X, 1, none⟩ (.slice (some ⟨gg, 0, none⟩) (cs.length + 1) cap)) (pItems ⟨.slice a1 F.length c1, .slice (some ⟨gg, 0, none⟩) (cs.length + 1) cap, .slice none 0 0, .slice none 0 0⟩ F (cs ++ [(⟨ty, x⟩ : MC)]) [] [] [gb w.heap.size (⟨.slice none 0 0, .slice none 0 0, .slice none 0 0, .slice none 0 0⟩ : VP), gb X ⟨.slice a1 F.length c1, .slice (some ⟨gg, 0, none⟩) (cs.length + 1) cap, .slice none 0 0, .slice none 0 0⟩]) B I L a c zs t2 d2) := D4.out.setp (D := [gb w.heap.size (⟨.slice none 0 0, .slice none 0 0, .slice none 0 0, .slice none 0 0⟩ : VP)]) 1 (by omega) (.slice (some ⟨gg, 0, none⟩) (cs.length + 1) cap)
                generalize u8.setCell ⟨X, 1, none⟩ (.slice (some ⟨gg, 0, none⟩) (cs.length + 1) cap) = W5 at D5 ⊢
                clear D4 HR S1 S2 y0 y1 q0 q1 q3
                go_wp2
                refine ⟨⟨q + 1, (cs ++ [(⟨ty, x⟩ : MC)]), t2, d2, some ⟨gg, 0, none⟩, cap, by go_num, by omega, ?_⟩, by simp [intOf]; omega⟩
                have el : (cs ++ [(⟨ty, x⟩ : MC)]).length = cs.length + 1 := by simp
                refine ⟨by rw [el, HL.out], S5.out, ?_⟩
                rw [el]
                exact D5.out
              focus
                go_simp
                refine (l3Get_any B I L a c zs 4 t1 d1 UD (by omega) (by omega) D0.out.got.at_).mono ?_
                rintro e U1 ⟨x, t2, d2, rfl, z2, r2, g2⟩
                have D1 : Hid (Bt w U1 (pItems ⟨.slice a1 F.length c1, .slice a2 cs.length c2, .slice none 0 0, .slice none 0 0⟩ F cs [] [] [gb w.heap.size (⟨.slice none 0 0, .slice none 0 0, .slice none 0 0, .slice none 0 0⟩ : VP), gb X ⟨.slice a1 F.length c1, .slice a2 cs.length c2, .slice none 0 0, .slice none 0 0⟩]) B I L a c zs t2 d2) := D0.out.read g2
                have S2 : Hid (Reads' (numR zs 4) t1 d1 x t2 d2) := r2
                obtain ⟨xa, xb⟩ := num_bd HZ.out (by omega) r2 z2
                have hw : IntKind.u32.wrap x = x := IntWalk.u32_in _ ⟨by omega, by omega⟩
                clear z2 r2 g2 D0
                have q1 : U1.cell? ⟨X, 1, none⟩ = some (.slice a2 cs.length c2) := D1.out.cell (pItems_in (show gb X ⟨.slice a1 F.length c1, .slice a2 cs.length c2, .slice none 0 0, .slice none 0 0⟩ ∈ _ by simp)) 1 (by omega)
                go_simp
                refine hKC.out _ _ trivial (fun hHeld => ?_)
                clear hKC KC
                refine wpAnyH_take (i := 5) (v := ?_) rfl (by kernel_rfl) (by kernel_rfl) (by kernel_rfl) (fun _ _ _ h => h) (Or.inl ⟨by rfl, ?_⟩) (by assumption) ?_
                rotate_left
                · (intro w hSw; (try dsimp only at hSw); go_simp; (try with_reducible rfl))
                refine wpAnyH_take (i := 6) (v := ?_) rfl (by kernel_rfl) (by kernel_rfl) (by kernel_rfl) (fun _ _ _ h => h) (Or.inl ⟨by rfl, ?_⟩) (by assumption) ?_
                rotate_left
                · (intro w hSw; (try dsimp only at hSw); go_simp; (try with_reducible rfl))
                refine wpAnyH_ready (rs := [1, 7]) (by kernel_rfl) (by simp) ?_
                refine AllReadyH.cons rfl (fun KC hKC => ?_) (AllReadyH.cons rfl (fun KC hKC => ?_) AllReadyH.nil)
                focus
                  go_simp
                  refine hKC.out _ _ trivial (fun hHeld => ?_)
                  clear hKC KC
                  refine wpAnyH_ready (rs := [7]) (by kernel_rfl) (by simp) ?_
                  refine AllReadyH.cons rfl (fun KC hKC => ?_) AllReadyH.nil
                  go_simp
                  have D3 : Hid (Bt w (U1.alloc (.cells #[.int .i64 ty, .int .u32 x] 61)) (pItems ⟨.slice a1 F.length c1, .slice a2 cs.length c2, .slice none 0 0, .slice none 0 0⟩ F cs [] [] [gb w.heap.size (⟨.slice none 0 0, .slice none 0 0, .slice none 0 0, .slice none 0 0⟩ : VP), gb X ⟨.slice a1 F.length c1, .slice a2 cs.length c2, .slice none 0 0, .slice none 0 0⟩]) B I L a c zs t2 d2) := D1.out.keep (below_alloc _ _)
                  have O3 : Hid ((U1.alloc (.cells #[.int .i64 ty, .int .u32 x] 61)).ownsRow w.heap.size 61 2 (.slice a2 cs.length c2) cs.length (cs.flatMap MC.cells)) := D3.out.sep.own (cRow (.slice a2 cs.length c2) cs) (by simp [pItems])
                  have q3 : (U1.alloc (.cells #[.int .i64 ty, .int .u32 x] 61)).cell? ⟨X, 1, none⟩ = some (.slice a2 cs.length c2) := D3.out.cell (pItems_in (show gb X ⟨.slice a1 F.length c1, .slice a2 cs.length c2, .slice none 0 0, .slice none 0 0⟩ ∈ _ by simp)) 1 (by omega)
                  have hs3 := D3.out.size
                  refine hKC.out _ _ trivial (fun hHeld => ?_)
                  clear hKC KC
                  refine wpAnyH_ready (rs := [8]) (by kernel_rfl) (by simp) ?_
                  refine AllReadyH.cons rfl (fun KC hKC => ?_) AllReadyH.nil
                  refine step_append_lies _ rfl (.tmp 40) (.tmp 46) 24 rfl w.heap.size 61 iC (.agg #[.int .i64 0, .int .u32 0]) 2 16 Tryz.underlying24 hiC hC0 hC1 hC2 rfl (by decide) (.slice a2 cs.length c2) cs.length (cs.flatMap MC.cells) (by simp [Act.eval]) O3.out ⟨U1.heap.size, 0, none⟩ 1 1 [.int .i64 ty, .int .u32 x] (by simp [Act.eval]) rfl (lit_at U1 [.int .i64 ty, .int .u32 x] 61) (by intro u hu; simp at hu; rcases hu with rfl | rfl <;> rfl) (by omega) (by unfold maxLen; omega) (by omega) hs3 _ rfl ?_
                  intro gg cap u8 hown hgrow hat _
                  have D4 : Hid (Bt w u8 (pItems ⟨.slice a1 F.length c1, .slice (some ⟨gg, 0, none⟩) (cs.length + 1) cap, .slice none 0 0, .slice none 0 0⟩ F (cs ++ [(⟨ty, x⟩ : MC)]) [] [] [gb w.heap.size (⟨.slice none 0 0, .slice none 0 0, .slice none 0 0, .slice none 0 0⟩ : VP), gb X ⟨.slice a1 F.length c1, .slice a2 cs.length c2, .slice none 0 0, .slice none 0 0⟩]) B I L a c zs t2 d2) := D3.out.push_c ⟨ty, x⟩ (.slice (some ⟨gg, 0, none⟩) (cs.length + 1) cap) hown hgrow (hat_of hat)
                  have y0 : u8.cell? ⟨X, 1, none⟩ = some (.slice a2 cs.length c2) := D4.out.cell (pItems_in (show gb X ⟨.slice a1 F.length c1, .slice a2 cs.length c2, .slice none 0 0, .slice none 0 0⟩ ∈ _ by simp)) 1 (by omega)
                  have y1 : u8.frozen? ⟨X, 1, none⟩ = false := D4.out.frozen (pItems_in (show gb X ⟨.slice a1 F.length c1, .slice a2 cs.length c2, .slice none 0 0, .slice none 0 0⟩ ∈ _ by simp)) 1
                  clear hown hgrow hat O3 D3 D1
                  refine hKC.out _ _ trivial (fun hHeld => ?_)
                  clear hKC KC
                  refine wpAnyH_take (i := 9) (v := ?_) rfl (by kernel_rfl) (by kernel_rfl) (by kernel_rfl) (fun _ _ _ h => h) (Or.inl ⟨by rfl, ?_⟩) (by assumption) ?_
                  rotate_left
                  · (intro w hSw; (try dsimp only at hSw); go_simp; (try with_reducible rfl))
                  refine wpAnyH_ready (rs := [10]) (by kernel_rfl) (by simp) ?_
                  refine AllReadyH.cons rfl (fun KC hKC => ?_) AllReadyH.nil
                  go_simp
                  refine hKC.out _ _ trivial (fun hHeld => ?_)
                  clear hKC KC
                  refine wpAnyH_done (by kernel_rfl) ?_ _
                  have S5 : Hid (Reads' (manyR (constR zs) (q + 1)) kA bA (cs ++ [(⟨ty, x⟩ : MC)]) t2 d2) := HR.out.next (S1.out.then (S2.out.then (Reads'.give _ _ _)))
                  have D5 : Hid (Bt w (u8.setCell ⟨X, 1, none⟩ (.slice (some ⟨gg, 0, none⟩) (cs.length + 1) cap)) (pItems ⟨.slice a1 F.length c1, .slice (some ⟨gg, 0, none⟩) (cs.length + 1) cap, .slice none 0 0, .slice none 0 0⟩ F (cs ++ [(⟨ty, x⟩ : MC)]) [] [] [gb w.heap.size (⟨.slice none 0 0, .slice none 0 0, .slice none 0 0, .slice none 0 0⟩ : VP), gb X ⟨.slice a1 F.length c1, .slice (some ⟨gg, 0, none⟩) (cs.length + 1) cap, .slice none 0 0, .slice none 0 0⟩]) B I L a c zs t2 d2) := D4.out.setp (D := [gb w.heap.size (⟨.slice none 0 0, .slice none 0 0, .slice none 0 0, .slice none 0 0⟩ : VP)]) 1 (by omega) (.slice (some ⟨gg, 0, none⟩) (cs.length + 1) cap)
                  generalize u8.setCell ⟨X, 1, none⟩ (.slice (some ⟨gg, 0, none⟩) (cs.length + 1) cap) = W5 at D5 ⊢
                  clear D4 HR S1 S2 y0 y1 q0 q1 q3
                  go_wp2
                  refine ⟨⟨q + 1, (cs ++ [(⟨ty, x⟩ : MC)]), t2, d2, some ⟨gg, 0, none⟩, cap, by go_num, by omega, ?_⟩, by simp [intOf]; omega⟩
                  have el : (cs ++ [(⟨ty, x⟩ : MC)]).length = cs.length + 1 := by simp
                  refine ⟨by rw [el, HL.out], S5.out, ?_⟩
                  rw [el]
                  exact D5.out
                focus
                  go_simp
                  have D3 : Hid (Bt w (U1.alloc (.cells #[.int .i64 ty, .int .u32 x] 61)) (pItems ⟨.slice a1 F.length c1, .slice a2 cs.length c2, .slice none 0 0, .slice none 0 0⟩ F cs [] [] [gb w.heap.size (⟨.slice none 0 0, .slice none 0 0, .slice none 0 0, .slice none 0 0⟩ : VP), gb X ⟨.slice a1 F.length c1, .slice a2 cs.length c2, .slice none 0 0, .slice none 0 0⟩]) B I L a c zs t2 d2) := D1.out.keep (below_alloc _ _)
                  have O3 : Hid ((U1.alloc (.cells #[.int .i64 ty, .int .u32 x] 61)).ownsRow w.heap.size 61 2 (.slice a2 cs.length c2) cs.length (cs.flatMap MC.cells)) := D3.out.sep.own (cRow (.slice a2 cs.length c2) cs) (by simp [pItems])
                  have q3 : (U1.alloc (.cells #[.int .i64 ty, .int .u32 x] 61)).cell? ⟨X, 1, none⟩ = some (.slice a2 cs.length c2) := D3.out.cell (pItems_in (show gb X ⟨.slice a1 F.length c1, .slice a2 cs.length c2, .slice none 0 0, .slice none 0 0⟩ ∈ _ by simp)) 1 (by omega)
                  have hs3 := D3.out.size
                  refine hKC.out _ _ trivial (fun hHeld => ?_)
                  clear hKC KC
                  refine wpAnyH_ready (rs := [1]) (by kernel_rfl) (by simp) ?_
                  refine AllReadyH.cons rfl (fun KC hKC => ?_) AllReadyH.nil
                  go_simp
                  refine hKC.out _ _ trivial (fun hHeld => ?_)
                  clear hKC KC
                  refine wpAnyH_ready (rs := [8]) (by kernel_rfl) (by simp) ?_
                  refine AllReadyH.cons rfl (fun KC hKC => ?_) AllReadyH.nil
                  refine step_append_lies _ rfl (.tmp 40) (.tmp 46) 24 rfl w.heap.size 61 iC (.agg #[.int .i64 0, .int .u32 0]) 2 16 Tryz.underlying24 hiC hC0 hC1 hC2 rfl (by decide) (.slice a2 cs.length c2) cs.length (cs.flatMap MC.cells) (by simp [Act.eval]) O3.out ⟨U1.heap.size, 0, none⟩ 1 1 [.int .i64 ty, .int .u32 x] (by simp [Act.eval]) rfl (lit_at U1 [.int .i64 ty, .int .u32 x] 61) (by intro u hu; simp at hu; rcases hu with rfl | rfl <;> rfl) (by omega) (by unfold maxLen; omega) (by omega) hs3 _ rfl ?_
                  intro gg cap u8 hown hgrow hat _
                  have D4 : Hid (Bt w u8 (pItems ⟨.slice a1 F.length c1, .slice (some ⟨gg, 0, none⟩) (cs.length + 1) cap, .slice none 0 0, .slice none 0 0⟩ F (cs ++ [(⟨ty, x⟩ : MC)]) [] [] [gb w.heap.size (⟨.slice none 0 0, .slice none 0 0, .slice none 0 0, .slice none 0 0⟩ : VP), gb X ⟨.slice a1 F.length c1, .slice a2 cs.length c2, .slice none 0 0, .slice none 0 0⟩]) B I L a c zs t2 d2) := D3.out.push_c ⟨ty, x⟩ (.slice (some ⟨gg, 0, none⟩) (cs.length + 1) cap) hown hgrow (hat_of hat)
                  have y0 : u8.cell? ⟨X, 1, none⟩ = some (.slice a2 cs.length c2) := D4.out.cell (pItems_in (show gb X ⟨.slice a1 F.length c1, .slice a2 cs.length c2, .slice none 0 0, .slice none 0 0⟩ ∈ _ by simp)) 1 (by omega)
                  have y1 : u8.frozen? ⟨X, 1, none⟩ = false := D4.out.frozen (pItems_in (show gb X ⟨.slice a1 F.length c1, .slice a2 cs.length c2, .slice none 0 0, .slice none 0 0⟩ ∈ _ by simp)) 1
                  clear hown hgrow hat O3 D3 D1
                  refine hKC.out _ _ trivial (fun hHeld => ?_)
                  clear hKC KC
                  refine wpAnyH_take (i := 9) (v := ?_) rfl (by kernel_rfl) (by kernel_rfl) (by kernel_rfl) (fun _ _ _ h => h) (Or.inl ⟨by rfl, ?_⟩) (by assumption) ?_
                  rotate_left
                  · (intro w hSw; (try dsimp only at hSw); go_simp; (try with_reducible rfl))
                  refine wpAnyH_ready (rs := [10]) (by kernel_rfl) (by simp) ?_
                  refine AllReadyH.cons rfl (fun KC hKC => ?_) AllReadyH.nil
                  go_simp
                  refine hKC.out _ _ trivial (fun hHeld => ?_)
                  clear hKC KC
                  refine wpAnyH_done (by kernel_rfl) ?_ _
                  have S5 : Hid (Reads' (manyR (constR zs) (q + 1)) kA bA (cs ++ [(⟨ty, x⟩ : MC)]) t2 d2) := HR.out.next (S1.out.then (S2.out.then (Reads'.give _ _ _)))
                  have D5 : Hid (Bt w (u8.setCell ⟨X, 1, none⟩ (.slice (some ⟨gg, 0, none⟩) (cs.length + 1) cap)) (pItems ⟨.slice a1 F.length c1, .slice (some ⟨gg, 0, none⟩) (cs.length + 1) cap, .slice none 0 0, .slice none 0 0⟩ F (cs ++ [(⟨ty, x⟩ : MC)]) [] [] [gb w.heap.size (⟨.slice none 0 0, .slice none 0 0, .slice none 0 0, .slice none 0 0⟩ : VP), gb X ⟨.slice a1 F.length c1, .slice (some ⟨gg, 0, none⟩) (cs.length + 1) cap, .slice none 0 0, .slice none 0 0⟩]) B I L a c zs t2 d2) := D4.out.setp (D := [gb w.heap.size (⟨.slice none 0 0, .slice none 0 0, .slice none 0 0, .slice none 0 0⟩ : VP)]) 1 (by omega) (.slice (some ⟨gg, 0, none⟩) (cs.length + 1) cap)
                  generalize u8.setCell ⟨X, 1, none⟩ (.slice (some ⟨gg, 0, none⟩) (cs.length + 1) cap) = W5 at D5 ⊢
                  clear D4 HR S1 S2 y0 y1 q0 q1 q3
                  go_wp2
                  refine ⟨⟨q + 1, (cs ++ [(⟨ty, x⟩ : MC)]), t2, d2, some ⟨gg, 0, none⟩, cap, by go_num, by omega, ?_⟩, by simp [intOf]; omega⟩
                  have el : (cs ++ [(⟨ty, x⟩ : MC)]).length = cs.length + 1 := by simp
                  refine ⟨by rw [el, HL.out], S5.out, ?_⟩
                  rw [el]
                  exact D5.out
            · go_wp2_with fail
              go_meet
              exact ⟨cs, ke, true, a2, c2, HR.out.upto hq, HB.out⟩
          · have HR2 : Hid (Reads' (manyR (constR zs) mA) kA bA cs ke be) := by have := HR.out; rwa [show q = mA by omega] at this
            go_wp2_with fail
            all_goals
              go_meet
              exact ⟨cs, ke, be, a2, c2, HR2.out, HB.out⟩
      case rest =>
      obtain ⟨cs, kA2, bA2, a2, c2, HQ⟩ := hcut
      have HB : Hid (Bt w wc (pItems ⟨.slice a1 F.length c1, .slice a2 cs.length c2, .slice none 0 0, .slice none 0 0⟩ F cs [] [] [gb w.heap.size (⟨.slice none 0 0, .slice none 0 0, .slice none 0 0, .slice none 0 0⟩ : VP), gb X ⟨.slice a1 F.length c1, .slice a2 cs.length c2, .slice none 0 0, .slice none 0 0⟩]) B I L a c zs kA2 bA2) := HQ.out.2
      have RRA : Hid (Reads' (manyR (constR zs) mA) kA bA cs kA2 bA2) := HQ.out.1
      clear HQ DA
      go_wp2_with fail
      refine (l3Get_any B I L a c zs 2 kA2 bA2 _ (by omega) (by omega) HB.out.got.at_).mono ?_
      rintro e UC ⟨nC, kC, bC, rfl, zC, rC, gC⟩
      have DC : Hid (Bt w UC (pItems ⟨.slice a1 F.length c1, .slice a2 cs.length c2, .slice none 0 0, .slice none 0 0⟩ F cs [] [] [gb w.heap.size (⟨.slice none 0 0, .slice none 0 0, .slice none 0 0, .slice none 0 0⟩ : VP), gb X ⟨.slice a1 F.length c1, .slice a2 cs.length c2, .slice none 0 0, .slice none 0 0⟩]) B I L a c zs kC bC) := HB.out.read gC
      have RC : Hid (Reads' (numR zs 2) kA2 bA2 nC kC bC) := rC
      obtain ⟨nCa, nCb⟩ := num_bd HZ.out (by omega) rC zC
      clear zC rC gC HB
      obtain ⟨mC, rfl⟩ := Int.eq_ofNat_of_zero_le nCa
      have hC16 : mC < 65536 := by omega
      go_upto_block 4 with fail
      go_cut [] (fun wx => ∃ (G : List (MF × VF)) (ke : Nat) (be : Bool) (a3 : Option Addr) (c3 : Nat), Hid (Reads' (manyR (funcR zs) mC) kC bC (G.map Prod.fst) ke be ∧ Bt w wx (pItems ⟨.slice a1 F.length c1, .slice a2 cs.length c2, .slice a3 G.length c3, .slice none 0 0⟩ F cs G [] [gb w.heap.size (⟨.slice none 0 0, .slice none 0 0, .slice none 0 0, .slice none 0 0⟩ : VP), gb X ⟨.slice a1 F.length c1, .slice a2 cs.length c2, .slice a3 G.length c3, .slice none 0 0⟩]) B I L a c zs ke be))
      case first =>
        go_wp2_with fail
        go_loopw [7] (fun kv wr => ∃ (q : Nat) (G : List (MF × VF)) (ke : Nat) (be : Bool) (a3 : Option Addr) (c3 : Nat), kv = .int .i64 ((mC : Int) - (q : Int)) ∧ q ≤ mC ∧ Hid (G.length = q ∧ Reads' (manyR (funcR zs) q) kC bC (G.map Prod.fst) ke be ∧ Bt w wr (pItems ⟨.slice a1 F.length c1, .slice a2 cs.length c2, .slice a3 G.length c3, .slice none 0 0⟩ F cs G [] [gb w.heap.size (⟨.slice none 0 0, .slice none 0 0, .slice none 0 0, .slice none 0 0⟩ : VP), gb X ⟨.slice a1 F.length c1, .slice a2 cs.length c2, .slice a3 G.length c3, .slice none 0 0⟩]) B I L a c zs ke be)) (fun kv _ => (intOf kv).toNat)
        case atStart =>
          exact ⟨0, [], kC, bC, none, 0, by simp, by omega, rfl, Reads'.give _ _ _, DC.out⟩
        case round =>
          clear DC
          obtain ⟨q, G, ke, be, a3, c3, rfl, hq, HM⟩ := hrel
          have HL : Hid (G.length = q) := HM.out.1
          have hlb : G.length ≤ 65535 := by rw [HL.out]; omega
          have HB : Hid (Bt w wr (pItems ⟨.slice a1 F.length c1, .slice a2 cs.length c2, .slice a3 G.length c3, .slice none 0 0⟩ F cs G [] [gb w.heap.size (⟨.slice none 0 0, .slice none 0 0, .slice none 0 0, .slice none 0 0⟩ : VP), gb X ⟨.slice a1 F.length c1, .slice a2 cs.length c2, .slice a3 G.length c3, .slice none 0 0⟩]) B I L a c zs ke be) := HM.out.2.2
          have HR : Hid (Reads' (manyR (funcR zs) q) kC bC (G.map Prod.fst) ke be) := HM.out.2.1
          clear HM
          obtain ⟨w0, w1, w2⟩ := three_cells HB.out.got.at_.blk
          by_cases hlt : q < mC
          · cases be
            · skip
              go_upto_region 14 with fail
              refine wp_region_held_drew (S := fun _ => True) (by kernel_rfl) trivial (fun hHeld => ?_)
              have D0 : Hid (Bt w wr.drew (pItems ⟨.slice a1 F.length c1, .slice a2 cs.length c2, .slice a3 G.length c3, .slice none 0 0⟩ F cs G [] [gb w.heap.size (⟨.slice none 0 0, .slice none 0 0, .slice none 0 0, .slice none 0 0⟩ : VP), gb X ⟨.slice a1 F.length c1, .slice a2 cs.length c2, .slice a3 G.length c3, .slice none 0 0⟩]) B I L a c zs ke false) := HB.out.keep (below_drew1 _)
              clear HB w0 w1 w2
              generalize wr.drew = UD at D0 hHeld ⊢
              have q0 : UD.cell? ⟨X, 2, none⟩ = some (.slice a3 G.length c3) := D0.out.cell (pItems_in (show gb X ⟨.slice a1 F.length c1, .slice a2 cs.length c2, .slice a3 G.length c3, .slice none 0 0⟩ ∈ _ by simp)) 2 (by omega)
              refine wpAnyH_take (i := 0) (v := ?_) rfl (by kernel_rfl) (by kernel_rfl) (by kernel_rfl) (fun _ _ _ h => h) (Or.inl ⟨by rfl, ?_⟩) (by assumption) ?_
              rotate_left
              · (intro w hSw; (try dsimp only at hSw); go_simp; (try with_reducible rfl))
              refine wpAnyH_take (i := 2) (v := ?_) rfl (by kernel_rfl) (by kernel_rfl) (by kernel_rfl) (fun _ _ _ h => h) (Or.inl ⟨by rfl, ?_⟩) (by assumption) ?_
              rotate_left
              · (intro w hSw; (try dsimp only at hSw); go_simp; (try with_reducible rfl))
              refine wpAnyH_ready (rs := [1, 3]) (by kernel_rfl) (by simp) ?_
              refine AllReadyH.cons rfl (fun KC hKC => ?_) (AllReadyH.cons rfl (fun KC hKC => ?_) AllReadyH.nil)
              focus
                go_simp
                refine hKC.out _ _ trivial (fun hHeld => ?_)
                clear hKC KC
                refine wpAnyH_ready (rs := [3]) (by kernel_rfl) (by simp) ?_
                refine AllReadyH.cons rfl (fun KC hKC => ?_) AllReadyH.nil
                go_simp
                refine (l3GetFunc_any B I L a c zs ke false UD D0.out.got.at_).mono ?_
                rintro e U1 ⟨f, vf, t2, d2, rfl, s2, r2, g2⟩
                obtain ⟨vp, vl, vc⟩ := vf
                obtain ⟨e1, e2, h1⟩ : ∃ a c, vp = .slice a f.params.length c := own_sl (s2.own (iRow vp f.params) (by simp [fItem]))
                obtain ⟨e3, e4, h2⟩ : ∃ a c, vl = .slice a f.locals.length c := own_sl (s2.own (iRow vl f.locals) (by simp [fItem]))
                obtain ⟨e5, e6, h3⟩ : ∃ a c, vc = .slice a f.code.length c := own_sl (s2.own (nRow vc f.code) (by simp [fItem]))
                subst h1 h2 h3
                have D1 : Hid (Bt w U1 (pItems ⟨.slice a1 F.length c1, .slice a2 cs.length c2, .slice a3 G.length c3, .slice none 0 0⟩ F cs G [] [gb w.heap.size (⟨.slice none 0 0, .slice none 0 0, .slice none 0 0, .slice none 0 0⟩ : VP), gb X ⟨.slice a1 F.length c1, .slice a2 cs.length c2, .slice a3 G.length c3, .slice none 0 0⟩] ++ fItem (f, (⟨.slice e1 f.params.length e2, .slice e3 f.locals.length e4, .slice e5 f.code.length e6⟩ : VF))) B I L a c zs t2 d2) := D0.out.rows g2 s2
                have S2 : Hid (Reads' (funcR zs) ke false f t2 d2) := r2
                clear r2 g2 s2 D0
                have q1 : U1.cell? ⟨X, 2, none⟩ = some (.slice a3 G.length c3) := D1.out.cell (List.mem_append_left _ (pItems_in (show gb X ⟨.slice a1 F.length c1, .slice a2 cs.length c2, .slice a3 G.length c3, .slice none 0 0⟩ ∈ _ by simp))) 2 (by omega)
                go_simp
                refine hKC.out _ _ trivial (fun hHeld => ?_)
                clear hKC KC
                refine wpAnyH_ready (rs := [4]) (by kernel_rfl) (by simp) ?_
                refine AllReadyH.cons rfl (fun KC hKC => ?_) AllReadyH.nil
                go_simp
                have D3 : Hid (Bt w (U1.alloc (.cells #[.slice e1 f.params.length e2, .int .i64 f.result, .slice e3 f.locals.length e4, .slice e5 f.code.length e6] 64)) (pItems ⟨.slice a1 F.length c1, .slice a2 cs.length c2, .slice a3 G.length c3, .slice none 0 0⟩ F cs G [] [gb w.heap.size (⟨.slice none 0 0, .slice none 0 0, .slice none 0 0, .slice none 0 0⟩ : VP), gb X ⟨.slice a1 F.length c1, .slice a2 cs.length c2, .slice a3 G.length c3, .slice none 0 0⟩] ++ fItem (f, (⟨.slice e1 f.params.length e2, .slice e3 f.locals.length e4, .slice e5 f.code.length e6⟩ : VF))) B I L a c zs t2 d2) := D1.out.keep (below_alloc _ _)
                have O3 : Hid ((U1.alloc (.cells #[.slice e1 f.params.length e2, .int .i64 f.result, .slice e3 f.locals.length e4, .slice e5 f.code.length e6] 64)).ownsRow w.heap.size 64 4 (.slice a3 G.length c3) G.length (G.flatMap fCells)) := D3.out.sep.own (fHead (.slice a3 G.length c3) G) (by simp [pItems])
                have q3 : (U1.alloc (.cells #[.slice e1 f.params.length e2, .int .i64 f.result, .slice e3 f.locals.length e4, .slice e5 f.code.length e6] 64)).cell? ⟨X, 2, none⟩ = some (.slice a3 G.length c3) := D3.out.cell (List.mem_append_left _ (pItems_in (show gb X ⟨.slice a1 F.length c1, .slice a2 cs.length c2, .slice a3 G.length c3, .slice none 0 0⟩ ∈ _ by simp))) 2 (by omega)
                have hs3 := D3.out.size
                refine hKC.out _ _ trivial (fun hHeld => ?_)
                clear hKC KC
                refine wpAnyH_ready (rs := [5]) (by kernel_rfl) (by simp) ?_
                refine AllReadyH.cons rfl (fun KC hKC => ?_) AllReadyH.nil
                refine step_append_lies _ rfl (.tmp 63) (.tmp 66) 25 rfl w.heap.size 64 iF (.agg #[.slice none 0 0, .int .i64 0, .slice none 0 0, .slice none 0 0]) 4 80 Tryz.underlying25 hiF hF0 hF1 hF2 rfl (by decide) (.slice a3 G.length c3) G.length (G.flatMap fCells) (by simp [Act.eval]) O3.out ⟨U1.heap.size, 0, none⟩ 1 1 [.slice e1 f.params.length e2, .int .i64 f.result, .slice e3 f.locals.length e4, .slice e5 f.code.length e6] (by simp [Act.eval]) rfl (lit_at U1 [.slice e1 f.params.length e2, .int .i64 f.result, .slice e3 f.locals.length e4, .slice e5 f.code.length e6] 64) (by intro u hu; simp at hu; rcases hu with rfl | rfl | rfl | rfl <;> rfl) (by omega) (by unfold maxLen; omega) (by omega) hs3 _ rfl ?_
                intro gg cap u8 hown hgrow hat _
                have D4 : Hid (Bt w u8 (pItems ⟨.slice a1 F.length c1, .slice a2 cs.length c2, .slice (some ⟨gg, 0, none⟩) (G.length + 1) cap, .slice none 0 0⟩ F cs (G ++ [(f, (⟨.slice e1 f.params.length e2, .slice e3 f.locals.length e4, .slice e5 f.code.length e6⟩ : VF))]) [] [gb w.heap.size (⟨.slice none 0 0, .slice none 0 0, .slice none 0 0, .slice none 0 0⟩ : VP), gb X ⟨.slice a1 F.length c1, .slice a2 cs.length c2, .slice a3 G.length c3, .slice none 0 0⟩]) B I L a c zs t2 d2) := D3.out.push_f (.slice (some ⟨gg, 0, none⟩) (G.length + 1) cap) hown hgrow (hat_of hat)
                have y0 : u8.cell? ⟨X, 2, none⟩ = some (.slice a3 G.length c3) := D4.out.cell (pItems_in (show gb X ⟨.slice a1 F.length c1, .slice a2 cs.length c2, .slice a3 G.length c3, .slice none 0 0⟩ ∈ _ by simp)) 2 (by omega)
                have y1 : u8.frozen? ⟨X, 2, none⟩ = false := D4.out.frozen (pItems_in (show gb X ⟨.slice a1 F.length c1, .slice a2 cs.length c2, .slice a3 G.length c3, .slice none 0 0⟩ ∈ _ by simp)) 2
                clear hown hgrow hat O3 D3 D1
                refine hKC.out _ _ trivial (fun hHeld => ?_)
                clear hKC KC
                refine wpAnyH_take (i := 6) (v := ?_) rfl (by kernel_rfl) (by kernel_rfl) (by kernel_rfl) (fun _ _ _ h => h) (Or.inl ⟨by rfl, ?_⟩) (by assumption) ?_
                rotate_left
                · (intro w hSw; (try dsimp only at hSw); go_simp; (try with_reducible rfl))
                refine wpAnyH_ready (rs := [7]) (by kernel_rfl) (by simp) ?_
                refine AllReadyH.cons rfl (fun KC hKC => ?_) AllReadyH.nil
                go_simp
                refine hKC.out _ _ trivial (fun hHeld => ?_)
                clear hKC KC
                refine wpAnyH_done (by kernel_rfl) ?_ _
                have S5 : Hid (Reads' (manyR (funcR zs) (q + 1)) kC bC ((G ++ [(f, (⟨.slice e1 f.params.length e2, .slice e3 f.locals.length e4, .slice e5 f.code.length e6⟩ : VF))]).map Prod.fst) t2 d2) := by have := HR.out.next S2.out; simpa [Hid] using this
                have D5 : Hid (Bt w (u8.setCell ⟨X, 2, none⟩ (.slice (some ⟨gg, 0, none⟩) (G.length + 1) cap)) (pItems ⟨.slice a1 F.length c1, .slice a2 cs.length c2, .slice (some ⟨gg, 0, none⟩) (G.length + 1) cap, .slice none 0 0⟩ F cs (G ++ [(f, (⟨.slice e1 f.params.length e2, .slice e3 f.locals.length e4, .slice e5 f.code.length e6⟩ : VF))]) [] [gb w.heap.size (⟨.slice none 0 0, .slice none 0 0, .slice none 0 0, .slice none 0 0⟩ : VP), gb X ⟨.slice a1 F.length c1, .slice a2 cs.length c2, .slice (some ⟨gg, 0, none⟩) (G.length + 1) cap, .slice none 0 0⟩]) B I L a c zs t2 d2) := D4.out.setp (D := [gb w.heap.size (⟨.slice none 0 0, .slice none 0 0, .slice none 0 0, .slice none 0 0⟩ : VP)]) 2 (by omega) (.slice (some ⟨gg, 0, none⟩) (G.length + 1) cap)
                generalize u8.setCell ⟨X, 2, none⟩ (.slice (some ⟨gg, 0, none⟩) (G.length + 1) cap) = W5 at D5 ⊢
                clear D4 HR S2 y0 y1 q0 q1 q3
                go_wp2
                refine ⟨⟨q + 1, (G ++ [(f, (⟨.slice e1 f.params.length e2, .slice e3 f.locals.length e4, .slice e5 f.code.length e6⟩ : VF))]), t2, d2, some ⟨gg, 0, none⟩, cap, by go_num, by omega, ?_⟩, by simp [intOf]; omega⟩
                have el : (G ++ [(f, (⟨.slice e1 f.params.length e2, .slice e3 f.locals.length e4, .slice e5 f.code.length e6⟩ : VF))]).length = G.length + 1 := by simp
                refine ⟨by rw [el, HL.out], S5.out, ?_⟩
                rw [el]
                exact D5.out
              focus
                go_simp
                refine (l3GetFunc_any B I L a c zs ke false UD D0.out.got.at_).mono ?_
                rintro e U1 ⟨f, vf, t2, d2, rfl, s2, r2, g2⟩
                obtain ⟨vp, vl, vc⟩ := vf
                obtain ⟨e1, e2, h1⟩ : ∃ a c, vp = .slice a f.params.length c := own_sl (s2.own (iRow vp f.params) (by simp [fItem]))
                obtain ⟨e3, e4, h2⟩ : ∃ a c, vl = .slice a f.locals.length c := own_sl (s2.own (iRow vl f.locals) (by simp [fItem]))
                obtain ⟨e5, e6, h3⟩ : ∃ a c, vc = .slice a f.code.length c := own_sl (s2.own (nRow vc f.code) (by simp [fItem]))
                subst h1 h2 h3
                have D1 : Hid (Bt w U1 (pItems ⟨.slice a1 F.length c1, .slice a2 cs.length c2, .slice a3 G.length c3, .slice none 0 0⟩ F cs G [] [gb w.heap.size (⟨.slice none 0 0, .slice none 0 0, .slice none 0 0, .slice none 0 0⟩ : VP), gb X ⟨.slice a1 F.length c1, .slice a2 cs.length c2, .slice a3 G.length c3, .slice none 0 0⟩] ++ fItem (f, (⟨.slice e1 f.params.length e2, .slice e3 f.locals.length e4, .slice e5 f.code.length e6⟩ : VF))) B I L a c zs t2 d2) := D0.out.rows g2 s2
                have S2 : Hid (Reads' (funcR zs) ke false f t2 d2) := r2
                clear r2 g2 s2 D0
                have q1 : U1.cell? ⟨X, 2, none⟩ = some (.slice a3 G.length c3) := D1.out.cell (List.mem_append_left _ (pItems_in (show gb X ⟨.slice a1 F.length c1, .slice a2 cs.length c2, .slice a3 G.length c3, .slice none 0 0⟩ ∈ _ by simp))) 2 (by omega)
                go_simp
                refine hKC.out _ _ trivial (fun hHeld => ?_)
                clear hKC KC
                refine wpAnyH_ready (rs := [1, 4]) (by kernel_rfl) (by simp) ?_
                refine AllReadyH.cons rfl (fun KC hKC => ?_) (AllReadyH.cons rfl (fun KC hKC => ?_) AllReadyH.nil)
                focus
                  go_simp
                  refine hKC.out _ _ trivial (fun hHeld => ?_)
                  clear hKC KC
                  refine wpAnyH_ready (rs := [4]) (by kernel_rfl) (by simp) ?_
                  refine AllReadyH.cons rfl (fun KC hKC => ?_) AllReadyH.nil
                  go_simp
                  have D3 : Hid (Bt w (U1.alloc (.cells #[.slice e1 f.params.length e2, .int .i64 f.result, .slice e3 f.locals.length e4, .slice e5 f.code.length e6] 64)) (pItems ⟨.slice a1 F.length c1, .slice a2 cs.length c2, .slice a3 G.length c3, .slice none 0 0⟩ F cs G [] [gb w.heap.size (⟨.slice none 0 0, .slice none 0 0, .slice none 0 0, .slice none 0 0⟩ : VP), gb X ⟨.slice a1 F.length c1, .slice a2 cs.length c2, .slice a3 G.length c3, .slice none 0 0⟩] ++ fItem (f, (⟨.slice e1 f.params.length e2, .slice e3 f.locals.length e4, .slice e5 f.code.length e6⟩ : VF))) B I L a c zs t2 d2) := D1.out.keep (below_alloc _ _)
                  have O3 : Hid ((U1.alloc (.cells #[.slice e1 f.params.length e2, .int .i64 f.result, .slice e3 f.locals.length e4, .slice e5 f.code.length e6] 64)).ownsRow w.heap.size 64 4 (.slice a3 G.length c3) G.length (G.flatMap fCells)) := D3.out.sep.own (fHead (.slice a3 G.length c3) G) (by simp [pItems])
                  have q3 : (U1.alloc (.cells #[.slice e1 f.params.length e2, .int .i64 f.result, .slice e3 f.locals.length e4, .slice e5 f.code.length e6] 64)).cell? ⟨X, 2, none⟩ = some (.slice a3 G.length c3) := D3.out.cell (List.mem_append_left _ (pItems_in (show gb X ⟨.slice a1 F.length c1, .slice a2 cs.length c2, .slice a3 G.length c3, .slice none 0 0⟩ ∈ _ by simp))) 2 (by omega)
                  have hs3 := D3.out.size
                  refine hKC.out _ _ trivial (fun hHeld => ?_)
                  clear hKC KC
                  refine wpAnyH_ready (rs := [5]) (by kernel_rfl) (by simp) ?_
                  refine AllReadyH.cons rfl (fun KC hKC => ?_) AllReadyH.nil
                  refine step_append_lies _ rfl (.tmp 63) (.tmp 66) 25 rfl w.heap.size 64 iF (.agg #[.slice none 0 0, .int .i64 0, .slice none 0 0, .slice none 0 0]) 4 80 Tryz.underlying25 hiF hF0 hF1 hF2 rfl (by decide) (.slice a3 G.length c3) G.length (G.flatMap fCells) (by simp [Act.eval]) O3.out ⟨U1.heap.size, 0, none⟩ 1 1 [.slice e1 f.params.length e2, .int .i64 f.result, .slice e3 f.locals.length e4, .slice e5 f.code.length e6] (by simp [Act.eval]) rfl (lit_at U1 [.slice e1 f.params.length e2, .int .i64 f.result, .slice e3 f.locals.length e4, .slice e5 f.code.length e6] 64) (by intro u hu; simp at hu; rcases hu with rfl | rfl | rfl | rfl <;> rfl) (by omega) (by unfold maxLen; omega) (by omega) hs3 _ rfl ?_
                  intro gg cap u8 hown hgrow hat _
                  have D4 : Hid (Bt w u8 (pItems ⟨.slice a1 F.length c1, .slice a2 cs.length c2, .slice (some ⟨gg, 0, none⟩) (G.length + 1) cap, .slice none 0 0⟩ F cs (G ++ [(f, (⟨.slice e1 f.params.length e2, .slice e3 f.locals.length e4, .slice e5 f.code.length e6⟩ : VF))]) [] [gb w.heap.size (⟨.slice none 0 0, .slice none 0 0, .slice none 0 0, .slice none 0 0⟩ : VP), gb X ⟨.slice a1 F.length c1, .slice a2 cs.length c2, .slice a3 G.length c3, .slice none 0 0⟩]) B I L a c zs t2 d2) := D3.out.push_f (.slice (some ⟨gg, 0, none⟩) (G.length + 1) cap) hown hgrow (hat_of hat)
                  have y0 : u8.cell? ⟨X, 2, none⟩ = some (.slice a3 G.length c3) := D4.out.cell (pItems_in (show gb X ⟨.slice a1 F.length c1, .slice a2 cs.length c2, .slice a3 G.length c3, .slice none 0 0⟩ ∈ _ by simp)) 2 (by omega)
                  have y1 : u8.frozen? ⟨X, 2, none⟩ = false := D4.out.frozen (pItems_in (show gb X ⟨.slice a1 F.length c1, .slice a2 cs.length c2, .slice a3 G.length c3, .slice none 0 0⟩ ∈ _ by simp)) 2
                  clear hown hgrow hat O3 D3 D1
                  refine hKC.out _ _ trivial (fun hHeld => ?_)
                  clear hKC KC
                  refine wpAnyH_take (i := 6) (v := ?_) rfl (by kernel_rfl) (by kernel_rfl) (by kernel_rfl) (fun _ _ _ h => h) (Or.inl ⟨by rfl, ?_⟩) (by assumption) ?_
                  rotate_left
                  · (intro w hSw; (try dsimp only at hSw); go_simp; (try with_reducible rfl))
                  refine wpAnyH_ready (rs := [7]) (by kernel_rfl) (by simp) ?_
                  refine AllReadyH.cons rfl (fun KC hKC => ?_) AllReadyH.nil
                  go_simp
                  refine hKC.out _ _ trivial (fun hHeld => ?_)
                  clear hKC KC
                  refine wpAnyH_done (by kernel_rfl) ?_ _
                  have S5 : Hid (Reads' (manyR (funcR zs) (q + 1)) kC bC ((G ++ [(f, (⟨.slice e1 f.params.length e2, .slice e3 f.locals.length e4, .slice e5 f.code.length e6⟩ : VF))]).map Prod.fst) t2 d2) := by have := HR.out.next S2.out; simpa [Hid] using this
                  have D5 : Hid (Bt w (u8.setCell ⟨X, 2, none⟩ (.slice (some ⟨gg, 0, none⟩) (G.length + 1) cap)) (pItems ⟨.slice a1 F.length c1, .slice a2 cs.length c2, .slice (some ⟨gg, 0, none⟩) (G.length + 1) cap, .slice none 0 0⟩ F cs (G ++ [(f, (⟨.slice e1 f.params.length e2, .slice e3 f.locals.length e4, .slice e5 f.code.length e6⟩ : VF))]) [] [gb w.heap.size (⟨.slice none 0 0, .slice none 0 0, .slice none 0 0, .slice none 0 0⟩ : VP), gb X ⟨.slice a1 F.length c1, .slice a2 cs.length c2, .slice (some ⟨gg, 0, none⟩) (G.length + 1) cap, .slice none 0 0⟩]) B I L a c zs t2 d2) := D4.out.setp (D := [gb w.heap.size (⟨.slice none 0 0, .slice none 0 0, .slice none 0 0, .slice none 0 0⟩ : VP)]) 2 (by omega) (.slice (some ⟨gg, 0, none⟩) (G.length + 1) cap)
                  generalize u8.setCell ⟨X, 2, none⟩ (.slice (some ⟨gg, 0, none⟩) (G.length + 1) cap) = W5 at D5 ⊢
                  clear D4 HR S2 y0 y1 q0 q1 q3
                  go_wp2
                  refine ⟨⟨q + 1, (G ++ [(f, (⟨.slice e1 f.params.length e2, .slice e3 f.locals.length e4, .slice e5 f.code.length e6⟩ : VF))]), t2, d2, some ⟨gg, 0, none⟩, cap, by go_num, by omega, ?_⟩, by simp [intOf]; omega⟩
                  have el : (G ++ [(f, (⟨.slice e1 f.params.length e2, .slice e3 f.locals.length e4, .slice e5 f.code.length e6⟩ : VF))]).length = G.length + 1 := by simp
                  refine ⟨by rw [el, HL.out], S5.out, ?_⟩
                  rw [el]
                  exact D5.out
                focus
                  go_simp
                  have D3 : Hid (Bt w (U1.alloc (.cells #[.slice e1 f.params.length e2, .int .i64 f.result, .slice e3 f.locals.length e4, .slice e5 f.code.length e6] 64)) (pItems ⟨.slice a1 F.length c1, .slice a2 cs.length c2, .slice a3 G.length c3, .slice none 0 0⟩ F cs G [] [gb w.heap.size (⟨.slice none 0 0, .slice none 0 0, .slice none 0 0, .slice none 0 0⟩ : VP), gb X ⟨.slice a1 F.length c1, .slice a2 cs.length c2, .slice a3 G.length c3, .slice none 0 0⟩] ++ fItem (f, (⟨.slice e1 f.params.length e2, .slice e3 f.locals.length e4, .slice e5 f.code.length e6⟩ : VF))) B I L a c zs t2 d2) := D1.out.keep (below_alloc _ _)
                  have O3 : Hid ((U1.alloc (.cells #[.slice e1 f.params.length e2, .int .i64 f.result, .slice e3 f.locals.length e4, .slice e5 f.code.length e6] 64)).ownsRow w.heap.size 64 4 (.slice a3 G.length c3) G.length (G.flatMap fCells)) := D3.out.sep.own (fHead (.slice a3 G.length c3) G) (by simp [pItems])
                  have q3 : (U1.alloc (.cells #[.slice e1 f.params.length e2, .int .i64 f.result, .slice e3 f.locals.length e4, .slice e5 f.code.length e6] 64)).cell? ⟨X, 2, none⟩ = some (.slice a3 G.length c3) := D3.out.cell (List.mem_append_left _ (pItems_in (show gb X ⟨.slice a1 F.length c1, .slice a2 cs.length c2, .slice a3 G.length c3, .slice none 0 0⟩ ∈ _ by simp))) 2 (by omega)
                  have hs3 := D3.out.size
                  refine hKC.out _ _ trivial (fun hHeld => ?_)
                  clear hKC KC
                  refine wpAnyH_ready (rs := [1]) (by kernel_rfl) (by simp) ?_
                  refine AllReadyH.cons rfl (fun KC hKC => ?_) AllReadyH.nil
                  go_simp
                  refine hKC.out _ _ trivial (fun hHeld => ?_)
                  clear hKC KC
                  refine wpAnyH_ready (rs := [5]) (by kernel_rfl) (by simp) ?_
                  refine AllReadyH.cons rfl (fun KC hKC => ?_) AllReadyH.nil
                  refine step_append_lies _ rfl (.tmp 63) (.tmp 66) 25 rfl w.heap.size 64 iF (.agg #[.slice none 0 0, .int .i64 0, .slice none 0 0, .slice none 0 0]) 4 80 Tryz.underlying25 hiF hF0 hF1 hF2 rfl (by decide) (.slice a3 G.length c3) G.length (G.flatMap fCells) (by simp [Act.eval]) O3.out ⟨U1.heap.size, 0, none⟩ 1 1 [.slice e1 f.params.length e2, .int .i64 f.result, .slice e3 f.locals.length e4, .slice e5 f.code.length e6] (by simp [Act.eval]) rfl (lit_at U1 [.slice e1 f.params.length e2, .int .i64 f.result, .slice e3 f.locals.length e4, .slice e5 f.code.length e6] 64) (by intro u hu; simp at hu; rcases hu with rfl | rfl | rfl | rfl <;> rfl) (by omega) (by unfold maxLen; omega) (by omega) hs3 _ rfl ?_
                  intro gg cap u8 hown hgrow hat _
                  have D4 : Hid (Bt w u8 (pItems ⟨.slice a1 F.length c1, .slice a2 cs.length c2, .slice (some ⟨gg, 0, none⟩) (G.length + 1) cap, .slice none 0 0⟩ F cs (G ++ [(f, (⟨.slice e1 f.params.length e2, .slice e3 f.locals.length e4, .slice e5 f.code.length e6⟩ : VF))]) [] [gb w.heap.size (⟨.slice none 0 0, .slice none 0 0, .slice none 0 0, .slice none 0 0⟩ : VP), gb X ⟨.slice a1 F.length c1, .slice a2 cs.length c2, .slice a3 G.length c3, .slice none 0 0⟩]) B I L a c zs t2 d2) := D3.out.push_f (.slice (some ⟨gg, 0, none⟩) (G.length + 1) cap) hown hgrow (hat_of hat)
                  have y0 : u8.cell? ⟨X, 2, none⟩ = some (.slice a3 G.length c3) := D4.out.cell (pItems_in (show gb X ⟨.slice a1 F.length c1, .slice a2 cs.length c2, .slice a3 G.length c3, .slice none 0 0⟩ ∈ _ by simp)) 2 (by omega)
                  have y1 : u8.frozen? ⟨X, 2, none⟩ = false := D4.out.frozen (pItems_in (show gb X ⟨.slice a1 F.length c1, .slice a2 cs.length c2, .slice a3 G.length c3, .slice none 0 0⟩ ∈ _ by simp)) 2
                  clear hown hgrow hat O3 D3 D1
                  refine hKC.out _ _ trivial (fun hHeld => ?_)
                  clear hKC KC
                  refine wpAnyH_take (i := 6) (v := ?_) rfl (by kernel_rfl) (by kernel_rfl) (by kernel_rfl) (fun _ _ _ h => h) (Or.inl ⟨by rfl, ?_⟩) (by assumption) ?_
                  rotate_left
                  · (intro w hSw; (try dsimp only at hSw); go_simp; (try with_reducible rfl))
                  refine wpAnyH_ready (rs := [7]) (by kernel_rfl) (by simp) ?_
                  refine AllReadyH.cons rfl (fun KC hKC => ?_) AllReadyH.nil
                  go_simp
                  refine hKC.out _ _ trivial (fun hHeld => ?_)
                  clear hKC KC
                  refine wpAnyH_done (by kernel_rfl) ?_ _
                  have S5 : Hid (Reads' (manyR (funcR zs) (q + 1)) kC bC ((G ++ [(f, (⟨.slice e1 f.params.length e2, .slice e3 f.locals.length e4, .slice e5 f.code.length e6⟩ : VF))]).map Prod.fst) t2 d2) := by have := HR.out.next S2.out; simpa [Hid] using this
                  have D5 : Hid (Bt w (u8.setCell ⟨X, 2, none⟩ (.slice (some ⟨gg, 0, none⟩) (G.length + 1) cap)) (pItems ⟨.slice a1 F.length c1, .slice a2 cs.length c2, .slice (some ⟨gg, 0, none⟩) (G.length + 1) cap, .slice none 0 0⟩ F cs (G ++ [(f, (⟨.slice e1 f.params.length e2, .slice e3 f.locals.length e4, .slice e5 f.code.length e6⟩ : VF))]) [] [gb w.heap.size (⟨.slice none 0 0, .slice none 0 0, .slice none 0 0, .slice none 0 0⟩ : VP), gb X ⟨.slice a1 F.length c1, .slice a2 cs.length c2, .slice (some ⟨gg, 0, none⟩) (G.length + 1) cap, .slice none 0 0⟩]) B I L a c zs t2 d2) := D4.out.setp (D := [gb w.heap.size (⟨.slice none 0 0, .slice none 0 0, .slice none 0 0, .slice none 0 0⟩ : VP)]) 2 (by omega) (.slice (some ⟨gg, 0, none⟩) (G.length + 1) cap)
                  generalize u8.setCell ⟨X, 2, none⟩ (.slice (some ⟨gg, 0, none⟩) (G.length + 1) cap) = W5 at D5 ⊢
                  clear D4 HR S2 y0 y1 q0 q1 q3
                  go_wp2
                  refine ⟨⟨q + 1, (G ++ [(f, (⟨.slice e1 f.params.length e2, .slice e3 f.locals.length e4, .slice e5 f.code.length e6⟩ : VF))]), t2, d2, some ⟨gg, 0, none⟩, cap, by go_num, by omega, ?_⟩, by simp [intOf]; omega⟩
                  have el : (G ++ [(f, (⟨.slice e1 f.params.length e2, .slice e3 f.locals.length e4, .slice e5 f.code.length e6⟩ : VF))]).length = G.length + 1 := by simp
                  refine ⟨by rw [el, HL.out], S5.out, ?_⟩
                  rw [el]
                  exact D5.out
            · go_wp2_with fail
              go_meet
              exact ⟨G, ke, true, a3, c3, HR.out.upto hq, HB.out⟩
          · have HR2 : Hid (Reads' (manyR (funcR zs) mC) kC bC (G.map Prod.fst) ke be) := by have := HR.out; rwa [show q = mC by omega] at this
            go_wp2_with fail
            all_goals
              go_meet
              exact ⟨G, ke, be, a3, c3, HR2.out, HB.out⟩
      case rest =>
      obtain ⟨G, kC2, bC2, a3, c3, HQ⟩ := hcut
      have HB : Hid (Bt w wc (pItems ⟨.slice a1 F.length c1, .slice a2 cs.length c2, .slice a3 G.length c3, .slice none 0 0⟩ F cs G [] [gb w.heap.size (⟨.slice none 0 0, .slice none 0 0, .slice none 0 0, .slice none 0 0⟩ : VP), gb X ⟨.slice a1 F.length c1, .slice a2 cs.length c2, .slice a3 G.length c3, .slice none 0 0⟩]) B I L a c zs kC2 bC2) := HQ.out.2
      have RRC : Hid (Reads' (manyR (funcR zs) mC) kC bC (G.map Prod.fst) kC2 bC2) := HQ.out.1
      clear HQ DC
      go_wp2_with fail
      refine (l3Get_any B I L a c zs 2 kC2 bC2 _ (by omega) (by omega) HB.out.got.at_).mono ?_
      rintro e UE ⟨nE, kE, bE, rfl, zE, rE, gE⟩
      have DE : Hid (Bt w UE (pItems ⟨.slice a1 F.length c1, .slice a2 cs.length c2, .slice a3 G.length c3, .slice none 0 0⟩ F cs G [] [gb w.heap.size (⟨.slice none 0 0, .slice none 0 0, .slice none 0 0, .slice none 0 0⟩ : VP), gb X ⟨.slice a1 F.length c1, .slice a2 cs.length c2, .slice a3 G.length c3, .slice none 0 0⟩]) B I L a c zs kE bE) := HB.out.read gE
      have RE : Hid (Reads' (numR zs 2) kC2 bC2 nE kE bE) := rE
      obtain ⟨nEa, nEb⟩ := num_bd HZ.out (by omega) rE zE
      clear zE rE gE HB
      obtain ⟨mE, rfl⟩ := Int.eq_ofNat_of_zero_le nEa
      have hE16 : mE < 65536 := by omega
      go_upto_block 6 with fail
      go_cut [] (fun wx => ∃ (ts : List MT) (ke : Nat) (be : Bool) (a4 : Option Addr) (c4 : Nat), Hid (Reads' (manyR (certR zs) mE) kE bE ts ke be ∧ Bt w wx (pItems ⟨.slice a1 F.length c1, .slice a2 cs.length c2, .slice a3 G.length c3, .slice a4 ts.length c4⟩ F cs G ts [gb w.heap.size (⟨.slice none 0 0, .slice none 0 0, .slice none 0 0, .slice none 0 0⟩ : VP), gb X ⟨.slice a1 F.length c1, .slice a2 cs.length c2, .slice a3 G.length c3, .slice a4 ts.length c4⟩]) B I L a c zs ke be))
      case first =>
        go_wp2_with fail
        go_loopw [8] (fun kv wr => ∃ (q : Nat) (ts : List MT) (ke : Nat) (be : Bool) (a4 : Option Addr) (c4 : Nat), kv = .int .i64 ((mE : Int) - (q : Int)) ∧ q ≤ mE ∧ Hid (ts.length = q ∧ Reads' (manyR (certR zs) q) kE bE ts ke be ∧ Bt w wr (pItems ⟨.slice a1 F.length c1, .slice a2 cs.length c2, .slice a3 G.length c3, .slice a4 ts.length c4⟩ F cs G ts [gb w.heap.size (⟨.slice none 0 0, .slice none 0 0, .slice none 0 0, .slice none 0 0⟩ : VP), gb X ⟨.slice a1 F.length c1, .slice a2 cs.length c2, .slice a3 G.length c3, .slice a4 ts.length c4⟩]) B I L a c zs ke be)) (fun kv _ => (intOf kv).toNat)
        case atStart =>
          exact ⟨0, [], kE, bE, none, 0, by simp, by omega, rfl, Reads'.give _ _ _, DE.out⟩
        case round =>
          clear DE
          obtain ⟨q, ts, ke, be, a4, c4, rfl, hq, HM⟩ := hrel
          have HL : Hid (ts.length = q) := HM.out.1
          have hlb : ts.length ≤ 65535 := by rw [HL.out]; omega
          have HB : Hid (Bt w wr (pItems ⟨.slice a1 F.length c1, .slice a2 cs.length c2, .slice a3 G.length c3, .slice a4 ts.length c4⟩ F cs G ts [gb w.heap.size (⟨.slice none 0 0, .slice none 0 0, .slice none 0 0, .slice none 0 0⟩ : VP), gb X ⟨.slice a1 F.length c1, .slice a2 cs.length c2, .slice a3 G.length c3, .slice a4 ts.length c4⟩]) B I L a c zs ke be) := HM.out.2.2
          have HR : Hid (Reads' (manyR (certR zs) q) kE bE ts ke be) := HM.out.2.1
          clear HM
          obtain ⟨w0, w1, w2⟩ := three_cells HB.out.got.at_.blk
          by_cases hlt : q < mE
          · cases be
            · skip
              go_wp2_with fail
              refine (l3Get_any B I L a c zs 2 ke false _ (by omega) (by omega) HB.out.got.at_).mono ?_
              rintro e v1 ⟨o1, t1, d1, rfl, z1, r1, g1⟩
              have M1 : Hid (Bt w v1 (pItems ⟨.slice a1 F.length c1, .slice a2 cs.length c2, .slice a3 G.length c3, .slice a4 ts.length c4⟩ F cs G ts [gb w.heap.size (⟨.slice none 0 0, .slice none 0 0, .slice none 0 0, .slice none 0 0⟩ : VP), gb X ⟨.slice a1 F.length c1, .slice a2 cs.length c2, .slice a3 G.length c3, .slice a4 ts.length c4⟩]) B I L a c zs t1 d1) := HB.out.read g1
              have S1 : Hid (Reads' (numR zs 2) ke false o1 t1 d1) := r1
              have S0 : Hid (Reads' (manyR (certR zs) q) kE bE ts ke false) := HR.out
              clear z1 r1 g1 HB HR w0 w1 w2
              go_upto_region 19 with fail
              refine wp_world (fun u => Hid (Bt w u (pItems ⟨.slice a1 F.length c1, .slice a2 cs.length c2, .slice a3 G.length c3, .slice a4 ts.length c4⟩ F cs G ts [gb w.heap.size (⟨.slice none 0 0, .slice none 0 0, .slice none 0 0, .slice none 0 0⟩ : VP), gb X ⟨.slice a1 F.length c1, .slice a2 cs.length c2, .slice a3 G.length c3, .slice a4 ts.length c4⟩, bRow v1.heap.size 67 4 [.int .i64 o1, .int .i64 0, .int .i64 0, .int .u32 0]]) B I L a c zs t1 d1)) (by have := M1.out.box 67 4 [.int .i64 o1, .int .i64 0, .int .i64 0, .int .u32 0] rfl; rw [← pItems_app] at this; exact this) ?_
              clear M1
              generalize v1.heap.size = Y
              intro y1 N1
              go_wp2_with fail
              refine (l3Get_any B I L a c zs 2 t1 d1 _ (by omega) (by omega) N1.out.got.at_).mono ?_
              rintro e v2 ⟨o2, t2, d2, rfl, z2, r2, g2⟩
              have M2 : Hid (Bt w v2 (pItems ⟨.slice a1 F.length c1, .slice a2 cs.length c2, .slice a3 G.length c3, .slice a4 ts.length c4⟩ F cs G ts [gb w.heap.size (⟨.slice none 0 0, .slice none 0 0, .slice none 0 0, .slice none 0 0⟩ : VP), gb X ⟨.slice a1 F.length c1, .slice a2 cs.length c2, .slice a3 G.length c3, .slice a4 ts.length c4⟩, bRow Y 67 4 [.int .i64 o1, .int .i64 0, .int .i64 0, .int .u32 0]]) B I L a c zs t2 d2) := N1.out.read g2
              have S2 : Hid (Reads' (numR zs 2) t1 d1 o2 t2 d2) := r2
              clear z2 r2 g2 N1
              obtain ⟨⟨-, q1, -, -⟩, -, f1, -, -⟩ := M2.out.four (pItems_in (show bRow Y 67 4 [.int .i64 o1, .int .i64 0, .int .i64 0, .int .u32 0] ∈ _ by simp))
              go_upto_region 20 with fail
              refine wp_world (fun u => Hid (Bt w u (pItems ⟨.slice a1 F.length c1, .slice a2 cs.length c2, .slice a3 G.length c3, .slice a4 ts.length c4⟩ F cs G ts [gb w.heap.size (⟨.slice none 0 0, .slice none 0 0, .slice none 0 0, .slice none 0 0⟩ : VP), gb X ⟨.slice a1 F.length c1, .slice a2 cs.length c2, .slice a3 G.length c3, .slice a4 ts.length c4⟩, bRow Y 67 4 [.int .i64 o1, .int .i64 o2, .int .i64 0, .int .u32 0]]) B I L a c zs t2 d2)) (M2.out.setp (D := [gb w.heap.size (⟨.slice none 0 0, .slice none 0 0, .slice none 0 0, .slice none 0 0⟩ : VP), gb X ⟨.slice a1 F.length c1, .slice a2 cs.length c2, .slice a3 G.length c3, .slice a4 ts.length c4⟩]) 1 (by omega) (.int .i64 o2)) ?_
              clear M2 q1 f1
              intro y2 N2
              go_wp2_with fail
              refine (l3Get_any B I L a c zs 1 t2 d2 _ (by omega) (by omega) N2.out.got.at_).mono ?_
              rintro e v3 ⟨o3, t3, d3, rfl, z3, r3, g3⟩
              have M3 : Hid (Bt w v3 (pItems ⟨.slice a1 F.length c1, .slice a2 cs.length c2, .slice a3 G.length c3, .slice a4 ts.length c4⟩ F cs G ts [gb w.heap.size (⟨.slice none 0 0, .slice none 0 0, .slice none 0 0, .slice none 0 0⟩ : VP), gb X ⟨.slice a1 F.length c1, .slice a2 cs.length c2, .slice a3 G.length c3, .slice a4 ts.length c4⟩, bRow Y 67 4 [.int .i64 o1, .int .i64 o2, .int .i64 0, .int .u32 0]]) B I L a c zs t3 d3) := N2.out.read g3
              have S3 : Hid (Reads' (numR zs 1) t2 d2 o3 t3 d3) := r3
              clear z3 r3 g3 N2
              obtain ⟨⟨-, -, q1, -⟩, -, -, f1, -⟩ := M3.out.four (pItems_in (show bRow Y 67 4 [.int .i64 o1, .int .i64 o2, .int .i64 0, .int .u32 0] ∈ _ by simp))
              go_upto_region 21 with fail
              refine wp_world (fun u => Hid (Bt w u (pItems ⟨.slice a1 F.length c1, .slice a2 cs.length c2, .slice a3 G.length c3, .slice a4 ts.length c4⟩ F cs G ts [gb w.heap.size (⟨.slice none 0 0, .slice none 0 0, .slice none 0 0, .slice none 0 0⟩ : VP), gb X ⟨.slice a1 F.length c1, .slice a2 cs.length c2, .slice a3 G.length c3, .slice a4 ts.length c4⟩, bRow Y 67 4 [.int .i64 o1, .int .i64 o2, .int .i64 o3, .int .u32 0]]) B I L a c zs t3 d3)) (M3.out.setp (D := [gb w.heap.size (⟨.slice none 0 0, .slice none 0 0, .slice none 0 0, .slice none 0 0⟩ : VP), gb X ⟨.slice a1 F.length c1, .slice a2 cs.length c2, .slice a3 G.length c3, .slice a4 ts.length c4⟩]) 2 (by omega) (.int .i64 o3)) ?_
              clear M3 q1 f1
              intro y3 N3
              go_wp2_with fail
              refine (l3Get_any B I L a c zs 4 t3 d3 _ (by omega) (by omega) N3.out.got.at_).mono ?_
              rintro e v4 ⟨o4, t4, d4, rfl, z4, r4, g4⟩
              have M4 : Hid (Bt w v4 (pItems ⟨.slice a1 F.length c1, .slice a2 cs.length c2, .slice a3 G.length c3, .slice a4 ts.length c4⟩ F cs G ts [gb w.heap.size (⟨.slice none 0 0, .slice none 0 0, .slice none 0 0, .slice none 0 0⟩ : VP), gb X ⟨.slice a1 F.length c1, .slice a2 cs.length c2, .slice a3 G.length c3, .slice a4 ts.length c4⟩, bRow Y 67 4 [.int .i64 o1, .int .i64 o2, .int .i64 o3, .int .u32 0]]) B I L a c zs t4 d4) := N3.out.read g4
              have S4 : Hid (Reads' (numR zs 4) t3 d3 o4 t4 d4) := r4
              obtain ⟨xa, xb⟩ := num_bd HZ.out (by omega) r4 z4
              have hw : IntKind.u32.wrap o4 = o4 := IntWalk.u32_in _ ⟨by omega, by omega⟩
              clear z4 r4 g4 N3
              obtain ⟨⟨-, -, -, q1⟩, -, -, -, f1⟩ := M4.out.four (pItems_in (show bRow Y 67 4 [.int .i64 o1, .int .i64 o2, .int .i64 o3, .int .u32 0] ∈ _ by simp))
              go_upto_region 22 with fail
              refine wp_world (fun u => Hid (Bt w u (pItems ⟨.slice a1 F.length c1, .slice a2 cs.length c2, .slice a3 G.length c3, .slice a4 ts.length c4⟩ F cs G ts [gb w.heap.size (⟨.slice none 0 0, .slice none 0 0, .slice none 0 0, .slice none 0 0⟩ : VP), gb X ⟨.slice a1 F.length c1, .slice a2 cs.length c2, .slice a3 G.length c3, .slice a4 ts.length c4⟩, bRow Y 67 4 [.int .i64 o1, .int .i64 o2, .int .i64 o3, .int .u32 o4]]) B I L a c zs t4 d4)) (M4.out.setp (D := [gb w.heap.size (⟨.slice none 0 0, .slice none 0 0, .slice none 0 0, .slice none 0 0⟩ : VP), gb X ⟨.slice a1 F.length c1, .slice a2 cs.length c2, .slice a3 G.length c3, .slice a4 ts.length c4⟩]) 3 (by omega) (.int .u32 o4)) ?_
              clear M4 q1 f1
              intro y4 N4
              have S5 : Hid (Reads' (manyR (certR zs) (q + 1)) kE bE (ts ++ [(⟨o1, o2, o3, o4⟩ : MT)]) t4 d4) := S0.out.next (S1.out.then (S2.out.then (S3.out.then (S4.out.then (Reads'.give _ _ _)))))
              clear S0 S1 S2 S3 S4
              obtain ⟨⟨x0, x1, x2, x3⟩, -⟩ := N4.out.four (pItems_in (show bRow Y 67 4 [.int .i64 o1, .int .i64 o2, .int .i64 o3, .int .u32 o4] ∈ _ by simp))
              obtain ⟨⟨-, -, -, p3⟩, -⟩ := N4.out.four (pItems_in (show gb X ⟨.slice a1 F.length c1, .slice a2 cs.length c2, .slice a3 G.length c3, .slice a4 ts.length c4⟩ ∈ _ by simp))
              have N5 : Hid (Bt w (y4.alloc (.cells #[.int .i64 o1, .int .i64 o2, .int .i64 o3, .int .u32 o4] 67)) (pItems ⟨.slice a1 F.length c1, .slice a2 cs.length c2, .slice a3 G.length c3, .slice a4 ts.length c4⟩ F cs G ts [gb w.heap.size (⟨.slice none 0 0, .slice none 0 0, .slice none 0 0, .slice none 0 0⟩ : VP), gb X ⟨.slice a1 F.length c1, .slice a2 cs.length c2, .slice a3 G.length c3, .slice a4 ts.length c4⟩, bRow Y 67 4 [.int .i64 o1, .int .i64 o2, .int .i64 o3, .int .u32 o4]]) B I L a c zs t4 d4) := N4.out.keep (below_alloc _ _)
              have O5 : Hid ((y4.alloc (.cells #[.int .i64 o1, .int .i64 o2, .int .i64 o3, .int .u32 o4] 67)).ownsRow w.heap.size 67 4 (.slice a4 ts.length c4) ts.length (ts.flatMap MT.cells)) := N5.out.sep.own (tRow (.slice a4 ts.length c4) ts) (by simp [pItems])
              have hs5 := N5.out.size
              go_wp2_with (at_builtin; refine wpList_append_own_at _ rfl _ _ 26 rfl w.heap.size 67 iT (.agg #[.int .i64 0, .int .i64 0, .int .i64 0, .int .u32 0]) 4 32 Tryz.underlying26 hiT hT0 hT1 hT2 rfl (by decide) _ _ _ rfl O5.out ⟨y4.heap.size, 0, none⟩ 1 1 [.int .i64 o1, .int .i64 o2, .int .i64 o3, .int .u32 o4] rfl rfl (lit_at y4 [.int .i64 o1, .int .i64 o2, .int .i64 o3, .int .u32 o4] 67) (by intro u hu; simp at hu; rcases hu with rfl | rfl | rfl | rfl <;> rfl) (by unfold maxLen; omega) (by omega) hs5 ?_; intro V' u5 ho hgr _ hat; obtain ⟨ac', cc', e5⟩ := own_sl ho; subst e5; have M5 : Hid (Bt w u5 (pItems ⟨.slice a1 F.length c1, .slice a2 cs.length c2, .slice a3 G.length c3, .slice ac' (ts.length + 1) cc'⟩ F cs G (ts ++ [(⟨o1, o2, o3, o4⟩ : MT)]) [gb w.heap.size (⟨.slice none 0 0, .slice none 0 0, .slice none 0 0, .slice none 0 0⟩ : VP), gb X ⟨.slice a1 F.length c1, .slice a2 cs.length c2, .slice a3 G.length c3, .slice a4 ts.length c4⟩, bRow Y 67 4 [.int .i64 o1, .int .i64 o2, .int .i64 o3, .int .u32 o4]]) B I L a c zs t4 d4) := N5.out.push_t ⟨o1, o2, o3, o4⟩ (.slice ac' (ts.length + 1) cc') ho hgr hat; obtain ⟨⟨-, -, -, q1⟩, -, -, -, f1⟩ := M5.out.four (pItems_in (show gb X ⟨.slice a1 F.length c1, .slice a2 cs.length c2, .slice a3 G.length c3, .slice a4 ts.length c4⟩ ∈ _ by simp)); clear ho hgr hat N5 O5 N4)
              refine ⟨⟨q + 1, (ts ++ [(⟨o1, o2, o3, o4⟩ : MT)]), t4, d4, ac', cc', by go_num, by omega, ?_⟩, by simp [intOf]; omega⟩
              have el : (ts ++ [(⟨o1, o2, o3, o4⟩ : MT)]).length = ts.length + 1 := by simp
              refine ⟨by rw [el, HL.out], S5.out, ?_⟩
              rw [el]
              have h6 := M5.out.setp (D := [gb w.heap.size (⟨.slice none 0 0, .slice none 0 0, .slice none 0 0, .slice none 0 0⟩ : VP)]) 3 (by omega) (.slice ac' (ts.length + 1) cc')
              have h7 : Bt w (u5.setCell ⟨X, 3, none⟩ (.slice ac' (ts.length + 1) cc')) (pItems ⟨.slice a1 F.length c1, .slice a2 cs.length c2, .slice a3 G.length c3, .slice ac' (ts.length + 1) cc'⟩ F cs G (ts ++ [(⟨o1, o2, o3, o4⟩ : MT)]) ([gb w.heap.size (⟨.slice none 0 0, .slice none 0 0, .slice none 0 0, .slice none 0 0⟩ : VP), gb X ⟨.slice a1 F.length c1, .slice a2 cs.length c2, .slice a3 G.length c3, .slice ac' (ts.length + 1) cc'⟩] ++ [bRow Y 67 4 [.int .i64 o1, .int .i64 o2, .int .i64 o3, .int .u32 o4]])) B I L a c zs t4 d4 := h6
              rw [pItems_app] at h7
              exact h7.sub (List.sublist_append_left _ _)
            · go_wp2_with fail
              go_meet
              exact ⟨ts, ke, true, a4, c4, HR.out.upto hq, HB.out⟩
          · have HR2 : Hid (Reads' (manyR (certR zs) mE) kE bE ts ke be) := by have := HR.out; rwa [show q = mE by omega] at this
            go_wp2_with fail
            all_goals
              go_meet
              exact ⟨ts, ke, be, a4, c4, HR2.out, HB.out⟩
      case rest =>
      obtain ⟨ts, kE2, bE2, a4, c4, HQ⟩ := hcut
      have HB : Hid (Bt w wc (pItems ⟨.slice a1 F.length c1, .slice a2 cs.length c2, .slice a3 G.length c3, .slice a4 ts.length c4⟩ F cs G ts [gb w.heap.size (⟨.slice none 0 0, .slice none 0 0, .slice none 0 0, .slice none 0 0⟩ : VP), gb X ⟨.slice a1 F.length c1, .slice a2 cs.length c2, .slice a3 G.length c3, .slice a4 ts.length c4⟩]) B I L a c zs kE2 bE2) := HQ.out.2
      have RRE : Hid (Reads' (manyR (certR zs) mE) kE bE ts kE2 bE2) := HQ.out.1
      clear HQ DE
      obtain ⟨⟨x0, x1, x2, x3⟩, -⟩ := HB.out.four (pItems_in (show gb X ⟨.slice a1 F.length c1, .slice a2 cs.length c2, .slice a3 G.length c3, .slice a4 ts.length c4⟩ ∈ _ by simp))
      obtain ⟨⟨s0, s1, s2, s3⟩, f0, f1, f2, f3⟩ := HB.out.four (pItems_in (show gb w.heap.size (⟨.slice none 0 0, .slice none 0 0, .slice none 0 0, .slice none 0 0⟩ : VP) ∈ _ by simp))
      go_wp2
      have HF : Hid (Bt w ((((wc.setCell ⟨w.heap.size, 0, none⟩ (.slice a1 F.length c1)).setCell ⟨w.heap.size, 1, none⟩ (.slice a2 cs.length c2)).setCell ⟨w.heap.size, 2, none⟩ (.slice a3 G.length c3)).setCell ⟨w.heap.size, 3, none⟩ (.slice a4 ts.length c4)) ([gb w.heap.size ⟨.slice a1 F.length c1, .slice a2 cs.length c2, .slice a3 G.length c3, .slice a4 ts.length c4⟩] ++ (pItems ⟨.slice a1 F.length c1, .slice a2 cs.length c2, .slice a3 G.length c3, .slice a4 ts.length c4⟩ F cs G ts [] ++ [gb X ⟨.slice a1 F.length c1, .slice a2 cs.length c2, .slice a3 G.length c3, .slice a4 ts.length c4⟩])) B I L a c zs kE2 bE2) := by
        have h0 : Bt w wc (pItems ⟨.slice a1 F.length c1, .slice a2 cs.length c2, .slice a3 G.length c3, .slice a4 ts.length c4⟩ F cs G ts [] ++ ([gb w.heap.size (⟨.slice none 0 0, .slice none 0 0, .slice none 0 0, .slice none 0 0⟩ : VP)] ++ [gb X ⟨.slice a1 F.length c1, .slice a2 cs.length c2, .slice a3 G.length c3, .slice a4 ts.length c4⟩])) B I L a c zs kE2 bE2 := by rw [← pItems_app]; exact HB.out
        have h1 : Bt w wc (gb w.heap.size (⟨.slice none 0 0, .slice none 0 0, .slice none 0 0, .slice none 0 0⟩ : VP) :: (pItems ⟨.slice a1 F.length c1, .slice a2 cs.length c2, .slice a3 G.length c3, .slice a4 ts.length c4⟩ F cs G ts [] ++ [gb X ⟨.slice a1 F.length c1, .slice a2 cs.length c2, .slice a3 G.length c3, .slice a4 ts.length c4⟩])) B I L a c zs kE2 bE2 := h0.perm (by rw [← List.append_assoc]; exact (List.Perm.append_right _ List.perm_append_comm))
        exact h1.four_set (.slice a1 F.length c1) (.slice a2 cs.length c2) (.slice a3 G.length c3) (.slice a4 ts.length c4)
      generalize (((wc.setCell ⟨w.heap.size, 0, none⟩ (.slice a1 F.length c1)).setCell ⟨w.heap.size, 1, none⟩ (.slice a2 cs.length c2)).setCell ⟨w.heap.size, 2, none⟩ (.slice a3 G.length c3)).setCell ⟨w.heap.size, 3, none⟩ (.slice a4 ts.length c4) = WF at HF ⊢
      obtain ⟨⟨q0, q1, q2, q3⟩, -⟩ := HF.out.four (List.mem_append_left _ (show gb w.heap.size ⟨.slice a1 F.length c1, .slice a2 cs.length c2, .slice a3 G.length c3, .slice a4 ts.length c4⟩ ∈ _ by simp))
      have HP : Hid (Sep WF w.heap.size (pItems ⟨.slice a1 F.length c1, .slice a2 cs.length c2, .slice a3 G.length c3, .slice a4 ts.length c4⟩ F cs G ts [])) := (HF.out.sub ((List.sublist_append_left _ _).trans (List.sublist_append_right _ _))).sep
      have HX : Hid (Reads' (progR zs) k bad ⟨F.map Prod.fst, cs, G.map Prod.fst, ts⟩ kE2 bE2) := HRX.out.then ((RA.out.then RRA.out).then ((RC.out.then RRC.out).then ((RE.out.then RRE.out).then (Reads'.give _ _ _))))
      exact bodyPost_ret (v := .agg #[.slice a1 F.length c1, .slice a2 cs.length c2, .slice a3 G.length c3, .slice a4 ts.length c4]) (by simp [results, Tryz.results14, go_sem, q0, q1, q2, q3]) rfl ⟨⟨.slice a1 F.length c1, .slice a2 cs.length c2, .slice a3 G.length c3, .slice a4 ts.length c4⟩, F, cs, G, ts, kE2, bE2, rfl, HP.out, HX.out, HF.out.got⟩
end Go.Proofs.YtnemieeeappgnaaGreatDoor
