import Derived.Test.YthifelgdkmkdkaaGreatDoorFm38
import Derived.Test.YthifelgdkmkdkaaGreatDoorFm46
import Derived.Deep.RegionHeld
import Derived.Deep.AppendLies
namespace Go.Proofs.YthifelgdkmkdkaaGreatDoor
open Go.ChangeShapes Go.WideShapes Go.ChangeAt Go.RowKit
set_option linter.unusedVariables false
/-- The program's copy, and the page with the bytes l. -/
structure GiAt (w u : World) (v : VP) (b : Nat) (l : List UInt8) : Prop where
  bel : Below w.heap.size w u
  prog : Blk u w.heap.size #[v.r, v.k, v.f, v.t] 34
  page : PAt w.heap.size u b l
theorem GiAt.call {w u u' : World} {v : VP} {b : Nat} {l : List UInt8} (h : GiAt w u v b l) (hb : Below u.heap.size u u') : GiAt w u' v b l := ⟨below_on h.bel (Nat.le_refl _) hb, h.prog.keep hb, h.page.call hb⟩
theorem GiAt.put {w u u' : World} {v : VP} {b : Nat} {l l' : List UInt8} (h : GiAt w u v b l) (hp : PAt w.heap.size u' b l') (hg : Wg w.heap.size u u') : GiAt w u' v b l' := ⟨h.bel.trans hg.bel, hg.block h.prog (by decide) (by decide), hp⟩
theorem PAt.fresh (B : Nat) (u : World) (hB : B ≤ u.heap.size) : PAt B (u.alloc (.cells #[.pointer none, .slice none 0 0] 70)) u.heap.size [] :=
  .inl ⟨hB, .slice none 0 0, Blk.new _ _ _, World.ownsRow_nil _ _ _ _, by intro h; cases h⟩
theorem rd_lit (W : World) (cs : List Value) (t : TypeId) : Rd (W.alloc (.cells cs.toArray t)) 1 (.slice (some ⟨W.heap.size, 0, none⟩) cs.length cs.length) cs.length cs := by
  refine ⟨by simp, .inr ⟨_, _, _, rfl, fun j u hj => ?_⟩⟩
  have := lit_cells W cs t j u hj
  rw [add_at] at this
  exact this
theorem own_at0 {w : World} {base : Nat} {e : TypeId} {g n c : Nat} {xs : List Value} (h : w.ownsRow base e 1 (.slice (some ⟨g, 0, none⟩) n c) n xs) : ∀ j u, xs[j]? = some u → w.cell? ((⟨g, 0, none⟩ : Addr).add j) = some u := fun j u hj => by
  rw [add_at]
  rcases (Rd.of_own h).2 with ⟨e0, _⟩ | ⟨g', o', c', e', hc'⟩
  · have := (Rd.of_own h).1
    rw [e0] at this
    rw [List.eq_nil_of_length_eq_zero (l := xs) (by simpa using this)] at hj
    simp at hj
  · simp only [Value.slice.injEq, Option.some.injEq, Addr.mk.injEq] at e'
    obtain ⟨⟨rfl, rfl, _⟩, _⟩ := e'
    exact hc' j u hj
theorem PAt.grown {B : Nat} {u u' : World} {b : Nat} {l : List UInt8} (h : PAt B u b l) {B' k n : Nat} {v : Value} {xs : List Value} (hg : u.grownBy u' v.ownBlock) (ho : u.ownsRow B' 9 k v n xs) : PAt B u' b l := by
  have g : ∀ p, Lib.BuilderAt 70 5 B b p (Lib.byteCells l) u → Lib.BuilderAt 70 5 B b p (Lib.byteCells l) u' := by
    rintro p ⟨h1, v', h2, h3, h4⟩
    have hb : Blk u b #[p, v'] 70 := h2
    exact ⟨h1, v', hb.grown hg ho (by decide), own_grew h3 hg ho (by decide), h4⟩
  rcases h with h | h
  · exact .inl (g _ h)
  · exact .inr (g _ h)
set_option maxHeartbeats 8000000 in
set_option maxRecDepth 100000 in
theorem implFormat_any (v : VP) (p : MP) (w : World) (hs : p.small) (hw : p.wf) (h : RdP w v p) (hcap : RdRc w v.r p.regions) (hfp : RdFp w v.f p.funcs) (ht : PowTab w) :
    Calls Tryz.prog 7 #[.agg #[v.r, v.k, v.f, v.t]] w fun e w' => FmRes e p ∧ Below w.heap.size w w' := by
  obtain ⟨s0, hs0, hy0, hy1, hy2⟩ := info_parts infoStr
  obtain ⟨xs, ys, hP⟩ := Pg.of hs hw h
  obtain ⟨vr, vk, vf, vt⟩ := v
  simp only [] at hP hcap hfp
  obtain ⟨r1, c1, e1⟩ := hP.rr.is_slice
  obtain ⟨r2, c2, e2⟩ : ∃ a c, vk = .slice a p.consts.length c := h.consts.is_slice
  obtain ⟨r3, c3, e3⟩ := hP.fr.is_slice
  obtain ⟨r4, c4, e4⟩ : ∃ a c, vt = .slice a p.certs.length c := h.certs.is_slice
  subst e1 e2 e3 e4
  have HP : Hid (Pg w (.slice r1 p.regions.length c1) (.slice r2 p.consts.length c2) (.slice r3 p.funcs.length c3) (.slice r4 p.certs.length c4) p xs ys) := hP
  have HT : Hid (PowTab w) := ht
  have HCF : Hid (RdRc (w.alloc (.cells #[.slice r1 p.regions.length c1, .slice r2 p.consts.length c2, .slice r3 p.funcs.length c3, .slice r4 p.certs.length c4] 34)) (.slice r1 p.regions.length c1) p.regions ∧ RdFp (w.alloc (.cells #[.slice r1 p.regions.length c1, .slice r2 p.consts.length c2, .slice r3 p.funcs.length c3, .slice r4 p.certs.length c4] 34)) (.slice r3 p.funcs.length c3) p.funcs) := ⟨hcap.keep (below_alloc _ _) (Nat.le_refl _), hfp.keep (below_alloc _ _) (Nat.le_refl _)⟩
  clear hP hs hw h hcap hfp ht
  have I0 := At4.new w (.slice r1 p.regions.length c1) (.slice r2 p.consts.length c2) (.slice r3 p.funcs.length c3) (.slice r4 p.certs.length c4) 34
  have HB0 : Hid (Blk (w.alloc (.cells #[.slice r1 p.regions.length c1, .slice r2 p.consts.length c2, .slice r3 p.funcs.length c3, .slice r4 p.certs.length c4] 34)) w.heap.size #[.slice r1 p.regions.length c1, .slice r2 p.consts.length c2, .slice r3 p.funcs.length c3, .slice r4 p.certs.length c4] 34) := Blk.new _ _ _
  obtain ⟨i0, i1, i2, i3⟩ := I0
  go_enter Tryz.func7, Tryz.ntmps7
  go_wp2_with fail
  refine (checkProgram_any ⟨.slice r1 p.regions.length c1, .slice r2 p.consts.length c2, .slice r3 p.funcs.length c3, .slice r4 p.certs.length c4⟩ p _ HP.out.small HP.out.wf (HP.out.rd.keep (below_alloc _ _) (Nat.le_refl _)) HCF.out.1 HCF.out.2).mono ?_
  rintro e u1 ⟨⟨n, rfl, hf⟩, b1⟩
  have HB1 : Hid (Blk u1 w.heap.size #[.slice r1 p.regions.length c1, .slice r2 p.consts.length c2, .slice r3 p.funcs.length c3, .slice r4 p.certs.length c4] 34 ∧ Below w.heap.size w u1) := ⟨HB0.out.keep b1, below_on (below_alloc _ _) (Nat.le_refl _) b1⟩
  have HF : Hid (FaultIs p n) := hf
  clear HB0 b1 hf i0 i1 i2 i3 HCF
  by_cases hn : n = 0
  · subst hn
    rw [errOf, if_pos rfl]
    have HS : Hid (Sound p) := HF.out.sound
    have hR := HS.out.reg
    have hC := HS.out.consts.1
    have hFn := HS.out.funcs.2.1
    have hTn := HS.out.certs.1
    generalize hL1 : p.regions.length = n1 at *
    generalize hL2 : p.consts.length = n2 at *
    generalize hL3 : p.funcs.length = n3 at *
    generalize hL4 : p.certs.length = n4 at *
    subst hR
    have HL : Hid (p.regions.length = 3 ∧ p.consts.length = n2 ∧ p.funcs.length = n3 ∧ p.certs.length = n4) := ⟨hL1, hL2, hL3, hL4⟩
    clear hL1 hL2 hL3 hL4
    go_upto_region 4 with fail
    refine wp_world (fun u => GiAt w u ⟨.slice r1 3 c1, .slice r2 n2 c2, .slice r3 n3 c3, .slice r4 n4 c4⟩ u1.heap.size []) ⟨below_on HB1.out.2 (Nat.le_refl _) (below_alloc _ _), HB1.out.1.keep (below_alloc _ _), PAt.fresh _ _ HB1.out.2.size⟩ ?_
    intro U hA
    have HA : Hid (GiAt w U ⟨.slice r1 3 c1, .slice r2 n2 c2, .slice r3 n3 c3, .slice r4 n4 c4⟩ u1.heap.size []) := hA
    clear hA HB1
    generalize u1.heap.size = b at *
    have i0 : U.cell? ⟨w.heap.size, 0, none⟩ = some (.slice r1 3 c1) := HA.out.prog.cell 0
    go_wp2
    clear i0
    go_loopw [20] (fun i wr => ∃ k : Nat, i = .int .i64 k ∧ k ≤ 3 ∧ Hid (GiAt w wr ⟨.slice r1 3 c1, .slice r2 n2 c2, .slice r3 n3 c3, .slice r4 n4 c4⟩ b ((p.regions.take k).flatMap regionL))) (fun i _ => 3 - (intOf i).toNat)
    case atStart => exact ⟨0, rfl, by omega, HA.out⟩
    case round =>
      clear HA
      obtain ⟨k, rfl, hk, HA⟩ := hrel
      have hll := flat_take_le regionL 8388608 p.regions k fun x hx => regionL_le x (HP.out.small.region x hx)
      rw [HL.out.1] at hll
      by_cases hlt : k < 3
      · obtain ⟨⟨f, v⟩, hx⟩ : ∃ x, xs[k]? = some x := ⟨_, List.getElem?_eq_getElem (by rw [HP.out.rl, HL.out.1]; exact hlt)⟩
        have e1 := fst_at HP.out.rm hx
        have hf := (HP.out.re _ (List.mem_of_getElem? hx)).keep HA.out.bel (Nat.le_refl _)
        have hfl : f.length ≤ 1048576 := HP.out.small.region _ (List.mem_of_getElem? e1)
        have HX : Hid (Rd wr 1 v f.length (f.flatMap intCell) ∧ p.regions[k]? = some f) := ⟨hf, e1⟩
        clear e1
        rcases HP.out.rr.2 with ⟨e0, _⟩ | ⟨g, o, c, e1, hc1⟩
        · rw [HL.out.1] at e0
          omega
        rw [HL.out.1] at e1
        simp only [Value.slice.injEq, true_and] at e1
        obtain ⟨rfl, rfl⟩ := e1
        have j0 := Rd.elem rCells_length hc1 k _ hx 0 _ rfl
        rw [← HA.out.bel.cell (block_lt_of_cell j0)] at j0
        rw [Nat.mul_one, Nat.add_zero] at j0
        clear hc1 hx
        simp only [] at j0 hf
        obtain ⟨av, cv, ev⟩ := hf.is_slice
        subst ev
        clear hf
        go_wp2_with fail
        refine (typeNames_any (.slice av f.length cv) f.length f _ hfl HX.out.1 rfl).mono ?_
        rintro e u2 ⟨rfl, ho, b2⟩
        have HA2 : Hid (GiAt w u2 ⟨.slice (some ⟨g, o, none⟩) 3 c1, .slice r2 n2 c2, .slice r3 n3 c3, .slice r4 n4 c4⟩ b ((p.regions.take k).flatMap regionL) ∧ u2.ownsRow wr.heap.size 9 1 (.slice (some ⟨wr.heap.size, 0, none⟩) f.length f.length) (f.map tyName).length ((f.map tyName).flatMap wordCell)) := ⟨HA.out.call b2, by rw [tyCell_flat] at ho; rw [List.length_map]; exact ho⟩
        clear HA ho b2 j0
        generalize wr.heap.size = Y at *
        have hrl := regionL_le f hfl
        go_wp2_with fail
        refine (line_any w.heap.size b _ [114, 101, 103, 105, 111, 110] _ (f.map tyName) Y _ HA2.out.1.page HA2.out.2 HA2.out.1.bel.size (by rw [List.length_map]; omega) (by rw [← regionL]; omega)).mono ?_
        rintro e u3 ⟨rfl, hp, hg⟩
        have HA3 : Hid (GiAt w u3 ⟨.slice (some ⟨g, o, none⟩) 3 c1, .slice r2 n2 c2, .slice r3 n3 c3, .slice r4 n4 c4⟩ b ((p.regions.take (k + 1)).flatMap regionL)) := HA2.out.1.put (by rw [flat_next regionL p.regions k f HX.out.2]; exact hp) hg
        clear hp hg HA2
        go_wp2
        go_roundw
        case rel => exact ⟨k + 1, by go_num, by omega, HA3.out⟩
        case measure => simp [intOf]; omega
      · have HD : Hid (GiAt w wr ⟨.slice r1 3 c1, .slice r2 n2 c2, .slice r3 n3 c3, .slice r4 n4 c4⟩ b (p.regions.flatMap regionL)) := by
          have := HA.out
          rw [List.take_of_length_le (by rw [HL.out.1]; omega)] at this
          exact this
        have hlt3 : ¬ (k : Int) < 3 := by omega
        have hRL : (p.regions.flatMap regionL).length ≤ 25165824 := by
          have := flat_le regionL 8388608 p.regions fun x hx => regionL_le x (HP.out.small.region x hx)
          rw [HL.out.1] at this
          omega
        clear hlt hk HA hll
        have i1 : wr.cell? ⟨w.heap.size, 1, none⟩ = some (.slice r2 n2 c2) := HD.out.prog.cell 1
        generalize hlr : p.regions.flatMap regionL = lr at *
        have HLR : Hid (lr = p.regions.flatMap regionL) := hlr.symm
        clear hlr
        go_wp2
        clear hlt3 i1
        go_loopw [32] (fun i wr => ∃ k : Nat, i = .int .i64 k ∧ k ≤ n2 ∧ Hid (GiAt w wr ⟨.slice r1 3 c1, .slice r2 n2 c2, .slice r3 n3 c3, .slice r4 n4 c4⟩ b (lr ++ (p.consts.take k).flatMap constL))) (fun i _ => n2 - (intOf i).toNat)
        case atStart => exact ⟨0, rfl, by omega, by simpa [Hid] using HD.out⟩
        case round =>
          clear HD
          obtain ⟨k, rfl, hk, HA⟩ := hrel
          have hll : (lr ++ (p.consts.take k).flatMap constL).length ≤ 25169920 := by
            rw [List.length_append]
            have := flat_take_le constL 64 p.consts k fun x hx => constL_le x (HP.out.wf.consts x hx).2
            rw [HL.out.2.1] at this
            omega
          by_cases hlt : k < n2
          · obtain ⟨x, hx⟩ : ∃ x, p.consts[k]? = some x := ⟨_, List.getElem?_eq_getElem (by rw [HL.out.2.1]; exact hlt)⟩
            have hxw := W32_lo (HP.out.wf.consts x (List.mem_of_getElem? hx)).2
            have HCL : Hid ((constL x).length ≤ 64) := constL_le x (HP.out.wf.consts x (List.mem_of_getElem? hx)).2
            rcases HP.out.rd.consts.2 with ⟨e0, _⟩ | ⟨g, o, c, e1, hc1⟩
            · rw [HL.out.2.1] at e0
              omega
            rw [HL.out.2.1] at e1
            simp only [Value.slice.injEq, true_and] at e1
            obtain ⟨rfl, rfl⟩ := e1
            have j0 := Rd.elem MC.cells_length hc1 k _ hx 0 _ rfl
            have j1 := Rd.elem MC.cells_length hc1 k _ hx 1 _ rfl
            rw [← HA.out.bel.cell (block_lt_of_cell j0), Nat.add_zero] at j0
            rw [← HA.out.bel.cell (block_lt_of_cell j1)] at j1
            have HN : Hid (lr ++ (p.consts.take (k + 1)).flatMap constL = (lr ++ (p.consts.take k).flatMap constL) ++ constL x) := by show _ = _; rw [flat_next constL p.consts k x hx, List.append_assoc]
            clear hc1 hx
            obtain ⟨ty, wd⟩ := x
            simp only [] at j0 j1 hxw
            generalize lr ++ (p.consts.take k).flatMap constL = l2 at *
            go_upto_region 12 with fail
            refine wp_world (fun u => GiAt w u ⟨.slice r1 3 c1, .slice (some ⟨g, o, none⟩) n2 c2, .slice r3 n3 c3, .slice r4 n4 c4⟩ b l2 ∧ Blk u wr.heap.size #[.int .i64 ty, .int .u32 wd] 49) ⟨HA.out.call (below_alloc _ _), Blk.new _ _ _⟩ ?_
            rintro U hA
            have HA2 : Hid (GiAt w U ⟨.slice r1 3 c1, .slice (some ⟨g, o, none⟩) n2 c2, .slice r3 n3 c3, .slice r4 n4 c4⟩ b l2 ∧ Blk U wr.heap.size #[.int .i64 ty, .int .u32 wd] 49) := hA
            clear hA HA j0 j1
            generalize wr.heap.size = Y at *
            have KS : ∀ u, Blk u Y #[.int .i64 ty, .int .u32 wd] 49 → (u.cell? ⟨Y, 0, none⟩ = some (.int .i64 ty) ∧ u.cell? ⟨Y, 1, none⟩ = some (.int .u32 wd)) := fun u h => ⟨h.cell 0, h.cell 1⟩
            have HR : Hid (GiAt w U.drew ⟨.slice r1 3 c1, .slice (some ⟨g, o, none⟩) n2 c2, .slice r3 n3 c3, .slice r4 n4 c4⟩ b l2 ∧ Blk U.drew Y #[.int .i64 ty, .int .u32 wd] 49) := ⟨HA2.out.1.call (below_drew1 _), HA2.out.2.keep (below_drew1 _)⟩
            refine wp_region_held_drew (S := fun w' => w'.cell? ⟨Y, 0, none⟩ = some (.int .i64 ty) ∧ w'.cell? ⟨Y, 1, none⟩ = some (.int .u32 wd)) (by kernel_rfl) (KS _ HR.out.2) (fun hHeld => ?_)
            clear HA2
            generalize U.drew = UD at HR hHeld ⊢
            refine wpAnyH_take (i := 0) (v := ?_) rfl (by kernel_rfl) (by kernel_rfl) (by kernel_rfl) (fun _ _ _ h => h) (Or.inl ⟨by rfl, ?_⟩) (by assumption) ?_
            rotate_left
            · (intro w hSw; (try dsimp only at hSw); go_simp; (try with_reducible rfl))
            refine wpAnyH_take (i := 1) (v := ?_) rfl (by kernel_rfl) (by kernel_rfl) (by kernel_rfl) (fun _ _ _ h => h) (Or.inl ⟨by rfl, ?_⟩) (by assumption) ?_
            rotate_left
            · (intro w hSw; (try dsimp only at hSw); go_simp; (try with_reducible rfl))
            refine wpAnyH_take (i := 2) (v := ?_) rfl (by kernel_rfl) (by kernel_rfl) (by kernel_rfl) (fun _ _ _ h => h) (Or.inl ⟨by rfl, ?_⟩) (by assumption) ?_
            rotate_left
            · (intro w hSw; (try dsimp only at hSw); go_simp; (try with_reducible rfl))
            refine wpAnyH_take (i := 5) (v := ?_) rfl (by kernel_rfl) (by kernel_rfl) (by kernel_rfl) (fun _ _ _ h => h) (Or.inl ⟨by rfl, ?_⟩) (by assumption) ?_
            rotate_left
            · (intro w hSw; (try dsimp only at hSw); go_simp; (try with_reducible rfl))
            refine wpAnyH_take (i := 6) (v := ?_) rfl (by kernel_rfl) (by kernel_rfl) (by kernel_rfl) (fun _ _ _ h => h) (Or.inl ⟨by rfl, ?_⟩) (by assumption) ?_
            rotate_left
            · (intro w hSw; (try dsimp only at hSw); go_simp; (try with_reducible rfl))
            clear hHeld
            go_simp
            refine wpAnyH_ready (rs := [3, 7]) (by kernel_rfl) (by simp) ?_
            refine AllReadyH.cons rfl (fun KC hKC => ?_) (AllReadyH.cons rfl (fun KC hKC => ?_) AllReadyH.nil)
            ·
              have H1 : Hid ((GiAt w (UD.alloc (.cells #[.int .i64 ty] 2)) ⟨.slice r1 3 c1, .slice (some ⟨g, o, none⟩) n2 c2, .slice r3 n3 c3, .slice r4 n4 c4⟩ b l2 ∧ Blk (UD.alloc (.cells #[.int .i64 ty] 2)) Y #[.int .i64 ty, .int .u32 wd] 49) ∧ Rd (UD.alloc (.cells #[.int .i64 ty] 2)) 1 (.slice (some ⟨UD.heap.size, 0, none⟩) 1 1) 1 ([.int .i64 ty] : List Value)) := ⟨⟨HR.out.1.call (below_alloc _ _), HR.out.2.keep (below_alloc _ _)⟩, rd_lit UD [.int .i64 ty] 2⟩
              go_simp
              refine hKC.out _ _ (KS _ H1.out.1.2) (fun hHeld => ?_)
              clear hKC KC hHeld
              generalize UD.alloc (.cells #[.int .i64 ty] 2) = W1 at H1 ⊢
              generalize UD.heap.size = A1 at H1 ⊢
              refine wpAnyH_ready (rs := [4, 7]) (by kernel_rfl) (by simp) ?_
              refine AllReadyH.cons rfl (fun KC hKC => ?_) (AllReadyH.cons rfl (fun KC hKC => ?_) AllReadyH.nil)
              ·
                go_simp
                refine (typeNames_any (.slice (some ⟨A1, 0, none⟩) 1 1) 1 [ty] W1 (by omega) H1.out.2 rfl).mono ?_
                rintro e Z2 ⟨rfl, ho, bz⟩
                rw [tyCell_flat] at ho
                have hA30 : w.heap.size ≤ W1.heap.size := H1.out.1.1.bel.size
                generalize W1.heap.size = A3 at ho hA30 ⊢
                have H2 : Hid ((GiAt w Z2 ⟨.slice r1 3 c1, .slice (some ⟨g, o, none⟩) n2 c2, .slice r3 n3 c3, .slice r4 n4 c4⟩ b l2 ∧ Blk Z2 Y #[.int .i64 ty, .int .u32 wd] 49) ∧ Z2.ownsRow A3 9 1 (.slice (some ⟨A3, 0, none⟩) 1 1) 1 ([tyName ty].flatMap wordCell)) := ⟨⟨H1.out.1.1.call bz, H1.out.1.2.keep bz⟩, ho⟩
                clear ho bz H1
                go_simp
                refine hKC.out _ _ (KS _ H2.out.1.2) (fun hHeld => ?_)
                clear hKC KC hHeld
                refine wpAnyH_ready (rs := [7]) (by kernel_rfl) (by simp) ?_
                refine AllReadyH.cons rfl (fun KC hKC => ?_) AllReadyH.nil
                have H3 : Hid ((GiAt w (Z2.alloc (.cells #[.int .u32 wd] 47)) ⟨.slice r1 3 c1, .slice (some ⟨g, o, none⟩) n2 c2, .slice r3 n3 c3, .slice r4 n4 c4⟩ b l2 ∧ Blk (Z2.alloc (.cells #[.int .u32 wd] 47)) Y #[.int .i64 ty, .int .u32 wd] 49) ∧ Rd (Z2.alloc (.cells #[.int .u32 wd] 47)) 1 (.slice (some ⟨Z2.heap.size, 0, none⟩) 1 1) 1 ([.int .u32 wd] : List Value) ∧ (Z2.alloc (.cells #[.int .u32 wd] 47)).ownsRow A3 9 1 (.slice (some ⟨A3, 0, none⟩) 1 1) 1 ([tyName ty].flatMap wordCell)) := ⟨⟨H2.out.1.1.call (below_alloc _ _), H2.out.1.2.keep (below_alloc _ _)⟩, rd_lit Z2 [.int .u32 wd] 47, own_keep H2.out.2 (below_alloc _ _) (Nat.le_refl _)⟩
                go_simp
                refine hKC.out _ _ (KS _ H3.out.1.2) (fun hHeld => ?_)
                clear hKC KC hHeld
                generalize Z2.alloc (.cells #[.int .u32 wd] 47) = Z3 at H3 ⊢
                generalize Z2.heap.size = A2 at H3 ⊢
                refine wpAnyH_ready (rs := [8]) (by kernel_rfl) (by simp) ?_
                refine AllReadyH.cons rfl (fun KC hKC => ?_) AllReadyH.nil
                go_simp
                refine (numerals32_any (.slice (some ⟨A2, 0, none⟩) 1 1) 1 [wd] Z3 (by omega) H3.out.2.1 rfl (by simpa using hxw) (HT.out.keep H3.out.1.1.bel (Nat.le_refl _))).mono ?_
                rintro e Z5 ⟨rfl, ho, bz⟩
                rw [decCell_flat] at ho
                have H5 : Hid ((GiAt w Z5 ⟨.slice r1 3 c1, .slice (some ⟨g, o, none⟩) n2 c2, .slice r3 n3 c3, .slice r4 n4 c4⟩ b l2 ∧ Blk Z5 Y #[.int .i64 ty, .int .u32 wd] 49) ∧ Z5.ownsRow A3 9 1 (.slice (some ⟨A3, 0, none⟩) 1 1) 1 ([tyName ty].flatMap wordCell) ∧ Z5.ownsRow Z3.heap.size 9 1 (.slice (some ⟨Z3.heap.size, 0, none⟩) 1 1) 1 ([decL wd].flatMap wordCell)) := ⟨⟨H3.out.1.1.call bz, H3.out.1.2.keep bz⟩, own_keep H3.out.2.2 bz (Nat.le_refl _), ho⟩
                have hA3 : A3 ≤ Z5.heap.size := by have := (H5.out.2.1.lt A3 rfl).2; omega
                clear ho bz H3
                go_simp
                refine hKC.out _ _ (KS _ H5.out.1.2) (fun hHeld => ?_)
                clear hKC KC hHeld
                generalize Z3.heap.size = A5 at H5 ⊢
                refine wpAnyH_ready (rs := [9]) (by kernel_rfl) (by simp) ?_
                refine AllReadyH.cons rfl (fun KC hKC => ?_) AllReadyH.nil
                refine step_append_lies _ rfl (.tmp 40) (.tmp 44) 72 rfl A3 9 s0 (.string ⟨#[]⟩) 1 16 Tryz.underlying72 hs0 hy0 hy1 hy2 rfl (by decide) (.slice (some ⟨A3, 0, none⟩) 1 1) 1 ([tyName ty].flatMap wordCell) (by simp [Act.eval]) H5.out.2.1 ⟨A5, 0, none⟩ 1 1 ([decL wd].flatMap wordCell) (by simp [Act.eval]) rfl (own_at0 H5.out.2.2) (words_one _) (by omega) (by unfold maxLen; omega) (by omega) hA3 _ rfl ?_
                intro g6 cap6 Z6 ho hg _ hlt6
                have H6 : Hid ((GiAt w Z6 ⟨.slice r1 3 c1, .slice (some ⟨g, o, none⟩) n2 c2, .slice r3 n3 c3, .slice r4 n4 c4⟩ b l2 ∧ Blk Z6 Y #[.int .i64 ty, .int .u32 wd] 49) ∧ Z6.ownsRow A3 9 1 (.slice (some ⟨g6, 0, none⟩) 2 cap6) 2 ([tyName ty, decL wd].flatMap wordCell)) := ⟨⟨⟨H5.out.1.1.bel.grown hg H5.out.1.1.bel.size (fun k hk => by cases hk; omega), H5.out.1.1.prog.grown hg H5.out.2.1 (by decide), H5.out.1.1.page.grown hg H5.out.2.1⟩, H5.out.1.2.grown hg H5.out.2.1 (by decide)⟩, ho⟩
                clear ho hg H5 hA3 hlt6
                go_simp
                refine hKC.out _ _ (KS _ H6.out.1.2) (fun hHeld => ?_)
                clear hKC KC hHeld
                refine wpAnyH_ready (rs := [10]) (by kernel_rfl) (by simp) ?_
                refine AllReadyH.cons rfl (fun KC hKC => ?_) AllReadyH.nil
                go_simp
                refine (line_any w.heap.size b l2 [99, 111, 110, 115, 116] _ [tyName ty, decL wd] A3 Z6 H6.out.1.1.page H6.out.2 H6.out.1.1.bel.size (by simp) (by have := HCL.out; rw [constL] at this; simp only [] at this; omega)).mono ?_
                rintro e Z7 ⟨rfl, hp, hg⟩
                have H7 : Hid (GiAt w Z7 ⟨.slice r1 3 c1, .slice (some ⟨g, o, none⟩) n2 c2, .slice r3 n3 c3, .slice r4 n4 c4⟩ b (l2 ++ constL ⟨ty, wd⟩) ∧ Blk Z7 Y #[.int .i64 ty, .int .u32 wd] 49) := ⟨H6.out.1.1.put hp hg, hg.block H6.out.1.2 (by decide) (by decide)⟩
                clear hp hg H6
                go_simp
                refine hKC.out _ _ (KS _ H7.out.2) (fun hHeld => ?_)
                clear hKC KC hHeld
                refine wpAnyH_done (by kernel_rfl) ?_ _
                go_wp2
                go_roundw
                case rel => exact ⟨k + 1, by go_num, by omega, by rw [HN.out]; exact H7.out.1⟩
                case measure => simp [intOf]; omega
              ·
                have H2 : Hid ((GiAt w (W1.alloc (.cells #[.int .u32 wd] 47)) ⟨.slice r1 3 c1, .slice (some ⟨g, o, none⟩) n2 c2, .slice r3 n3 c3, .slice r4 n4 c4⟩ b l2 ∧ Blk (W1.alloc (.cells #[.int .u32 wd] 47)) Y #[.int .i64 ty, .int .u32 wd] 49) ∧ Rd (W1.alloc (.cells #[.int .u32 wd] 47)) 1 (.slice (some ⟨W1.heap.size, 0, none⟩) 1 1) 1 ([.int .u32 wd] : List Value) ∧ Rd (W1.alloc (.cells #[.int .u32 wd] 47)) 1 (.slice (some ⟨A1, 0, none⟩) 1 1) 1 ([.int .i64 ty] : List Value)) := ⟨⟨H1.out.1.1.call (below_alloc _ _), H1.out.1.2.keep (below_alloc _ _)⟩, rd_lit W1 [.int .u32 wd] 47, H1.out.2.keep (below_alloc _ _) (Nat.le_refl _)⟩
                go_simp
                refine hKC.out _ _ (KS _ H2.out.1.2) (fun hHeld => ?_)
                clear hKC KC hHeld
                generalize W1.alloc (.cells #[.int .u32 wd] 47) = Z2 at H2 ⊢
                generalize W1.heap.size = A2 at H2 ⊢
                refine wpAnyH_ready (rs := [4]) (by kernel_rfl) (by simp) ?_
                refine AllReadyH.cons rfl (fun KC hKC => ?_) AllReadyH.nil
                go_simp
                refine (typeNames_any (.slice (some ⟨A1, 0, none⟩) 1 1) 1 [ty] Z2 (by omega) H2.out.2.2 rfl).mono ?_
                rintro e Z3 ⟨rfl, ho, bz⟩
                rw [tyCell_flat] at ho
                have hA30 : w.heap.size ≤ Z2.heap.size := H2.out.1.1.bel.size
                generalize Z2.heap.size = A3 at ho hA30 ⊢
                have H3 : Hid ((GiAt w Z3 ⟨.slice r1 3 c1, .slice (some ⟨g, o, none⟩) n2 c2, .slice r3 n3 c3, .slice r4 n4 c4⟩ b l2 ∧ Blk Z3 Y #[.int .i64 ty, .int .u32 wd] 49) ∧ Z3.ownsRow A3 9 1 (.slice (some ⟨A3, 0, none⟩) 1 1) 1 ([tyName ty].flatMap wordCell) ∧ Rd Z3 1 (.slice (some ⟨A2, 0, none⟩) 1 1) 1 ([.int .u32 wd] : List Value)) := ⟨⟨H2.out.1.1.call bz, H2.out.1.2.keep bz⟩, ho, H2.out.2.1.keep bz (Nat.le_refl _)⟩
                clear ho bz H2
                go_simp
                refine hKC.out _ _ (KS _ H3.out.1.2) (fun hHeld => ?_)
                clear hKC KC hHeld
                refine wpAnyH_ready (rs := [8]) (by kernel_rfl) (by simp) ?_
                refine AllReadyH.cons rfl (fun KC hKC => ?_) AllReadyH.nil
                go_simp
                refine (numerals32_any (.slice (some ⟨A2, 0, none⟩) 1 1) 1 [wd] Z3 (by omega) H3.out.2.2 rfl (by simpa using hxw) (HT.out.keep H3.out.1.1.bel (Nat.le_refl _))).mono ?_
                rintro e Z5 ⟨rfl, ho, bz⟩
                rw [decCell_flat] at ho
                have H5 : Hid ((GiAt w Z5 ⟨.slice r1 3 c1, .slice (some ⟨g, o, none⟩) n2 c2, .slice r3 n3 c3, .slice r4 n4 c4⟩ b l2 ∧ Blk Z5 Y #[.int .i64 ty, .int .u32 wd] 49) ∧ Z5.ownsRow A3 9 1 (.slice (some ⟨A3, 0, none⟩) 1 1) 1 ([tyName ty].flatMap wordCell) ∧ Z5.ownsRow Z3.heap.size 9 1 (.slice (some ⟨Z3.heap.size, 0, none⟩) 1 1) 1 ([decL wd].flatMap wordCell)) := ⟨⟨H3.out.1.1.call bz, H3.out.1.2.keep bz⟩, own_keep H3.out.2.1 bz (Nat.le_refl _), ho⟩
                have hA3 : A3 ≤ Z5.heap.size := by have := (H5.out.2.1.lt A3 rfl).2; omega
                clear ho bz H3
                go_simp
                refine hKC.out _ _ (KS _ H5.out.1.2) (fun hHeld => ?_)
                clear hKC KC hHeld
                generalize Z3.heap.size = A5 at H5 ⊢
                refine wpAnyH_ready (rs := [9]) (by kernel_rfl) (by simp) ?_
                refine AllReadyH.cons rfl (fun KC hKC => ?_) AllReadyH.nil
                refine step_append_lies _ rfl (.tmp 40) (.tmp 44) 72 rfl A3 9 s0 (.string ⟨#[]⟩) 1 16 Tryz.underlying72 hs0 hy0 hy1 hy2 rfl (by decide) (.slice (some ⟨A3, 0, none⟩) 1 1) 1 ([tyName ty].flatMap wordCell) (by simp [Act.eval]) H5.out.2.1 ⟨A5, 0, none⟩ 1 1 ([decL wd].flatMap wordCell) (by simp [Act.eval]) rfl (own_at0 H5.out.2.2) (words_one _) (by omega) (by unfold maxLen; omega) (by omega) hA3 _ rfl ?_
                intro g6 cap6 Z6 ho hg _ hlt6
                have H6 : Hid ((GiAt w Z6 ⟨.slice r1 3 c1, .slice (some ⟨g, o, none⟩) n2 c2, .slice r3 n3 c3, .slice r4 n4 c4⟩ b l2 ∧ Blk Z6 Y #[.int .i64 ty, .int .u32 wd] 49) ∧ Z6.ownsRow A3 9 1 (.slice (some ⟨g6, 0, none⟩) 2 cap6) 2 ([tyName ty, decL wd].flatMap wordCell)) := ⟨⟨⟨H5.out.1.1.bel.grown hg H5.out.1.1.bel.size (fun k hk => by cases hk; omega), H5.out.1.1.prog.grown hg H5.out.2.1 (by decide), H5.out.1.1.page.grown hg H5.out.2.1⟩, H5.out.1.2.grown hg H5.out.2.1 (by decide)⟩, ho⟩
                clear ho hg H5 hA3 hlt6
                go_simp
                refine hKC.out _ _ (KS _ H6.out.1.2) (fun hHeld => ?_)
                clear hKC KC hHeld
                refine wpAnyH_ready (rs := [10]) (by kernel_rfl) (by simp) ?_
                refine AllReadyH.cons rfl (fun KC hKC => ?_) AllReadyH.nil
                go_simp
                refine (line_any w.heap.size b l2 [99, 111, 110, 115, 116] _ [tyName ty, decL wd] A3 Z6 H6.out.1.1.page H6.out.2 H6.out.1.1.bel.size (by simp) (by have := HCL.out; rw [constL] at this; simp only [] at this; omega)).mono ?_
                rintro e Z7 ⟨rfl, hp, hg⟩
                have H7 : Hid (GiAt w Z7 ⟨.slice r1 3 c1, .slice (some ⟨g, o, none⟩) n2 c2, .slice r3 n3 c3, .slice r4 n4 c4⟩ b (l2 ++ constL ⟨ty, wd⟩) ∧ Blk Z7 Y #[.int .i64 ty, .int .u32 wd] 49) := ⟨H6.out.1.1.put hp hg, hg.block H6.out.1.2 (by decide) (by decide)⟩
                clear hp hg H6
                go_simp
                refine hKC.out _ _ (KS _ H7.out.2) (fun hHeld => ?_)
                clear hKC KC hHeld
                refine wpAnyH_done (by kernel_rfl) ?_ _
                go_wp2
                go_roundw
                case rel => exact ⟨k + 1, by go_num, by omega, by rw [HN.out]; exact H7.out.1⟩
                case measure => simp [intOf]; omega
            ·
              have H1 : Hid ((GiAt w (UD.alloc (.cells #[.int .u32 wd] 47)) ⟨.slice r1 3 c1, .slice (some ⟨g, o, none⟩) n2 c2, .slice r3 n3 c3, .slice r4 n4 c4⟩ b l2 ∧ Blk (UD.alloc (.cells #[.int .u32 wd] 47)) Y #[.int .i64 ty, .int .u32 wd] 49) ∧ Rd (UD.alloc (.cells #[.int .u32 wd] 47)) 1 (.slice (some ⟨UD.heap.size, 0, none⟩) 1 1) 1 ([.int .u32 wd] : List Value)) := ⟨⟨HR.out.1.call (below_alloc _ _), HR.out.2.keep (below_alloc _ _)⟩, rd_lit UD [.int .u32 wd] 47⟩
              go_simp
              refine hKC.out _ _ (KS _ H1.out.1.2) (fun hHeld => ?_)
              clear hKC KC hHeld
              generalize UD.alloc (.cells #[.int .u32 wd] 47) = W1 at H1 ⊢
              generalize UD.heap.size = A2 at H1 ⊢
              refine wpAnyH_ready (rs := [3]) (by kernel_rfl) (by simp) ?_
              refine AllReadyH.cons rfl (fun KC hKC => ?_) AllReadyH.nil
              have H2 : Hid ((GiAt w (W1.alloc (.cells #[.int .i64 ty] 2)) ⟨.slice r1 3 c1, .slice (some ⟨g, o, none⟩) n2 c2, .slice r3 n3 c3, .slice r4 n4 c4⟩ b l2 ∧ Blk (W1.alloc (.cells #[.int .i64 ty] 2)) Y #[.int .i64 ty, .int .u32 wd] 49) ∧ Rd (W1.alloc (.cells #[.int .i64 ty] 2)) 1 (.slice (some ⟨W1.heap.size, 0, none⟩) 1 1) 1 ([.int .i64 ty] : List Value) ∧ Rd (W1.alloc (.cells #[.int .i64 ty] 2)) 1 (.slice (some ⟨A2, 0, none⟩) 1 1) 1 ([.int .u32 wd] : List Value)) := ⟨⟨H1.out.1.1.call (below_alloc _ _), H1.out.1.2.keep (below_alloc _ _)⟩, rd_lit W1 [.int .i64 ty] 2, H1.out.2.keep (below_alloc _ _) (Nat.le_refl _)⟩
              go_simp
              refine hKC.out _ _ (KS _ H2.out.1.2) (fun hHeld => ?_)
              clear hKC KC hHeld
              generalize W1.alloc (.cells #[.int .i64 ty] 2) = Z2 at H2 ⊢
              generalize W1.heap.size = A1 at H2 ⊢
              refine wpAnyH_ready (rs := [4]) (by kernel_rfl) (by simp) ?_
              refine AllReadyH.cons rfl (fun KC hKC => ?_) AllReadyH.nil
              go_simp
              refine (typeNames_any (.slice (some ⟨A1, 0, none⟩) 1 1) 1 [ty] Z2 (by omega) H2.out.2.1 rfl).mono ?_
              rintro e Z3 ⟨rfl, ho, bz⟩
              rw [tyCell_flat] at ho
              have hA30 : w.heap.size ≤ Z2.heap.size := H2.out.1.1.bel.size
              generalize Z2.heap.size = A3 at ho hA30 ⊢
              have H3 : Hid ((GiAt w Z3 ⟨.slice r1 3 c1, .slice (some ⟨g, o, none⟩) n2 c2, .slice r3 n3 c3, .slice r4 n4 c4⟩ b l2 ∧ Blk Z3 Y #[.int .i64 ty, .int .u32 wd] 49) ∧ Z3.ownsRow A3 9 1 (.slice (some ⟨A3, 0, none⟩) 1 1) 1 ([tyName ty].flatMap wordCell) ∧ Rd Z3 1 (.slice (some ⟨A2, 0, none⟩) 1 1) 1 ([.int .u32 wd] : List Value)) := ⟨⟨H2.out.1.1.call bz, H2.out.1.2.keep bz⟩, ho, H2.out.2.2.keep bz (Nat.le_refl _)⟩
              clear ho bz H2
              go_simp
              refine hKC.out _ _ (KS _ H3.out.1.2) (fun hHeld => ?_)
              clear hKC KC hHeld
              refine wpAnyH_ready (rs := [8]) (by kernel_rfl) (by simp) ?_
              refine AllReadyH.cons rfl (fun KC hKC => ?_) AllReadyH.nil
              go_simp
              refine (numerals32_any (.slice (some ⟨A2, 0, none⟩) 1 1) 1 [wd] Z3 (by omega) H3.out.2.2 rfl (by simpa using hxw) (HT.out.keep H3.out.1.1.bel (Nat.le_refl _))).mono ?_
              rintro e Z5 ⟨rfl, ho, bz⟩
              rw [decCell_flat] at ho
              have H5 : Hid ((GiAt w Z5 ⟨.slice r1 3 c1, .slice (some ⟨g, o, none⟩) n2 c2, .slice r3 n3 c3, .slice r4 n4 c4⟩ b l2 ∧ Blk Z5 Y #[.int .i64 ty, .int .u32 wd] 49) ∧ Z5.ownsRow A3 9 1 (.slice (some ⟨A3, 0, none⟩) 1 1) 1 ([tyName ty].flatMap wordCell) ∧ Z5.ownsRow Z3.heap.size 9 1 (.slice (some ⟨Z3.heap.size, 0, none⟩) 1 1) 1 ([decL wd].flatMap wordCell)) := ⟨⟨H3.out.1.1.call bz, H3.out.1.2.keep bz⟩, own_keep H3.out.2.1 bz (Nat.le_refl _), ho⟩
              have hA3 : A3 ≤ Z5.heap.size := by have := (H5.out.2.1.lt A3 rfl).2; omega
              clear ho bz H3
              go_simp
              refine hKC.out _ _ (KS _ H5.out.1.2) (fun hHeld => ?_)
              clear hKC KC hHeld
              generalize Z3.heap.size = A5 at H5 ⊢
              refine wpAnyH_ready (rs := [9]) (by kernel_rfl) (by simp) ?_
              refine AllReadyH.cons rfl (fun KC hKC => ?_) AllReadyH.nil
              refine step_append_lies _ rfl (.tmp 40) (.tmp 44) 72 rfl A3 9 s0 (.string ⟨#[]⟩) 1 16 Tryz.underlying72 hs0 hy0 hy1 hy2 rfl (by decide) (.slice (some ⟨A3, 0, none⟩) 1 1) 1 ([tyName ty].flatMap wordCell) (by simp [Act.eval]) H5.out.2.1 ⟨A5, 0, none⟩ 1 1 ([decL wd].flatMap wordCell) (by simp [Act.eval]) rfl (own_at0 H5.out.2.2) (words_one _) (by omega) (by unfold maxLen; omega) (by omega) hA3 _ rfl ?_
              intro g6 cap6 Z6 ho hg _ hlt6
              have H6 : Hid ((GiAt w Z6 ⟨.slice r1 3 c1, .slice (some ⟨g, o, none⟩) n2 c2, .slice r3 n3 c3, .slice r4 n4 c4⟩ b l2 ∧ Blk Z6 Y #[.int .i64 ty, .int .u32 wd] 49) ∧ Z6.ownsRow A3 9 1 (.slice (some ⟨g6, 0, none⟩) 2 cap6) 2 ([tyName ty, decL wd].flatMap wordCell)) := ⟨⟨⟨H5.out.1.1.bel.grown hg H5.out.1.1.bel.size (fun k hk => by cases hk; omega), H5.out.1.1.prog.grown hg H5.out.2.1 (by decide), H5.out.1.1.page.grown hg H5.out.2.1⟩, H5.out.1.2.grown hg H5.out.2.1 (by decide)⟩, ho⟩
              clear ho hg H5 hA3 hlt6
              go_simp
              refine hKC.out _ _ (KS _ H6.out.1.2) (fun hHeld => ?_)
              clear hKC KC hHeld
              refine wpAnyH_ready (rs := [10]) (by kernel_rfl) (by simp) ?_
              refine AllReadyH.cons rfl (fun KC hKC => ?_) AllReadyH.nil
              go_simp
              refine (line_any w.heap.size b l2 [99, 111, 110, 115, 116] _ [tyName ty, decL wd] A3 Z6 H6.out.1.1.page H6.out.2 H6.out.1.1.bel.size (by simp) (by have := HCL.out; rw [constL] at this; simp only [] at this; omega)).mono ?_
              rintro e Z7 ⟨rfl, hp, hg⟩
              have H7 : Hid (GiAt w Z7 ⟨.slice r1 3 c1, .slice (some ⟨g, o, none⟩) n2 c2, .slice r3 n3 c3, .slice r4 n4 c4⟩ b (l2 ++ constL ⟨ty, wd⟩) ∧ Blk Z7 Y #[.int .i64 ty, .int .u32 wd] 49) := ⟨H6.out.1.1.put hp hg, hg.block H6.out.1.2 (by decide) (by decide)⟩
              clear hp hg H6
              go_simp
              refine hKC.out _ _ (KS _ H7.out.2) (fun hHeld => ?_)
              clear hKC KC hHeld
              refine wpAnyH_done (by kernel_rfl) ?_ _
              go_wp2
              go_roundw
              case rel => exact ⟨k + 1, by go_num, by omega, by rw [HN.out]; exact H7.out.1⟩
              case measure => simp [intOf]; omega
          · have hk3 : n2 = k := by omega
            subst hk3
            have HD : Hid (GiAt w wr ⟨.slice r1 3 c1, .slice r2 n2 c2, .slice r3 n3 c3, .slice r4 n4 c4⟩ b (lr ++ p.consts.flatMap constL)) := by
              have := HA.out
              rw [List.take_of_length_le (by rw [HL.out.2.1]; exact Nat.le_refl _)] at this hll
              exact this
            rw [List.take_of_length_le (by rw [HL.out.2.1]; exact Nat.le_refl _)] at hll
            clear hlt HA
            have i2 : wr.cell? ⟨w.heap.size, 2, none⟩ = some (.slice r3 n3 c3) := HD.out.prog.cell 2
            generalize hlc : lr ++ p.consts.flatMap constL = lc at *
            have HLC : Hid (lr ++ p.consts.flatMap constL = lc) := hlc
            clear hlc
            go_wp2
            clear i2
            go_loopw [51] (fun i wr => ∃ k : Nat, i = .int .i64 k ∧ k ≤ n3 ∧ Hid (GiAt w wr ⟨.slice r1 3 c1, .slice r2 n2 c2, .slice r3 n3 c3, .slice r4 n4 c4⟩ b (lc ++ (p.funcs.take k).flatMap funcL))) (fun i _ => n3 - (intOf i).toNat)
            case atStart => exact ⟨0, rfl, by omega, by simpa [Hid] using HD.out⟩
            case round =>
              clear HD
              obtain ⟨k, rfl, hk, HA⟩ := hrel
              have hll3 : (lc ++ (p.funcs.take k).flatMap funcL).length ≤ 8615104512 := by
                rw [List.length_append]
                have := flat_take_le funcL 268435456 p.funcs k fun x hx => funcL_le x (HP.out.small.func x hx) (HP.out.wf.funcs x hx)
                rw [HL.out.2.2.1] at this
                omega
              by_cases hlt : k < n3
              · obtain ⟨f, hf⟩ : ∃ x, p.funcs[k]? = some x := ⟨_, List.getElem?_eq_getElem (by rw [HL.out.2.2.1]; exact hlt)⟩
                obtain ⟨gk, ok, ck, e1, ⟨gp, gl, gc⟩, hg, q0, q1, q2, q3⟩ := fn_at HP.out.rd.funcs hf
                rw [HL.out.2.2.1] at e1
                simp only [Value.slice.injEq, true_and] at e1
                obtain ⟨rfl, rfl⟩ := e1
                obtain ⟨a1, d1, e1⟩ : ∃ a c, gp = .slice a f.params.length c := hg.1.is_slice
                obtain ⟨a2, d2, e2⟩ : ∃ a c, gl = .slice a f.locals.length c := hg.2.1.is_slice
                obtain ⟨a3, d3, e3⟩ : ∃ a c, gc = .slice a f.code.length c := hg.2.2.is_slice
                subst e1 e2 e3
                have HG : Hid (RdF w ⟨.slice a1 f.params.length d1, .slice a2 f.locals.length d2, .slice a3 f.code.length d3⟩ f ∧ p.funcs[k]? = some f ∧ f.small ∧ f.wf) := ⟨hg, hf, HP.out.small.func f (List.mem_of_getElem? hf), HP.out.wf.funcs f (List.mem_of_getElem? hf)⟩
                rw [← HA.out.bel.cell (block_lt_of_cell q0)] at q0
                rw [← HA.out.bel.cell (block_lt_of_cell q1)] at q1
                rw [← HA.out.bel.cell (block_lt_of_cell q2)] at q2
                rw [← HA.out.bel.cell (block_lt_of_cell q3)] at q3
                have HOK : Hid (∀ x ∈ f.code, (0 ≤ x.op ∧ x.op ≤ 29) ∧ 0 ≤ x.a ∧ 0 ≤ x.b ∧ 0 ≤ x.c) := fun x hx => by
                  obtain ⟨q, hq⟩ := List.getElem?_of_mem hx
                  have := HS.out.instr hf hq
                  exact ⟨⟨this.1, this.2.1⟩, this.ge⟩
                clear hg hf
                go_upto_region 17 with fail
                refine wp_world (fun u => GiAt w u ⟨.slice r1 3 c1, .slice r2 n2 c2, .slice (some ⟨gk, ok, none⟩) n3 c3, .slice r4 n4 c4⟩ b (lc ++ (p.funcs.take k).flatMap funcL) ∧ Blk u wr.heap.size #[.slice a1 f.params.length d1, .int .i64 f.result, .slice a2 f.locals.length d2, .slice a3 f.code.length d3] 52) ⟨HA.out.call (below_alloc _ _), Blk.new _ _ _⟩ ?_
                rintro U hA
                have HA2 : Hid (GiAt w U ⟨.slice r1 3 c1, .slice r2 n2 c2, .slice (some ⟨gk, ok, none⟩) n3 c3, .slice r4 n4 c4⟩ b (lc ++ (p.funcs.take k).flatMap funcL) ∧ Blk U wr.heap.size #[.slice a1 f.params.length d1, .int .i64 f.result, .slice a2 f.locals.length d2, .slice a3 f.code.length d3] 52) := hA
                clear hA HA q0 q1 q2 q3
                generalize wr.heap.size = X at *
                obtain ⟨q0, q1, q2, q3⟩ : At4 U X (.slice a1 f.params.length d1) (.int .i64 f.result) (.slice a2 f.locals.length d2) (.slice a3 f.code.length d3) := ⟨HA2.out.2.cell 0, HA2.out.2.cell 1, HA2.out.2.cell 2, HA2.out.2.cell 3⟩
                go_wp2_with fail
                refine (function_any w b _ ⟨.slice a1 f.params.length d1, .slice a2 f.locals.length d2, .slice a3 f.code.length d3⟩ f U HA2.out.1.bel HA2.out.1.page HG.out.1 HT.out HG.out.2.2.1 HG.out.2.2.2 HOK.out (by omega)).mono ?_
                rintro e u3 ⟨rfl, hp, hg⟩
                have HA3 : Hid (GiAt w u3 ⟨.slice r1 3 c1, .slice r2 n2 c2, .slice (some ⟨gk, ok, none⟩) n3 c3, .slice r4 n4 c4⟩ b (lc ++ (p.funcs.take (k + 1)).flatMap funcL)) := HA2.out.1.put (by rw [flat_next funcL p.funcs k f HG.out.2.1, ← List.append_assoc]; exact hp) hg
                clear hp hg HA2 q0 q1 q2 q3
                go_wp2
                go_roundw
                case rel => exact ⟨k + 1, by go_num, by omega, HA3.out⟩
                case measure => simp [intOf]; omega
              · have hk3 : n3 = k := by omega
                subst hk3
                have HD : Hid (GiAt w wr ⟨.slice r1 3 c1, .slice r2 n2 c2, .slice r3 n3 c3, .slice r4 n4 c4⟩ b (lc ++ p.funcs.flatMap funcL)) := by
                  have := HA.out
                  rw [List.take_of_length_le (by rw [HL.out.2.2.1]; exact Nat.le_refl _)] at this
                  exact this
                rw [List.take_of_length_le (by rw [HL.out.2.2.1]; exact Nat.le_refl _)] at hll3
                clear hlt HA
                have i3 : wr.cell? ⟨w.heap.size, 3, none⟩ = some (.slice r4 n4 c4) := HD.out.prog.cell 3
                generalize hlf : lc ++ p.funcs.flatMap funcL = lf at *
                have HLF : Hid (lc ++ p.funcs.flatMap funcL = lf) := hlf
                clear hlf
                go_wp2
                clear i3
                go_loopw [62] (fun i wr => ∃ k : Nat, i = .int .i64 k ∧ k ≤ n4 ∧ Hid (GiAt w wr ⟨.slice r1 3 c1, .slice r2 n2 c2, .slice r3 n3 c3, .slice r4 n4 c4⟩ b (lf ++ (p.certs.take k).flatMap certL))) (fun i _ => n4 - (intOf i).toNat)
                case atStart => exact ⟨0, rfl, by omega, by simpa [Hid] using HD.out⟩
                case round =>
                  clear HD
                  obtain ⟨k, rfl, hk, HA⟩ := hrel
                  have hll4 : (lf ++ (p.certs.take k).flatMap certL).length ≤ 8615112704 := by
                    rw [List.length_append]
                    have := flat_take_le certL 128 p.certs k fun x hx => certL_le x (HP.out.wf.certs x hx)
                    rw [HL.out.2.2.2] at this
                    omega
                  by_cases hlt : k < n4
                  · obtain ⟨x, hx⟩ : ∃ x, p.certs[k]? = some x := ⟨_, List.getElem?_eq_getElem (by rw [HL.out.2.2.2]; exact hlt)⟩
                    have hxw := HP.out.wf.certs x (List.mem_of_getElem? hx)
                    have hge := HS.out.cert hx
                    have HCL : Hid ((certL x).length ≤ 128) := certL_le x hxw
                    rcases HP.out.rd.certs.2 with ⟨e0, _⟩ | ⟨g, o, c, e1, hc1⟩
                    · rw [HL.out.2.2.2] at e0
                      omega
                    rw [HL.out.2.2.2] at e1
                    simp only [Value.slice.injEq, true_and] at e1
                    obtain ⟨rfl, rfl⟩ := e1
                    have j0 := Rd.elem MT.cells_length hc1 k _ hx 0 _ rfl
                    have j1 := Rd.elem MT.cells_length hc1 k _ hx 1 _ rfl
                    have j2 := Rd.elem MT.cells_length hc1 k _ hx 2 _ rfl
                    have j3 := Rd.elem MT.cells_length hc1 k _ hx 3 _ rfl
                    rw [← HA.out.bel.cell (block_lt_of_cell j0), Nat.add_zero] at j0
                    rw [← HA.out.bel.cell (block_lt_of_cell j1)] at j1
                    rw [← HA.out.bel.cell (block_lt_of_cell j2)] at j2
                    rw [← HA.out.bel.cell (block_lt_of_cell j3)] at j3
                    have HN : Hid (lf ++ (p.certs.take (k + 1)).flatMap certL = (lf ++ (p.certs.take k).flatMap certL) ++ certL x) := by show _ = _; rw [flat_next certL p.certs k x hx, List.append_assoc]
                    clear hc1 hx
                    obtain ⟨x0, x1, x2, x3⟩ := x
                    simp only [] at j0 j1 j2 j3 hge
                    have HW : Hid (∀ y ∈ [x0, x1, x2, x3], 0 ≤ y ∧ y ≤ 9223372036854775807) := by
                      have h0 := (W64_in hxw.1).2
                      have h1 := (W64_in hxw.2.1).2
                      have h2 := (W64_in hxw.2.2.1).2
                      have h3 := W32_lo hxw.2.2.2
                      simp only [] at h0 h1 h2 h3
                      intro y hy
                      simp at hy
                      omega
                    have hw3 := W32_lo hxw.2.2.2
                    simp only [] at hw3
                    have hcv : IntKind.i64.wrap x3 = x3 := by rw [IntKind.wrap_i64]; omega
                    clear hge hxw
                    generalize lf ++ (p.certs.take k).flatMap certL = l4 at *
                    go_upto_region 22 with fail
                    refine wp_world (fun u => GiAt w u ⟨.slice r1 3 c1, .slice r2 n2 c2, .slice r3 n3 c3, .slice (some ⟨g, o, none⟩) n4 c4⟩ b l4 ∧ Blk u wr.heap.size #[.int .i64 x0, .int .i64 x1, .int .i64 x2, .int .u32 x3] 57) ⟨HA.out.call (below_alloc _ _), Blk.new _ _ _⟩ ?_
                    rintro U hA
                    have HA2 : Hid (GiAt w U ⟨.slice r1 3 c1, .slice r2 n2 c2, .slice r3 n3 c3, .slice (some ⟨g, o, none⟩) n4 c4⟩ b l4 ∧ Blk U wr.heap.size #[.int .i64 x0, .int .i64 x1, .int .i64 x2, .int .u32 x3] 57) := hA
                    clear hA HA j0 j1 j2 j3
                    generalize wr.heap.size = X at *
                    obtain ⟨q0, q1, q2, q3⟩ : At4 U X (.int .i64 x0) (.int .i64 x1) (.int .i64 x2) (.int .u32 x3) := ⟨HA2.out.2.cell 0, HA2.out.2.cell 1, HA2.out.2.cell 2, HA2.out.2.cell 3⟩
                    have HB4 : Hid (Below U.heap.size U (U.alloc (.cells #[.int .i64 x0, .int .i64 x1, .int .i64 x2, .int .i64 x3] 2))) := below_alloc _ _
                    go_wp2_with fail
                    refine (numerals64_any (.slice (some ⟨U.heap.size, 0, none⟩) 4 4) 4 [x0, x1, x2, x3] _ (by omega) (rd_lit U [.int .i64 x0, .int .i64 x1, .int .i64 x2, .int .i64 x3] 2) rfl HW.out (HT.out.keep (below_on HA2.out.1.bel (Nat.le_refl _) HB4.out) (Nat.le_refl _))).mono ?_
                    rintro e u3 ⟨rfl, ho, b3⟩
                    rw [decCell_flat] at ho
                    have HA3 : Hid (GiAt w u3 ⟨.slice r1 3 c1, .slice r2 n2 c2, .slice r3 n3 c3, .slice (some ⟨g, o, none⟩) n4 c4⟩ b l4) := (HA2.out.1.call HB4.out).call b3
                    have HO : Hid (u3.ownsRow (U.alloc (.cells #[.int .i64 x0, .int .i64 x1, .int .i64 x2, .int .i64 x3] 2)).heap.size 9 1 (.slice (some ⟨(U.alloc (.cells #[.int .i64 x0, .int .i64 x1, .int .i64 x2, .int .i64 x3] 2)).heap.size, 0, none⟩) 4 4) [decL x0, decL x1, decL x2, decL x3].length ([decL x0, decL x1, decL x2, decL x3].flatMap wordCell)) := ho
                    clear ho b3 HA2 HB4 q0 q1 q2 q3
                    generalize (U.alloc (.cells #[.int .i64 x0, .int .i64 x1, .int .i64 x2, .int .i64 x3] 2)).heap.size = A4 at HO ⊢
                    go_wp2_with fail
                    refine (line_any w.heap.size b l4 [108, 111, 111, 112] _ [decL x0, decL x1, decL x2, decL x3] A4 u3 HA3.out.page HO.out HA3.out.bel.size (by simp) (by have := HCL.out; rw [certL] at this; simp only [] at this; omega)).mono ?_
                    rintro e u4 ⟨rfl, hp, hg⟩
                    have HA4 : Hid (GiAt w u4 ⟨.slice r1 3 c1, .slice r2 n2 c2, .slice r3 n3 c3, .slice (some ⟨g, o, none⟩) n4 c4⟩ b (l4 ++ certL ⟨x0, x1, x2, x3⟩)) := HA3.out.put hp hg
                    clear hp hg HA3 HO
                    go_wp2
                    go_roundw
                    case rel => exact ⟨k + 1, by go_num, by omega, by rw [HN.out]; exact HA4.out⟩
                    case measure => simp [intOf]; omega
                  · have hk3 : n4 = k := by omega
                    subst hk3
                    have HE : Hid (GiAt w wr ⟨.slice r1 3 c1, .slice r2 n2 c2, .slice r3 n3 c3, .slice r4 n4 c4⟩ b (textL p)) := by
                      have := HA.out
                      rw [List.take_of_length_le (by rw [HL.out.2.2.2]; exact Nat.le_refl _), ← HLF.out, ← HLC.out, HLR.out] at this
                      exact this
                    have hne : textL p ≠ [] := fun e => by have := textL_pos HS.out; rw [e] at this; cases this
                    clear HA hlt
                    go_wp2_with fail
                    refine (string_any w.heap.size b (textL p) _ HE.out.page hne).mono ?_
                    rintro e u9 ⟨rfl, b9⟩
                    have HB9 : Hid (Below w.heap.size w u9) := HE.out.bel.trans b9
                    clear b9 HE
                    have HFR : Hid (FmRes (.returned (.string ⟨(textL p).toArray⟩)) p) := FmRes.good HF.out rfl
                    generalize textL p = tt at *
                    go_wp2
                    go_ret
                    exact ⟨HFR.out, HB9.out⟩
  · have HN : Hid (¬ n = 0) := hn
    rw [errOf, if_neg hn]
    clear hn
    go_wp2
    go_ret
    exact ⟨FmRes.bad HF.out HN.out, HB1.out.2⟩
end Go.Proofs.YthifelgdkmkdkaaGreatDoor
