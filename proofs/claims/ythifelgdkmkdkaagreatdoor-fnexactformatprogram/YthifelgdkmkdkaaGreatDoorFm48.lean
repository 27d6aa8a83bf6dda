import Derived.Test.YthifelgdkmkdkaaGreatDoorFm35
import Derived.Test.YthifelgdkmkdkaaGreatDoorFm37
import Derived.Deep.DeepCutAuto
namespace Go.Proofs.YthifelgdkmkdkaaGreatDoor
open Go.ChangeShapes Go.WideShapes Go.ChangeAt Go.RowKit
set_option linter.unusedVariables false
set_option maxHeartbeats 8000000 in
set_option maxRecDepth 100000 in
theorem specFormat_any (v : VP) (p : MP) (w : World) (hs : p.small) (hw : p.wf) (h : RdP w v p) :
    Calls Tryz.prog 5 #[.agg #[v.r, v.k, v.f, v.t]] w fun e w' => FmRes e p ∧ Below w.heap.size w w' := by
  obtain ⟨b0, hb0, hz0, hz1, hz2⟩ := info_parts infoByte
  obtain ⟨xs, ys, hP⟩ := Pg.of hs hw h
  obtain ⟨vr, vk, vf, vt⟩ := v
  simp only [] at hP
  obtain ⟨r1, c1, e1⟩ := hP.rr.is_slice
  obtain ⟨r2, c2, e2⟩ : ∃ a c, vk = .slice a p.consts.length c := h.consts.is_slice
  obtain ⟨r3, c3, e3⟩ := hP.fr.is_slice
  obtain ⟨r4, c4, e4⟩ : ∃ a c, vt = .slice a p.certs.length c := h.certs.is_slice
  subst e1 e2 e3 e4
  have HP : Hid (Pg w (.slice r1 p.regions.length c1) (.slice r2 p.consts.length c2) (.slice r3 p.funcs.length c3) (.slice r4 p.certs.length c4) p xs ys) := hP
  clear hP hs hw h
  have I0 := At4.new w (.slice r1 p.regions.length c1) (.slice r2 p.consts.length c2) (.slice r3 p.funcs.length c3) (.slice r4 p.certs.length c4) 34
  have HB0 : Hid (Blk (w.alloc (.cells #[.slice r1 p.regions.length c1, .slice r2 p.consts.length c2, .slice r3 p.funcs.length c3, .slice r4 p.certs.length c4] 34)) w.heap.size #[.slice r1 p.regions.length c1, .slice r2 p.consts.length c2, .slice r3 p.funcs.length c3, .slice r4 p.certs.length c4] 34) := Blk.new _ _ _
  obtain ⟨i0, i1, i2, i3⟩ := I0
  go_enter Tryz.func5, Tryz.ntmps5
  go_wp2_with fail
  refine (specFault_any ⟨.slice r1 p.regions.length c1, .slice r2 p.consts.length c2, .slice r3 p.funcs.length c3, .slice r4 p.certs.length c4⟩ p _ HP.out.small HP.out.wf (HP.out.rd.keep (below_alloc _ _) (Nat.le_refl _))).mono ?_
  rintro e u1 ⟨⟨n, rfl, hf⟩, b1⟩
  have HB1 : Hid (Blk u1 w.heap.size #[.slice r1 p.regions.length c1, .slice r2 p.consts.length c2, .slice r3 p.funcs.length c3, .slice r4 p.certs.length c4] 34 ∧ Below w.heap.size w u1) := ⟨HB0.out.keep b1, below_on (below_alloc _ _) (Nat.le_refl _) b1⟩
  have HF : Hid (FaultIs p n) := hf
  clear HB0 b1 hf i0 i1 i2 i3
  by_cases hn : n = 0
  · subst hn
    have HS : Hid (Sound p) := HF.out.sound
    have hR := HS.out.reg
    have hC := HS.out.consts.1
    have hFn := HS.out.funcs.2.1
    have hT := HS.out.certs.1
    generalize hL1 : p.regions.length = n1 at *
    generalize hL2 : p.consts.length = n2 at *
    generalize hL3 : p.funcs.length = n3 at *
    generalize hL4 : p.certs.length = n4 at *
    subst hR
    have HL : Hid (p.regions.length = 3 ∧ p.consts.length = n2 ∧ p.funcs.length = n3 ∧ p.certs.length = n4) := ⟨hL1, hL2, hL3, hL4⟩
    clear hL1 hL2 hL3 hL4
    go_wp2
    go_loopw [3, 4] (fun o i wr => ∃ (l : List UInt8) (k : Nat), i = .int .i64 k ∧ k ≤ 3 ∧ Hid (l = (p.regions.take k).flatMap regionL) ∧ Hid (FmAt w wr ⟨.slice r1 3 c1, .slice r2 n2 c2, .slice r3 n3 c3, .slice r4 n4 c4⟩ o l)) (fun _ i _ => 3 - (intOf i).toNat)
    case atStart =>
      refine ⟨[], 0, rfl, by omega, rfl, ?_⟩
      refine ⟨below_on HB1.out.2 (Nat.le_refl _) (below_alloc _ _), HB1.out.1.keep (below_alloc _ _), ?_⟩
      have := HB1.out.1.lt
      exact World.ownsRow_lit _ #[] 0 (by omega) (by unfold maxLen; omega) (by simp)
    case round =>
      clear HB1
      obtain ⟨l, k, rfl, hk, HLk, HA⟩ := hrel
      obtain ⟨i0, i1, i2, i3⟩ : At4 wr w.heap.size (.slice r1 3 c1) (.slice r2 n2 c2) (.slice r3 n3 c3) (.slice r4 n4 c4) := ⟨HA.out.prog.cell 0, HA.out.prog.cell 1, HA.out.prog.cell 2, HA.out.prog.cell 3⟩
      have hll : l.length ≤ 25165824 := by
        rw [HLk.out]
        have := flat_take_le regionL 8388608 p.regions k fun x hx => regionL_le x (HP.out.small.region x hx)
        rw [HL.out.1] at this
        omega
      by_cases hlt : k < 3
      · obtain ⟨⟨f, v⟩, hx⟩ : ∃ x, xs[k]? = some x := ⟨_, List.getElem?_eq_getElem (by rw [HP.out.rl, HL.out.1]; exact hlt)⟩
        have e1 := fst_at HP.out.rm hx
        have hf := (HP.out.re _ (List.mem_of_getElem? hx)).keep HA.out.bel (Nat.le_refl _)
        have hfl : f.length ≤ 1048576 := HP.out.small.region _ (List.mem_of_getElem? e1)
        have HX : Hid (Rd wr 1 v f.length (f.flatMap intCell) ∧ p.regions[k]? = some f) := ⟨hf, e1⟩
        clear e1
        rcases HP.out.rr.2 with ⟨e0, _⟩ | ⟨b, o, c, e1, hc1⟩
        · rw [HL.out.1] at e0
          omega
        · rw [HL.out.1] at e1
          simp only [Value.slice.injEq, true_and] at e1
          obtain ⟨rfl, rfl⟩ := e1
          have j0 := Rd.elem rCells_length hc1 k _ hx 0 _ rfl
          rw [← HA.out.bel.cell (block_lt_of_cell j0)] at j0
          rw [Nat.mul_one, Nat.add_zero] at j0
          clear hc1 hx
          simp only [] at j0 hf
          obtain ⟨av, cv, ev⟩ := hf.is_slice
          subst ev
          clear hf
          go_wp2_with fail
          refine (l11Types_any _ f _ hfl HX.out.1).mono ?_
          rintro e u2 ⟨rfl, b2⟩
          have HA2 : Hid (FmAt w u2 ⟨.slice (some ⟨b, o, none⟩) 3 c1, .slice r2 n2 c2, .slice r3 n3 c3, .slice r4 n4 c4⟩ _ l) := HA.out.call b2
          have ht := types_le f _ hfl
          have HN : Hid ((p.regions.take (k + 1)).flatMap regionL = l ++ ([114, 101, 103, 105, 111, 110] ++ wordsT (f.map tyName) ++ [10])) := by
            show _ = _
            rw [flat_next regionL p.regions k f HX.out.2, ← HLk.out]
            rfl
          generalize wordsT (f.map tyName) = T at *
          clear b2 HA i0 i1 i2 i3 j0
          unfold strV
          have hs2 := HA2.out.size
          have hc3 : l.length + (⟨#[114, 101, 103, 105, 111, 110]⟩ ++ ⟨T.toArray⟩ ++ ⟨#[10]⟩ : ByteArray).size ≤ 140737488355328 := by rw [str_append, str_append]; simp [ByteArray.size]; omega
          have HC3 : Hid (l.length + (⟨#[114, 101, 103, 105, 111, 110]⟩ ++ ⟨T.toArray⟩ ++ ⟨#[10]⟩ : ByteArray).size ≤ 140737488355328) := hc3
          clear hc3
          go_wp2_with (at_builtin; refine Lib.wpList_append_own_string _ rfl _ _ 43 9 rfl (w.heap.size + 1) 5 b0 Tryz.underlying43 Tryz.underlying9 hb0 hz0 hz1 hz2 _ _ _ rfl HA2.out.own _ rfl (by unfold maxLen; have := HC3.out; omega) HC3.out hs2 ?_; intro V' u3 ho hg _; have HA3 : Hid (FmAt w u3 ⟨.slice (some ⟨b, o, none⟩) 3 c1, .slice r2 n2 c2, .slice r3 n3 c3, .slice r4 n4 c4⟩ V' (l ++ ([114, 101, 103, 105, 111, 110] ++ T ++ [10]))) := HA2.out.more ho hg _ (by simp); clear ho hg HA2)
          go_roundw
          case rel => exact ⟨_, k + 1, by go_num, by omega, HN.out.symm, HA3.out⟩
          case measure => simp [intOf]; omega
      · have HD : Hid (l = p.regions.flatMap regionL) := by
          show _ = _
          rw [HLk.out, List.take_of_length_le (by rw [HL.out.1]; omega)]
        have hlt3 : ¬ (k : Int) < 3 := by omega
        clear HLk hlt hk
        go_wp2
        clear hlt3
        clear i0 i1 i2 i3
        go_loopw [3, 5] (fun o i wr => ∃ (l2 : List UInt8) (k : Nat), i = .int .i64 k ∧ k ≤ n2 ∧ Hid (l2 = l ++ (p.consts.take k).flatMap constL) ∧ Hid (FmAt w wr ⟨.slice r1 3 c1, .slice r2 n2 c2, .slice r3 n3 c3, .slice r4 n4 c4⟩ o l2)) (fun _ i _ => n2 - (intOf i).toNat)
        case atStart => exact ⟨l, 0, rfl, by omega, by simp [Hid], HA.out⟩
        case round =>
          clear HA
          obtain ⟨l2, k, rfl, hk, HLk, HA⟩ := hrel
          obtain ⟨i0, i1, i2, i3⟩ : At4 wr w.heap.size (.slice r1 3 c1) (.slice r2 n2 c2) (.slice r3 n3 c3) (.slice r4 n4 c4) := ⟨HA.out.prog.cell 0, HA.out.prog.cell 1, HA.out.prog.cell 2, HA.out.prog.cell 3⟩
          have hll2 : l2.length ≤ 25169920 := by
            rw [HLk.out, List.length_append]
            have := flat_take_le constL 64 p.consts k fun x hx => constL_le x (HP.out.wf.consts x hx).2
            rw [HL.out.2.1] at this
            omega
          by_cases hlt : k < n2
          · obtain ⟨x, hx⟩ : ∃ x, p.consts[k]? = some x := ⟨_, List.getElem?_eq_getElem (by rw [HL.out.2.1]; exact hlt)⟩
            have hxw := W32_lo (HP.out.wf.consts x (List.mem_of_getElem? hx)).2
            have HX : Hid (p.consts[k]? = some x) := hx
            rcases HP.out.rd.consts.2 with ⟨e0, _⟩ | ⟨b, o, c, e1, hc1⟩
            · rw [HL.out.2.1] at e0
              omega
            rw [HL.out.2.1] at e1
            simp only [Value.slice.injEq, true_and] at e1
            obtain ⟨rfl, rfl⟩ := e1
            have j0 := Rd.elem MC.cells_length hc1 k _ hx 0 _ rfl
            have j1 := Rd.elem MC.cells_length hc1 k _ hx 1 _ rfl
            rw [← HA.out.bel.cell (block_lt_of_cell j0), Nat.add_zero] at j0
            rw [← HA.out.bel.cell (block_lt_of_cell j1)] at j1
            clear hc1 hx
            have HN : Hid ((p.consts.take (k + 1)).flatMap constL = (p.consts.take k).flatMap constL ++ constL x) := flat_next constL p.consts k x HX.out
            obtain ⟨ty, wd⟩ := x
            simp only [] at j0 j1 hxw
            have hcv : IntKind.i64.wrap wd = wd := by rw [IntKind.wrap_i64]; omega
            have hty := tyName_length ty
            have hdl := decL_length wd (by omega)
            have inst := Grown.some wr
            have I1 := fun n : Grown wr => Grown.cell i1 n
            have J0 := fun n : Grown wr => Grown.cell j0 n
            have J1 := fun n : Grown wr => Grown.cell j1 n
            go_wp2_with fail
            refine wp_region_grown_tail 20 (by kernel_rfl) (by kernel_rfl) ?_
            simp only [List.take_succ_cons, List.take_zero, List.drop_succ_cons, List.drop_zero]
            repeat (go_big_quiet_step (first
              | (go_at_call 15; rename_i n; exact (STypeName_any ty n.u).mono fun e w'' h => ⟨show e = .returned (.string ⟨(tyName ty).toArray⟩) from h.1, ⟨⟨w'', below_on n.h (Nat.le_refl _) h.2⟩, rfl⟩⟩)
              | (go_at_call 16; rename_i n; exact (l11Dec_any wd (by omega) (by omega) n.u).mono fun e w'' h => ⟨show e = .returned (.string ⟨(decL wd).toArray⟩) from h.1, ⟨⟨w'', below_on n.h (Nat.le_refl _) h.2⟩, rfl⟩⟩)))
            refine wpQuiet_nil ?_
            rintro w'' ⟨n, rfl⟩
            have HA2 : Hid (FmAt w n.u ⟨.slice r1 3 c1, .slice (some ⟨b, o, none⟩) n2 c2, .slice r3 n3 c3, .slice r4 n4 c4⟩ u3 l2) := HA.out.call n.h
            generalize n.u = U at *
            clear HA i0 i1 i2 i3 j0 j1 I1 J0 J1 inst n
            have HE : Hid (constL ⟨ty, wd⟩ = [99, 111, 110, 115, 116, 32] ++ tyName ty ++ [32] ++ decL wd ++ [10]) := by
              show _ = _
              simp [constL, lineT, wordsT]
            generalize tyName ty = t1 at *
            generalize decL wd = t2 at *
            have HC3 : Hid (l2.length + (⟨#[99, 111, 110, 115, 116, 32]⟩ ++ ⟨t1.toArray⟩ ++ ⟨#[32]⟩ ++ ⟨t2.toArray⟩ ++ ⟨#[10]⟩ : ByteArray).size ≤ 140737488355328) := by
              show _ ≤ _
              rw [str_append, str_append, str_append, str_append]
              simp [ByteArray.size]
              omega
            have hs2 := HA2.out.size
            go_wp2_with (at_builtin; refine Lib.wpList_append_own_string _ rfl _ _ 43 9 rfl (w.heap.size + 1) 5 b0 Tryz.underlying43 Tryz.underlying9 hb0 hz0 hz1 hz2 _ _ _ rfl HA2.out.own _ rfl (by unfold maxLen; have := HC3.out; omega) HC3.out hs2 ?_; intro V' u3 ho hg _; have HA3 : Hid (FmAt w u3 ⟨.slice r1 3 c1, .slice (some ⟨b, o, none⟩) n2 c2, .slice r3 n3 c3, .slice r4 n4 c4⟩ V' (l2 ++ ([99, 111, 110, 115, 116, 32] ++ t1 ++ [32] ++ t2 ++ [10]))) := HA2.out.more ho hg _ (by simp); clear ho hg HA2)
            go_wp2
            go_roundw
            case rel =>
              refine ⟨_, k + 1, by go_num, by omega, ?_, HA3.out⟩
              show _ = _
              rw [HN.out, ← HE.out, HLk.out, List.append_assoc]
            case measure => simp [intOf]; omega
          · have hk3 : n2 = k := by omega
            subst hk3
            have HD2 : Hid (l2 = p.regions.flatMap regionL ++ p.consts.flatMap constL) := by
              show _ = _
              rw [HLk.out, HD.out, List.take_of_length_le (by rw [HL.out.2.1]; exact Nat.le_refl _)]
            clear HLk hlt HD hll
            go_wp2
            clear i0 i1 i2 i3
            go_loopw [3, 6] (fun o i wr => ∃ (l3 : List UInt8) (k : Nat), i = .int .i64 k ∧ k ≤ n3 ∧ Hid (l3 = l2 ++ (p.funcs.take k).flatMap funcL) ∧ Hid (FmAt w wr ⟨.slice r1 3 c1, .slice r2 n2 c2, .slice r3 n3 c3, .slice r4 n4 c4⟩ o l3)) (fun _ i _ => n3 - (intOf i).toNat)
            case atStart => exact ⟨l2, 0, rfl, by omega, by simp [Hid], HA.out⟩
            case round =>
              clear HA
              obtain ⟨l3, k, rfl, hk, HLk, HA⟩ := hrel
              obtain ⟨i0, i1, i2, i3⟩ : At4 wr w.heap.size (.slice r1 3 c1) (.slice r2 n2 c2) (.slice r3 n3 c3) (.slice r4 n4 c4) := ⟨HA.out.prog.cell 0, HA.out.prog.cell 1, HA.out.prog.cell 2, HA.out.prog.cell 3⟩
              have hll3 : l3.length ≤ 8615104512 := by
                rw [HLk.out, List.length_append]
                have := flat_take_le funcL 268435456 p.funcs k fun x hx => funcL_le x (HP.out.small.func x hx) (HP.out.wf.funcs x hx)
                rw [HL.out.2.2.1] at this
                omega
              by_cases hlt : k < n3
              · obtain ⟨f, hf⟩ : ∃ x, p.funcs[k]? = some x := ⟨_, List.getElem?_eq_getElem (by rw [HL.out.2.2.1]; exact hlt)⟩
                obtain ⟨gk, ok, ck, e1, ⟨gp, gl, gc⟩, hg, q0, q1, q2, q3⟩ := fn_at HP.out.rd.funcs hf
                rw [HL.out.2.2.1] at e1
                simp only [Value.slice.injEq, true_and] at e1
                obtain ⟨rfl, rfl⟩ := e1
                obtain ⟨a1, d1, e1⟩ : ∃ a c, gp = .slice a f.params.length c := hg.1.is_slice
                obtain ⟨a2, d2, e2⟩ : ∃ a c, gl = .slice a f.locals.length c := hg.2.1.is_slice
                obtain ⟨a3, d3, e3⟩ : ∃ a c, gc = .slice a f.code.length c := hg.2.2.is_slice
                subst e1 e2 e3
                have HG : Hid (RdF w ⟨.slice a1 f.params.length d1, .slice a2 f.locals.length d2, .slice a3 f.code.length d3⟩ f ∧ p.funcs[k]? = some f ∧ f.small ∧ f.wf) := ⟨hg, hf, HP.out.small.func f (List.mem_of_getElem? hf), HP.out.wf.funcs f (List.mem_of_getElem? hf)⟩
                rw [← HA.out.bel.cell (block_lt_of_cell q0)] at q0
                rw [← HA.out.bel.cell (block_lt_of_cell q1)] at q1
                rw [← HA.out.bel.cell (block_lt_of_cell q2)] at q2
                rw [← HA.out.bel.cell (block_lt_of_cell q3)] at q3
                clear hg hf
                go_upto_region 17 with fail
                refine wp_world (fun u => FmAt w u ⟨.slice r1 3 c1, .slice r2 n2 c2, .slice (some ⟨gk, ok, none⟩) n3 c3, .slice r4 n4 c4⟩ u3 l3 ∧ Blk u wr.heap.size #[.slice a1 f.params.length d1, .int .i64 f.result, .slice a2 f.locals.length d2, .slice a3 f.code.length d3] 52) ⟨HA.out.call (below_alloc _ _), Blk.new _ _ _⟩ ?_
                rintro U ⟨hA, hB⟩
                have HA : Hid (FmAt w U ⟨.slice r1 3 c1, .slice r2 n2 c2, .slice (some ⟨gk, ok, none⟩) n3 c3, .slice r4 n4 c4⟩ u3 l3 ∧ Blk U wr.heap.size #[.slice a1 f.params.length d1, .int .i64 f.result, .slice a2 f.locals.length d2, .slice a3 f.code.length d3] 52) := ⟨hA, hB⟩
                clear hA hB i0 i1 i2 i3 q0 q1 q2 q3
                generalize wr.heap.size = X at *
                obtain ⟨q0, q1, q2, q3⟩ : At4 U X (.slice a1 f.params.length d1) (.int .i64 f.result) (.slice a2 f.locals.length d2) (.slice a3 f.code.length d3) := ⟨HA.out.2.cell 0, HA.out.2.cell 1, HA.out.2.cell 2, HA.out.2.cell 3⟩
                go_upto_if 72 with fail
                go_cut [8] (fun s wx => s = .string ⟨(resW f.result).toArray⟩ ∧ Hid (FmAt w wx ⟨.slice r1 3 c1, .slice r2 n2 c2, .slice (some ⟨gk, ok, none⟩) n3 c3, .slice r4 n4 c4⟩ u3 l3 ∧ Blk wx X #[.slice a1 f.params.length d1, .int .i64 f.result, .slice a2 f.locals.length d2, .slice a3 f.code.length d3] 52))
                case first =>
                  by_cases hr : f.result = 0
                  · have hr' : (f.result != 0) = false := by simpa using hr
                    have HR : Hid (resW f.result = [110, 111, 110, 101]) := by show _ = _; rw [resW, if_pos hr]
                    clear hr
                    go_wp2_with fail
                    go_meet
                    exact ⟨by rw [HR.out], HA⟩
                  · have hr' : (f.result != 0) = true := by simpa using hr
                    have HR : Hid (resW f.result = tyName f.result) := by show _ = _; rw [resW, if_neg hr]
                    clear hr
                    go_wp2_with fail
                    refine (STypeName_any f.result _).mono ?_
                    rintro e u2 ⟨rfl, b2⟩
                    have HA2 : Hid (FmAt w u2 ⟨.slice r1 3 c1, .slice r2 n2 c2, .slice (some ⟨gk, ok, none⟩) n3 c3, .slice r4 n4 c4⟩ u3 l3 ∧ Blk u2 X #[.slice a1 f.params.length d1, .int .i64 f.result, .slice a2 f.locals.length d2, .slice a3 f.code.length d3] 52) := ⟨HA.out.1.call b2, HA.out.2.keep b2⟩
                    unfold strV
                    go_wp2_with fail
                    go_meet
                    exact ⟨by rw [HR.out], HA2⟩
                case rest =>
                obtain ⟨rfl, HA2⟩ := hcut
                clear q0 q1 q2 q3 HA U
                obtain ⟨q0, q1, q2, q3⟩ : At4 wc X (.slice a1 f.params.length d1) (.int .i64 f.result) (.slice a2 f.locals.length d2) (.slice a3 f.code.length d3) := ⟨HA2.out.2.cell 0, HA2.out.2.cell 1, HA2.out.2.cell 2, HA2.out.2.cell 3⟩
                have inst := Grown.some wc
                have Q0 := fun n : Grown wc => Grown.cell q0 n
                have Q2 := fun n : Grown wc => Grown.cell q2 n
                have hrl := resW_le f.result
                have hpl := types_le f.params _ HG.out.2.2.1.1
                have hol := types_le f.locals _ HG.out.2.2.1.2.1
                go_wp2_with fail
                refine wp_region_grown_tail 14 (by kernel_rfl) (by kernel_rfl) ?_
                simp only [List.take_succ_cons, List.take_zero, List.drop_succ_cons, List.drop_zero]
                repeat (go_big_quiet_step (fail))
                go_big_quiet_step ((go_at_call 14; rename_i n; exact (l11Types_any (.slice a1 f.params.length d1) f.params n.u HG.out.2.2.1.1 (HG.out.1.1.keep (below_on HA2.out.1.bel (Nat.le_refl _) n.h) (Nat.le_refl _))).mono fun e w'' h => ⟨show e = .returned (.string ⟨(wordsT (f.params.map tyName)).toArray⟩) from h.1, ⟨⟨w'', below_on n.h (Nat.le_refl _) h.2⟩, rfl⟩⟩))
                repeat (go_big_quiet_step (fail))
                go_big_quiet_step ((go_at_call 14; rename_i n; exact (l11Types_any (.slice a2 f.locals.length d2) f.locals n.u HG.out.2.2.1.2.1 (HG.out.1.2.1.keep (below_on HA2.out.1.bel (Nat.le_refl _) n.h) (Nat.le_refl _))).mono fun e w'' h => ⟨show e = .returned (.string ⟨(wordsT (f.locals.map tyName)).toArray⟩) from h.1, ⟨⟨w'', below_on n.h (Nat.le_refl _) h.2⟩, rfl⟩⟩))
                repeat (go_big_quiet_step (fail))
                refine wpQuiet_nil ?_
                rintro w'' ⟨n, rfl⟩
                have HA3 : Hid (FmAt w n.u ⟨.slice r1 3 c1, .slice r2 n2 c2, .slice (some ⟨gk, ok, none⟩) n3 c3, .slice r4 n4 c4⟩ u3 l3 ∧ Blk n.u X #[.slice a1 f.params.length d1, .int .i64 f.result, .slice a2 f.locals.length d2, .slice a3 f.code.length d3] 52) := ⟨HA2.out.1.call n.h, HA2.out.2.keep n.h⟩
                have HE : Hid (lineT [102, 117, 110, 99] (funcW f) = [102, 117, 110, 99] ++ wordsT (f.params.map tyName) ++ [32, 58, 32] ++ resW f.result ++ [32, 58] ++ wordsT (f.locals.map tyName) ++ [10]) := by
                  show _ = _
                  rw [lineT, funcW, wordsT_append, wordsT_append, wordsT_append]
                  simp [wordsT]
                clear HA2 q0 q1 q2 q3 Q0 Q2
                generalize n.u = U at *
                clear n inst wc
                generalize wordsT (f.params.map tyName) = t1 at *
                generalize wordsT (f.locals.map tyName) = t2 at *
                generalize resW f.result = t3 at *
                have HC3 : Hid (l3.length + (⟨#[102, 117, 110, 99]⟩ ++ ⟨t1.toArray⟩ ++ ⟨#[32, 58, 32]⟩ ++ ⟨t3.toArray⟩ ++ ⟨#[32, 58]⟩ ++ ⟨t2.toArray⟩ ++ ⟨#[10]⟩ : ByteArray).size ≤ 140737488355328) := by
                  show _ ≤ _
                  rw [str_append, str_append, str_append, str_append, str_append, str_append]
                  simp [ByteArray.size]
                  omega
                have hs2 := HA3.out.1.size
                go_wp2_with (at_builtin; refine Lib.wpList_append_own_string _ rfl _ _ 43 9 rfl (w.heap.size + 1) 5 b0 Tryz.underlying43 Tryz.underlying9 hb0 hz0 hz1 hz2 _ _ _ rfl HA3.out.1.own _ rfl (by unfold maxLen; have := HC3.out; omega) HC3.out hs2 ?_; intro V' u3 ho hg _; have HA4 : Hid (FmAt w u3 ⟨.slice r1 3 c1, .slice r2 n2 c2, .slice (some ⟨gk, ok, none⟩) n3 c3, .slice r4 n4 c4⟩ V' (l3 ++ ([102, 117, 110, 99] ++ t1 ++ [32, 58, 32] ++ t3 ++ [32, 58] ++ t2 ++ [10])) ∧ Blk u3 X #[.slice a1 f.params.length d1, .int .i64 f.result, .slice a2 f.locals.length d2, .slice a3 f.code.length d3] 52) := ⟨HA3.out.1.more ho hg _ (by simp), HA3.out.2.grown hg HA3.out.1.own (by decide)⟩; clear ho hg HA3)
                rw [← HE.out] at HA4
                clear HC3 HE hpl hol hrl hs2
                have hhl := funcH_le f HG.out.2.2.1
                generalize hhd : l3 ++ lineT [102, 117, 110, 99] (funcW f) = lh at *
                have HH : Hid (l3 ++ lineT [102, 117, 110, 99] (funcW f) = lh) := hhd
                have hlh : lh.length ≤ 8631881728 := by rw [← hhd, List.length_append]; omega
                clear hhd hhl
                have hcz := HG.out.2.2.1.2.2
                generalize hcl : f.code.length = nc at *
                have HC : Hid (f.code.length = nc) := hcl
                clear hcl
                go_wp2_with fail
                go_loopw [3, 9] (fun o i wr => ∃ (l4 : List UInt8) (q : Nat), i = .int .i64 q ∧ q ≤ nc ∧ Hid (l4 = lh ++ (f.code.take q).flatMap instrL) ∧ Hid (FmAt w wr ⟨.slice r1 3 c1, .slice r2 n2 c2, .slice (some ⟨gk, ok, none⟩) n3 c3, .slice r4 n4 c4⟩ o l4 ∧ Blk wr X #[.slice a1 f.params.length d1, .int .i64 f.result, .slice a2 f.locals.length d2, .slice a3 nc d3] 52)) (fun _ i _ => nc - (intOf i).toNat)
                case atStart => exact ⟨lh, 0, rfl, by omega, by simp [Hid], HA4.out⟩
                case round =>
                  clear HA4
                  obtain ⟨l4, q, rfl, hq, HLq, HA⟩ := hrel
                  have q3 : wr.cell? ⟨X, 3, none⟩ = some (.slice a3 nc d3) := HA.out.2.cell 3
                  have hll4 : l4.length ≤ 8766099456 := by
                    rw [HLq.out, List.length_append]
                    have := flat_take_le instrL 128 f.code q fun x hx => instrL_le x (HG.out.2.2.2.code x hx)
                    rw [HC.out] at this
                    omega
                  by_cases hlq : q < nc
                  · obtain ⟨x, hx⟩ : ∃ x, f.code[q]? = some x := ⟨_, List.getElem?_eq_getElem (by rw [HC.out]; exact hlq)⟩
                    obtain ⟨gi, oi, ci, e1, y0, y1, y2, y3⟩ := in_at HG.out.1.2.2 hx
                    rw [HC.out] at e1
                    simp only [Value.slice.injEq, true_and] at e1
                    obtain ⟨rfl, rfl⟩ := e1
                    rw [← HA.out.1.bel.cell (block_lt_of_cell y0)] at y0
                    rw [← HA.out.1.bel.cell (block_lt_of_cell y1)] at y1
                    rw [← HA.out.1.bel.cell (block_lt_of_cell y2)] at y2
                    rw [← HA.out.1.bel.cell (block_lt_of_cell y3)] at y3
                    have HI : Hid (InstrOk p f x ∧ x.wf) := ⟨HS.out.instr HG.out.2.1 hx, HG.out.2.2.2.code x (List.mem_of_getElem? hx)⟩
                    have HN : Hid ((f.code.take (q + 1)).flatMap instrL = (f.code.take q).flatMap instrL ++ instrL x) := flat_next instrL f.code q x hx
                    clear hx
                    obtain ⟨xo, xa, xb, xc⟩ := x
                    simp only [] at y0 y1 y2 y3
                    have HE : Hid (instrL ⟨xo, xa, xb, xc⟩ = nameOf xo ++ wordsT (instrW (formOf xo) xa xb xc) ++ [10]) := rfl
                    have hge := HI.out.1.ge
                    have hil := instrL_le _ HI.out.2
                    rw [HE.out] at hil
                    simp only [] at hge
                    go_wp2_with fail
                    refine (l11Instr_any xo xa xb xc _ ⟨HI.out.1.1, HI.out.1.2.1⟩ ⟨hge.1, (W64_in HI.out.2.2.1).2⟩ ⟨hge.2.1, (W64_in HI.out.2.2.2.1).2⟩ ⟨hge.2.2, (W64_in HI.out.2.2.2.2).2⟩).mono ?_
                    rintro e u2 ⟨rfl, b2⟩
                    have HA3 : Hid (FmAt w u2 ⟨.slice r1 3 c1, .slice r2 n2 c2, .slice (some ⟨gk, ok, none⟩) n3 c3, .slice r4 n4 c4⟩ u3 l4 ∧ Blk u2 X #[.slice a1 f.params.length d1, .int .i64 f.result, .slice a2 f.locals.length d2, .slice (some ⟨gi, oi, none⟩) nc d3] 52) := ⟨HA.out.1.call b2, HA.out.2.keep b2⟩
                    unfold strV
                    generalize nameOf xo ++ wordsT (instrW (formOf xo) xa xb xc) = t1 at *
                    clear HA b2 y0 y1 y2 y3 q3
                    rw [List.length_append] at hil
                    have HC3 : Hid (l4.length + (⟨t1.toArray⟩ ++ ⟨#[10]⟩ : ByteArray).size ≤ 140737488355328) := by
                      show _ ≤ _
                      rw [str_append]
                      simp [ByteArray.size]
                      omega
                    have hs2 := HA3.out.1.size
                    go_wp2_with (at_builtin; refine Lib.wpList_append_own_string _ rfl _ _ 43 9 rfl (w.heap.size + 1) 5 b0 Tryz.underlying43 Tryz.underlying9 hb0 hz0 hz1 hz2 _ _ _ rfl HA3.out.1.own _ rfl (by unfold maxLen; have := HC3.out; omega) HC3.out hs2 ?_; intro V' u3 ho hg _; have HA5 : Hid (FmAt w u3 ⟨.slice r1 3 c1, .slice r2 n2 c2, .slice (some ⟨gk, ok, none⟩) n3 c3, .slice r4 n4 c4⟩ V' (l4 ++ (t1 ++ [10])) ∧ Blk u3 X #[.slice a1 f.params.length d1, .int .i64 f.result, .slice a2 f.locals.length d2, .slice (some ⟨gi, oi, none⟩) nc d3] 52) := ⟨HA3.out.1.more ho hg _ (by simp), HA3.out.2.grown hg HA3.out.1.own (by decide)⟩; clear ho hg HA3)
                    go_roundw
                    case rel =>
                      refine ⟨_, q + 1, by go_num, by omega, ?_, HA5.out⟩
                      show _ = _
                      rw [HN.out, HE.out, HLq.out, List.append_assoc]
                    case measure => simp [intOf]; omega
                  · have hqn : nc = q := by omega
                    subst hqn
                    have HD3 : Hid (l4 = l2 ++ (p.funcs.take (k + 1)).flatMap funcL) := by
                      show _ = _
                      rw [HLq.out, List.take_of_length_le (by rw [HC.out]; exact Nat.le_refl _), flat_next funcL p.funcs k f HG.out.2.1, ← HH.out, HLk.out, funcL]
                      simp
                    go_wp2
                    go_roundw
                    case rel => exact ⟨l4, k + 1, by go_num, by omega, HD3.out, HA.out.1⟩
                    case measure => simp [intOf]; omega
              · have hk3 : n3 = k := by omega
                subst hk3
                have HD3 : Hid (l3 = p.regions.flatMap regionL ++ p.consts.flatMap constL ++ p.funcs.flatMap funcL) := by
                  show _ = _
                  rw [HLk.out, HD2.out, List.take_of_length_le (by rw [HL.out.2.2.1]; exact Nat.le_refl _)]
                clear HLk hlt HD2 hll2
                go_wp2
                clear i0 i1 i2 i3
                go_loopw [3, 10] (fun o i wr => ∃ (l4 : List UInt8) (k : Nat), i = .int .i64 k ∧ k ≤ n4 ∧ Hid (l4 = l3 ++ (p.certs.take k).flatMap certL) ∧ Hid (FmAt w wr ⟨.slice r1 3 c1, .slice r2 n2 c2, .slice r3 n3 c3, .slice r4 n4 c4⟩ o l4)) (fun _ i _ => n4 - (intOf i).toNat)
                case atStart => exact ⟨l3, 0, rfl, by omega, by simp [Hid], HA.out⟩
                case round =>
                  clear HA
                  obtain ⟨l4, k, rfl, hk, HLk, HA⟩ := hrel
                  obtain ⟨i0, i1, i2, i3⟩ : At4 wr w.heap.size (.slice r1 3 c1) (.slice r2 n2 c2) (.slice r3 n3 c3) (.slice r4 n4 c4) := ⟨HA.out.prog.cell 0, HA.out.prog.cell 1, HA.out.prog.cell 2, HA.out.prog.cell 3⟩
                  have hll4 : l4.length ≤ 8615112704 := by
                    rw [HLk.out, List.length_append]
                    have := flat_take_le certL 128 p.certs k fun x hx => certL_le x (HP.out.wf.certs x hx)
                    rw [HL.out.2.2.2] at this
                    omega
                  by_cases hlt : k < n4
                  · obtain ⟨x, hx⟩ : ∃ x, p.certs[k]? = some x := ⟨_, List.getElem?_eq_getElem (by rw [HL.out.2.2.2]; exact hlt)⟩
                    have hxw := HP.out.wf.certs x (List.mem_of_getElem? hx)
                    have hge := HS.out.cert hx
                    rcases HP.out.rd.certs.2 with ⟨e0, _⟩ | ⟨b, o, c, e1, hc1⟩
                    · rw [HL.out.2.2.2] at e0
                      omega
                    rw [HL.out.2.2.2] at e1
                    simp only [Value.slice.injEq, true_and] at e1
                    obtain ⟨rfl, rfl⟩ := e1
                    have j0 := Rd.elem MT.cells_length hc1 k _ hx 0 _ rfl
                    have j1 := Rd.elem MT.cells_length hc1 k _ hx 1 _ rfl
                    have j2 := Rd.elem MT.cells_length hc1 k _ hx 2 _ rfl
                    have j3 := Rd.elem MT.cells_length hc1 k _ hx 3 _ rfl
                    rw [← HA.out.bel.cell (block_lt_of_cell j0), Nat.add_zero] at j0
                    rw [← HA.out.bel.cell (block_lt_of_cell j1)] at j1
                    rw [← HA.out.bel.cell (block_lt_of_cell j2)] at j2
                    rw [← HA.out.bel.cell (block_lt_of_cell j3)] at j3
                    have HN : Hid ((p.certs.take (k + 1)).flatMap certL = (p.certs.take k).flatMap certL ++ certL x) := flat_next certL p.certs k x hx
                    clear hc1 hx
                    obtain ⟨x0, x1, x2, x3⟩ := x
                    simp only [] at j0 j1 j2 j3 hge
                    obtain ⟨w0, w1, w2, w3⟩ := hxw
                    have hw0 : x0 ≤ 9223372036854775807 := (W64_in w0).2
                    have hw1 : x1 ≤ 9223372036854775807 := (W64_in w1).2
                    have hw2 : x2 ≤ 9223372036854775807 := (W64_in w2).2
                    have hw3 : 0 ≤ x3 ∧ x3 ≤ 4294967295 := W32_lo w3
                    obtain ⟨hg0, hg1, hg2⟩ := hge
                    clear w0 w1 w2 w3
                    have hcv : IntKind.i64.wrap x3 = x3 := by rw [IntKind.wrap_i64]; omega
                    go_upto_region 28 with fail
                    refine wp_world (fun u => FmAt w u ⟨.slice r1 3 c1, .slice r2 n2 c2, .slice r3 n3 c3, .slice (some ⟨b, o, none⟩) n4 c4⟩ u3 l4 ∧ Blk u wr.heap.size #[.int .i64 x0, .int .i64 x1, .int .i64 x2, .int .u32 x3] 57) ⟨HA.out.call (below_alloc _ _), Blk.new _ _ _⟩ ?_
                    rintro U ⟨hA, hB⟩
                    have HA2 : Hid (FmAt w U ⟨.slice r1 3 c1, .slice r2 n2 c2, .slice r3 n3 c3, .slice (some ⟨b, o, none⟩) n4 c4⟩ u3 l4 ∧ Blk U wr.heap.size #[.int .i64 x0, .int .i64 x1, .int .i64 x2, .int .u32 x3] 57) := ⟨hA, hB⟩
                    clear hA hB i0 i1 i2 i3 j0 j1 j2 j3 HA
                    generalize wr.heap.size = X at *
                    obtain ⟨q0, q1, q2, q3⟩ : At4 U X (.int .i64 x0) (.int .i64 x1) (.int .i64 x2) (.int .u32 x3) := ⟨HA2.out.2.cell 0, HA2.out.2.cell 1, HA2.out.2.cell 2, HA2.out.2.cell 3⟩
                    have inst := Grown.some U
                    have Q0 := fun n : Grown U => Grown.cell q0 n
                    have Q1 := fun n : Grown U => Grown.cell q1 n
                    have Q2 := fun n : Grown U => Grown.cell q2 n
                    have Q3 := fun n : Grown U => Grown.cell q3 n
                    have hd0 := decL_length x0 (by omega)
                    have hd1 := decL_length x1 (by omega)
                    have hd2 := decL_length x2 (by omega)
                    have hd3 := decL_length x3 (by omega)
                    refine wp_region_grown_tail 22 (by kernel_rfl) (by kernel_rfl) ?_
                    simp only [List.take_succ_cons, List.take_zero, List.drop_succ_cons, List.drop_zero]
                    repeat (go_big_quiet_step (fail))
                    go_big_quiet_step ((go_at_call 16; rename_i n; exact (l11Dec_any x0 (by omega) (by omega) n.u).mono fun e w'' h => ⟨show e = .returned (.string ⟨(decL x0).toArray⟩) from h.1, ⟨⟨w'', below_on n.h (Nat.le_refl _) h.2⟩, rfl⟩⟩))
                    repeat (go_big_quiet_step (fail))
                    go_big_quiet_step ((go_at_call 16; rename_i n; exact (l11Dec_any x1 (by omega) (by omega) n.u).mono fun e w'' h => ⟨show e = .returned (.string ⟨(decL x1).toArray⟩) from h.1, ⟨⟨w'', below_on n.h (Nat.le_refl _) h.2⟩, rfl⟩⟩))
                    repeat (go_big_quiet_step (fail))
                    go_big_quiet_step ((go_at_call 16; rename_i n; exact (l11Dec_any x2 (by omega) (by omega) n.u).mono fun e w'' h => ⟨show e = .returned (.string ⟨(decL x2).toArray⟩) from h.1, ⟨⟨w'', below_on n.h (Nat.le_refl _) h.2⟩, rfl⟩⟩))
                    repeat (go_big_quiet_step (fail))
                    go_big_quiet_step ((go_at_call 16; rename_i n; exact (l11Dec_any x3 (by omega) (by omega) n.u).mono fun e w'' h => ⟨show e = .returned (.string ⟨(decL x3).toArray⟩) from h.1, ⟨⟨w'', below_on n.h (Nat.le_refl _) h.2⟩, rfl⟩⟩))
                    repeat (go_big_quiet_step (fail))
                    refine wpQuiet_nil ?_
                    rintro w'' ⟨n, rfl⟩
                    have HA3 : Hid (FmAt w n.u ⟨.slice r1 3 c1, .slice r2 n2 c2, .slice r3 n3 c3, .slice (some ⟨b, o, none⟩) n4 c4⟩ u3 l4) := HA2.out.1.call n.h
                    have HE : Hid (certL ⟨x0, x1, x2, x3⟩ = [108, 111, 111, 112, 32] ++ decL x0 ++ [32] ++ decL x1 ++ [32] ++ decL x2 ++ [32] ++ decL x3 ++ [10]) := by
                      show _ = _
                      simp [certL, lineT, wordsT]
                    clear HA2 q0 q1 q2 q3 Q0 Q1 Q2 Q3
                    generalize n.u = Z at *
                    clear n inst
                    generalize decL x0 = t0 at *
                    generalize decL x1 = t1 at *
                    generalize decL x2 = t2 at *
                    generalize decL x3 = t3 at *
                    have HC3 : Hid (l4.length + (⟨#[108, 111, 111, 112, 32]⟩ ++ ⟨t0.toArray⟩ ++ ⟨#[32]⟩ ++ ⟨t1.toArray⟩ ++ ⟨#[32]⟩ ++ ⟨t2.toArray⟩ ++ ⟨#[32]⟩ ++ ⟨t3.toArray⟩ ++ ⟨#[10]⟩ : ByteArray).size ≤ 140737488355328) := by
                      show _ ≤ _
                      rw [str_append, str_append, str_append, str_append, str_append, str_append, str_append, str_append]
                      simp [ByteArray.size]
                      omega
                    have hs2 := HA3.out.size
                    go_wp2_with (at_builtin; refine Lib.wpList_append_own_string _ rfl _ _ 43 9 rfl (w.heap.size + 1) 5 b0 Tryz.underlying43 Tryz.underlying9 hb0 hz0 hz1 hz2 _ _ _ rfl HA3.out.own _ rfl (by unfold maxLen; have := HC3.out; omega) HC3.out hs2 ?_; intro V' u3 ho hg _; have HA4 : Hid (FmAt w u3 ⟨.slice r1 3 c1, .slice r2 n2 c2, .slice r3 n3 c3, .slice (some ⟨b, o, none⟩) n4 c4⟩ V' (l4 ++ ([108, 111, 111, 112, 32] ++ t0 ++ [32] ++ t1 ++ [32] ++ t2 ++ [32] ++ t3 ++ [10]))) := HA3.out.more ho hg _ (by simp); clear ho hg HA3)
                    go_wp2
                    go_roundw
                    case rel =>
                      refine ⟨_, k + 1, by go_num, by omega, ?_, HA4.out⟩
                      show _ = _
                      rw [HN.out, HE.out, HLk.out, List.append_assoc]
                    case measure => simp [intOf]; omega
                  · have hk3 : n4 = k := by omega
                    subst hk3
                    have HT : Hid (l4 = textL p) := by
                      show _ = _
                      rw [HLk.out, HD3.out, List.take_of_length_le (by rw [HL.out.2.2.2]; exact Nat.le_refl _)]
                      rfl
                    have hpos : 0 < l4.length := by
                      rw [HT.out]
                      exact textL_pos HS.out
                    clear HLk hlt HD3
                    obtain ⟨g, cap, e⟩ : ∃ g cap, u3 = .slice (some ⟨g, 0, none⟩) l4.length cap := by
                      rcases HA.out.own.2 with ⟨_, h0⟩ | ⟨g, cap, cur, e, _⟩
                      · omega
                      · exact ⟨g, cap, e⟩
                    have hcv := run_convert_bytes_back (P := Tryz.prog) wr 43 9 5 ⟨g, 0, none⟩ cap l4 Tryz.underlying43 Tryz.underlying5 Tryz.underlying9 (fun j hj => by
                      subst e
                      have := HA.out.own.cells (g := g) rfl j (.int .u8 l4[j].toNat) (by simp [Lib.byteCells, hj])
                      exact this)
                    subst e
                    have HB : Hid (Below w.heap.size w wr) := HA.out.bel
                    clear HA hpos
                    go_wp2
                    go_ret
                    exact ⟨FmRes.good HF.out HT.out, HB.out⟩
  · have hn' : (n == 0) = false := by simpa using hn
    have HN : Hid (¬ n = 0) := hn
    go_wp2
    go_ret
    exact ⟨FmRes.bad HF.out HN.out, HB1.out.2⟩
end Go.Proofs.YthifelgdkmkdkaaGreatDoor
