import Derived.Test.YtnemieeeappgnaaGreatDoorDc13
namespace Go.Proofs.YtnemieeeappgnaaGreatDoor
open Go.ChangeShapes Go.WideShapes Go.ChangeAt Go.RowKit
set_option linter.unusedVariables false
abbrev fb (X : Nat) (p : Value) (r : Int) (l c : Value) : RowI := bRow X 64 4 [p, .int .i64 r, l, c]
set_option maxHeartbeats 4000000 in
set_option maxRecDepth 100000 in
theorem l3GetFunc_any (B I L : Nat) (a : Option Addr) (c : Nat) (zs : List Int) (k : Nat) (bad : Bool) (w : World) (h : InAt w B I L a c zs k bad) :
    Calls Tryz.prog 23 #[.pointer (some ⟨I, 0, none⟩)] w fun e w' => ∃ (f : MF) (vf : VF) (k' : Nat) (bad' : Bool), e = .returned (.agg #[vf.p, .int .i64 f.result, vf.l, vf.c]) ∧ Sep w' w.heap.size (fItem (f, vf)) ∧ Reads' (funcR zs) k bad f k' bad' ∧ GotAt w w' B I L a c zs k' bad' := by
  obtain ⟨i0, hi, hz0, hz1, hz2⟩ := info_parts infoI
  have H0 : Hid (Bt w (w.alloc (.cells #[.slice none 0 0, .int .i64 0, .slice none 0 0, .slice none 0 0] 64)) [fb w.heap.size (.slice none 0 0) 0 (.slice none 0 0) (.slice none 0 0)] B I L a c zs k bad) := (Bt.start h).box 64 4 _ rfl
  have hIl := h.lt
  have hbig := h.big
  have HZ : Hid (AllB zs) := h.hz
  clear h
  go_enter Tryz.func23, Tryz.ntmps23
  go_wp2_with fail
  refine (l3Get_any B I L a c zs 1 k bad _ (by omega) (by omega) H0.out.got.at_).mono ?_
  rintro e u1 ⟨n1, k1, b1, rfl, z1, r1, g1⟩
  have H1 : Hid (Bt w u1 [fb w.heap.size (.slice none 0 0) 0 (.slice none 0 0) (.slice none 0 0)] B I L a c zs k1 b1) := H0.out.read g1
  obtain ⟨n1a, n1b⟩ := num_bd HZ.out (by omega) r1 z1
  have R1 : Hid (Reads' (numR zs 1) k bad n1 k1 b1) := r1
  clear z1 g1 H0 r1
  go_wp2_with fail
  refine (l3GetList_any B I L a c zs n1 k1 b1 _ n1a (by omega) H1.out.got.at_).mono ?_
  rintro e u2 ⟨vp, ps, k2, b2, rfl, o2, s2, r2, g2⟩
  obtain ⟨a1, c1, e1⟩ : ∃ a c, vp = .slice a ps.length c := own_sl o2
  subst e1
  have H2 : Hid (Bt w u2 [fb w.heap.size (.slice none 0 0) 0 (.slice none 0 0) (.slice none 0 0), iRow (.slice a1 ps.length c1) ps] B I L a c zs k2 b2) := H1.out.row g2 (r := iRow (.slice a1 ps.length c1) ps) o2
  have R2 : Hid (Reads' (typesR zs 1) k bad ps k2 b2) := R1.out.then r2
  clear r2 g2 R1 H1 o2
  go_upto_region 2 with fail
  refine wp_world (fun u => Hid (Bt w u [fb w.heap.size (.slice none 0 0) 0 (.slice none 0 0) (.slice none 0 0), iRow (.slice a1 ps.length c1) ps, fb u2.heap.size (.slice a1 ps.length c1) 0 (.slice none 0 0) (.slice none 0 0), nRow (.slice none 0 0) []] B I L a c zs k2 b2)) ((H2.out.box 64 4 _ rfl).nil 73 4) ?_
  clear H2
  generalize u2.heap.size = X
  intro u3 H3
  go_wp2_with fail
  refine (l3Get_any B I L a c zs 1 k2 b2 _ (by omega) (by omega) H3.out.got.at_).mono ?_
  rintro e u4 ⟨rr, k4, b4, rfl, z4, r4, g4⟩
  have H4 : Hid (Bt w u4 [fb w.heap.size (.slice none 0 0) 0 (.slice none 0 0) (.slice none 0 0), iRow (.slice a1 ps.length c1) ps, fb X (.slice a1 ps.length c1) 0 (.slice none 0 0) (.slice none 0 0), nRow (.slice none 0 0) []] B I L a c zs k4 b4) := H3.out.read g4
  have R4 : Hid (Reads' (numR zs 1) k2 b2 rr k4 b4) := r4
  clear z4 r4 g4 H3
  obtain ⟨⟨-, q1, -, -⟩, -, f1, -, -⟩ := H4.out.four (show fb X (.slice a1 ps.length c1) 0 (.slice none 0 0) (.slice none 0 0) ∈ _ by simp)
  go_upto_region 3 with fail
  refine wp_world (fun u => Hid (Bt w u [fb w.heap.size (.slice none 0 0) 0 (.slice none 0 0) (.slice none 0 0), iRow (.slice a1 ps.length c1) ps, fb X (.slice a1 ps.length c1) rr (.slice none 0 0) (.slice none 0 0), nRow (.slice none 0 0) []] B I L a c zs k4 b4)) (Bt.set (A := [fb w.heap.size (.slice none 0 0) 0 (.slice none 0 0) (.slice none 0 0), iRow (.slice a1 ps.length c1) ps]) H4.out 1 (by omega) (.int .i64 rr)) ?_
  clear H4 q1 f1
  intro u5 H5
  go_wp2_with fail
  refine (l3Get_any B I L a c zs 1 k4 b4 _ (by omega) (by omega) H5.out.got.at_).mono ?_
  rintro e u6 ⟨n6, k6, b6, rfl, z6, r6, g6⟩
  have H6 : Hid (Bt w u6 [fb w.heap.size (.slice none 0 0) 0 (.slice none 0 0) (.slice none 0 0), iRow (.slice a1 ps.length c1) ps, fb X (.slice a1 ps.length c1) rr (.slice none 0 0) (.slice none 0 0), nRow (.slice none 0 0) []] B I L a c zs k6 b6) := H5.out.read g6
  have R6 : Hid (Reads' (numR zs 1) k4 b4 n6 k6 b6) := r6
  obtain ⟨n6a, n6b⟩ := num_bd HZ.out (by omega) r6 z6
  clear z6 r6 g6 H5
  go_wp2_with fail
  refine (l3GetList_any B I L a c zs n6 k6 b6 _ n6a (by omega) H6.out.got.at_).mono ?_
  rintro e u7 ⟨vl, ls, k7, b7, rfl, o7, s7, r7, g7⟩
  obtain ⟨a2, c2, e2⟩ : ∃ a c, vl = .slice a ls.length c := own_sl o7
  subst e2
  have H7 : Hid (Bt w u7 [fb w.heap.size (.slice none 0 0) 0 (.slice none 0 0) (.slice none 0 0), iRow (.slice a1 ps.length c1) ps, fb X (.slice a1 ps.length c1) rr (.slice none 0 0) (.slice none 0 0), nRow (.slice none 0 0) [], iRow (.slice a2 ls.length c2) ls] B I L a c zs k7 b7) := H6.out.row g7 (r := iRow (.slice a2 ls.length c2) ls) o7
  have R7 : Hid (Reads' (typesR zs 1) k4 b4 ls k7 b7) := R6.out.then r7
  clear r7 g7 R6 H6 o7
  obtain ⟨⟨-, -, q2, -⟩, -, -, f2, -⟩ := H7.out.four (show fb X (.slice a1 ps.length c1) rr (.slice none 0 0) (.slice none 0 0) ∈ _ by simp)
  go_upto_region 4 with fail
  refine wp_world (fun u => Hid (Bt w u [fb w.heap.size (.slice none 0 0) 0 (.slice none 0 0) (.slice none 0 0), iRow (.slice a1 ps.length c1) ps, iRow (.slice a2 ls.length c2) ls, nRow (.slice none 0 0) [], fb X (.slice a1 ps.length c1) rr (.slice a2 ls.length c2) (.slice none 0 0)] B I L a c zs k7 b7)) ((Bt.set (A := [fb w.heap.size (.slice none 0 0) 0 (.slice none 0 0) (.slice none 0 0), iRow (.slice a1 ps.length c1) ps]) H7.out 2 (by omega) (.slice a2 ls.length c2)).perm (by
    refine .cons _ (.cons _ ?_)
    exact (List.Perm.swap _ _ _).symm.trans ((List.Perm.cons _ (List.Perm.swap _ _ _)).trans (List.Perm.swap _ _ _)))) ?_
  clear H7 q2 f2
  intro u8 H8
  go_wp2_with fail
  refine (l3Get_any B I L a c zs 2 k7 b7 _ (by omega) (by omega) H8.out.got.at_).mono ?_
  rintro e u9 ⟨n9, k9, b9, rfl, z9, r9, g9⟩
  have H9 : Hid (Bt w u9 [fb w.heap.size (.slice none 0 0) 0 (.slice none 0 0) (.slice none 0 0), iRow (.slice a1 ps.length c1) ps, iRow (.slice a2 ls.length c2) ls, nRow (.slice none 0 0) [], fb X (.slice a1 ps.length c1) rr (.slice a2 ls.length c2) (.slice none 0 0)] B I L a c zs k9 b9) := H8.out.read g9
  have R9 : Hid (Reads' (numR zs 2) k7 b7 n9 k9 b9) := r9
  obtain ⟨n9a, n9b⟩ := num_bd HZ.out (by omega) r9 z9
  clear z9 r9 g9 H8
  obtain ⟨n, rfl⟩ := Int.eq_ofNat_of_zero_le n9a
  have hn16 : n < 65536 := by omega
  go_wp2
  go_loopw [4] (fun kv wr => ∃ (j : Nat) (code : List MI) (kk : Nat) (bb : Bool) (ac : Option Addr) (cc : Nat), kv = .int .i64 ((n : Int) - (j : Int)) ∧ j ≤ n ∧ Hid (code.length = j ∧ Reads' (manyR (instrR zs) j) k9 b9 code kk bb ∧ Bt w wr [fb w.heap.size (.slice none 0 0) 0 (.slice none 0 0) (.slice none 0 0), iRow (.slice a1 ps.length c1) ps, iRow (.slice a2 ls.length c2) ls, nRow (.slice ac code.length cc) code, fb X (.slice a1 ps.length c1) rr (.slice a2 ls.length c2) (.slice ac code.length cc)] B I L a c zs kk bb)) (fun kv _ => (intOf kv).toNat)
  case atStart =>
    exact ⟨0, [], k9, b9, none, 0, by simp, by omega, rfl, Reads'.give _ _ _, H9.out⟩
  case round =>
    obtain ⟨j, code, kk, bb, ac, cc, rfl, hj, HM⟩ := hrel
    have HL : Hid (code.length = j) := HM.out.1
    have hcb : code.length ≤ 65536 := by rw [HL.out]; omega
    obtain ⟨w0, w1, w2⟩ := three_cells HM.out.2.2.got.at_.blk
    by_cases hlt : j < n
    · cases bb
      · go_wp2_with fail
        refine (l3Get_any B I L a c zs 1 kk false _ (by omega) (by omega) HM.out.2.2.got.at_).mono ?_
        rintro e v1 ⟨o1, t1, d1, rfl, z1, r1, g1⟩
        have M1 : Hid (Bt w v1 [fb w.heap.size (.slice none 0 0) 0 (.slice none 0 0) (.slice none 0 0), iRow (.slice a1 ps.length c1) ps, iRow (.slice a2 ls.length c2) ls, nRow (.slice ac code.length cc) code, fb X (.slice a1 ps.length c1) rr (.slice a2 ls.length c2) (.slice ac code.length cc)] B I L a c zs t1 d1) := HM.out.2.2.read g1
        have S1 : Hid (Reads' (numR zs 1) kk false o1 t1 d1) := r1
        have S0 : Hid (Reads' (manyR (instrR zs) j) k9 b9 code kk false) := HM.out.2.1
        clear z1 r1 g1 HM w0 w1 w2
        go_upto_region 8 with fail
        refine wp_world (fun u => Hid (Bt w u [fb w.heap.size (.slice none 0 0) 0 (.slice none 0 0) (.slice none 0 0), iRow (.slice a1 ps.length c1) ps, iRow (.slice a2 ls.length c2) ls, nRow (.slice ac code.length cc) code, fb X (.slice a1 ps.length c1) rr (.slice a2 ls.length c2) (.slice ac code.length cc), bRow v1.heap.size 73 4 [.int .i64 o1, .int .i64 0, .int .i64 0, .int .i64 0]] B I L a c zs t1 d1)) (M1.out.box 73 4 _ rfl) ?_
        clear M1
        generalize v1.heap.size = Y
        intro y1 N1
        go_wp2_with fail
        refine (l3Get_any B I L a c zs 1 t1 d1 _ (by omega) (by omega) N1.out.got.at_).mono ?_
        rintro e v2 ⟨o2, t2, d2, rfl, z2, r2, g2⟩
        have M2 : Hid (Bt w v2 [fb w.heap.size (.slice none 0 0) 0 (.slice none 0 0) (.slice none 0 0), iRow (.slice a1 ps.length c1) ps, iRow (.slice a2 ls.length c2) ls, nRow (.slice ac code.length cc) code, fb X (.slice a1 ps.length c1) rr (.slice a2 ls.length c2) (.slice ac code.length cc), bRow Y 73 4 [.int .i64 o1, .int .i64 0, .int .i64 0, .int .i64 0]] B I L a c zs t2 d2) := N1.out.read g2
        have S2 : Hid (Reads' (numR zs 1) t1 d1 o2 t2 d2) := r2
        clear z2 r2 g2 N1
        obtain ⟨⟨-, q1, -, -⟩, -, f1, -, -⟩ := M2.out.four (show bRow Y 73 4 [.int .i64 o1, .int .i64 0, .int .i64 0, .int .i64 0] ∈ _ by simp)
        go_upto_region 9 with fail
        refine wp_world (fun u => Hid (Bt w u [fb w.heap.size (.slice none 0 0) 0 (.slice none 0 0) (.slice none 0 0), iRow (.slice a1 ps.length c1) ps, iRow (.slice a2 ls.length c2) ls, nRow (.slice ac code.length cc) code, fb X (.slice a1 ps.length c1) rr (.slice a2 ls.length c2) (.slice ac code.length cc), bRow Y 73 4 [.int .i64 o1, .int .i64 o2, .int .i64 0, .int .i64 0]] B I L a c zs t2 d2)) (Bt.set (A := [fb w.heap.size (.slice none 0 0) 0 (.slice none 0 0) (.slice none 0 0), iRow (.slice a1 ps.length c1) ps, iRow (.slice a2 ls.length c2) ls, nRow (.slice ac code.length cc) code, fb X (.slice a1 ps.length c1) rr (.slice a2 ls.length c2) (.slice ac code.length cc)]) M2.out 1 (by omega) (.int .i64 o2)) ?_
        clear M2 q1 f1
        intro y2 N2
        go_wp2_with fail
        refine (l3Get_any B I L a c zs 2 t2 d2 _ (by omega) (by omega) N2.out.got.at_).mono ?_
        rintro e v3 ⟨o3, t3, d3, rfl, z3, r3, g3⟩
        have M3 : Hid (Bt w v3 [fb w.heap.size (.slice none 0 0) 0 (.slice none 0 0) (.slice none 0 0), iRow (.slice a1 ps.length c1) ps, iRow (.slice a2 ls.length c2) ls, nRow (.slice ac code.length cc) code, fb X (.slice a1 ps.length c1) rr (.slice a2 ls.length c2) (.slice ac code.length cc), bRow Y 73 4 [.int .i64 o1, .int .i64 o2, .int .i64 0, .int .i64 0]] B I L a c zs t3 d3) := N2.out.read g3
        have S3 : Hid (Reads' (numR zs 2) t2 d2 o3 t3 d3) := r3
        clear z3 r3 g3 N2
        obtain ⟨⟨-, -, q1, -⟩, -, -, f1, -⟩ := M3.out.four (show bRow Y 73 4 [.int .i64 o1, .int .i64 o2, .int .i64 0, .int .i64 0] ∈ _ by simp)
        go_upto_region 10 with fail
        refine wp_world (fun u => Hid (Bt w u [fb w.heap.size (.slice none 0 0) 0 (.slice none 0 0) (.slice none 0 0), iRow (.slice a1 ps.length c1) ps, iRow (.slice a2 ls.length c2) ls, nRow (.slice ac code.length cc) code, fb X (.slice a1 ps.length c1) rr (.slice a2 ls.length c2) (.slice ac code.length cc), bRow Y 73 4 [.int .i64 o1, .int .i64 o2, .int .i64 o3, .int .i64 0]] B I L a c zs t3 d3)) (Bt.set (A := [fb w.heap.size (.slice none 0 0) 0 (.slice none 0 0) (.slice none 0 0), iRow (.slice a1 ps.length c1) ps, iRow (.slice a2 ls.length c2) ls, nRow (.slice ac code.length cc) code, fb X (.slice a1 ps.length c1) rr (.slice a2 ls.length c2) (.slice ac code.length cc)]) M3.out 2 (by omega) (.int .i64 o3)) ?_
        clear M3 q1 f1
        intro y3 N3
        go_wp2_with fail
        refine (l3Get_any B I L a c zs 4 t3 d3 _ (by omega) (by omega) N3.out.got.at_).mono ?_
        rintro e v4 ⟨o4, t4, d4, rfl, z4, r4, g4⟩
        have M4 : Hid (Bt w v4 [fb w.heap.size (.slice none 0 0) 0 (.slice none 0 0) (.slice none 0 0), iRow (.slice a1 ps.length c1) ps, iRow (.slice a2 ls.length c2) ls, nRow (.slice ac code.length cc) code, fb X (.slice a1 ps.length c1) rr (.slice a2 ls.length c2) (.slice ac code.length cc), bRow Y 73 4 [.int .i64 o1, .int .i64 o2, .int .i64 o3, .int .i64 0]] B I L a c zs t4 d4) := N3.out.read g4
        have S4 : Hid (Reads' (numR zs 4) t3 d3 o4 t4 d4) := r4
        clear z4 r4 g4 N3
        obtain ⟨⟨-, -, -, q1⟩, -, -, -, f1⟩ := M4.out.four (show bRow Y 73 4 [.int .i64 o1, .int .i64 o2, .int .i64 o3, .int .i64 0] ∈ _ by simp)
        go_upto_region 11 with fail
        refine wp_world (fun u => Hid (Bt w u [fb w.heap.size (.slice none 0 0) 0 (.slice none 0 0) (.slice none 0 0), iRow (.slice a1 ps.length c1) ps, iRow (.slice a2 ls.length c2) ls, nRow (.slice ac code.length cc) code, fb X (.slice a1 ps.length c1) rr (.slice a2 ls.length c2) (.slice ac code.length cc), bRow Y 73 4 [.int .i64 o1, .int .i64 o2, .int .i64 o3, .int .i64 o4]] B I L a c zs t4 d4)) (Bt.set (A := [fb w.heap.size (.slice none 0 0) 0 (.slice none 0 0) (.slice none 0 0), iRow (.slice a1 ps.length c1) ps, iRow (.slice a2 ls.length c2) ls, nRow (.slice ac code.length cc) code, fb X (.slice a1 ps.length c1) rr (.slice a2 ls.length c2) (.slice ac code.length cc)]) M4.out 3 (by omega) (.int .i64 o4)) ?_
        clear M4 q1 f1
        intro y4 N4
        have S5 : Hid (Reads' (manyR (instrR zs) (j + 1)) k9 b9 (code ++ [(⟨o1, o2, o3, o4⟩ : MI)]) t4 d4) := S0.out.next (S1.out.then (S2.out.then (S3.out.then (S4.out.then (Reads'.give _ _ _)))))
        clear S0 S1 S2 S3 S4
        obtain ⟨⟨x0, x1, x2, x3⟩, -⟩ := N4.out.four (show bRow Y 73 4 [.int .i64 o1, .int .i64 o2, .int .i64 o3, .int .i64 o4] ∈ _ by simp)
        obtain ⟨⟨-, -, -, p3⟩, -⟩ := N4.out.four (show fb X (.slice a1 ps.length c1) rr (.slice a2 ls.length c2) (.slice ac code.length cc) ∈ _ by simp)
        have N5 : Hid (Bt w (y4.alloc (.cells #[.int .i64 o1, .int .i64 o2, .int .i64 o3, .int .i64 o4] 73)) [fb w.heap.size (.slice none 0 0) 0 (.slice none 0 0) (.slice none 0 0), iRow (.slice a1 ps.length c1) ps, iRow (.slice a2 ls.length c2) ls, nRow (.slice ac code.length cc) code, fb X (.slice a1 ps.length c1) rr (.slice a2 ls.length c2) (.slice ac code.length cc), bRow Y 73 4 [.int .i64 o1, .int .i64 o2, .int .i64 o3, .int .i64 o4]] B I L a c zs t4 d4) := N4.out.keep (below_alloc _ _)
        have O5 : Hid ((y4.alloc (.cells #[.int .i64 o1, .int .i64 o2, .int .i64 o3, .int .i64 o4] 73)).ownsRow w.heap.size 73 4 (.slice ac code.length cc) code.length (code.flatMap MI.cells)) := N5.out.sep.own (nRow (.slice ac code.length cc) code) (by simp)
        have hs5 := N5.out.size
        go_wp2_with (at_builtin; refine wpList_append_own_at _ rfl _ _ 62 rfl w.heap.size 73 i0 (.agg #[.int .i64 0, .int .i64 0, .int .i64 0, .int .i64 0]) 4 32 Tryz.underlying62 hi hz0 hz1 hz2 rfl (by decide) _ _ _ rfl O5.out ⟨y4.heap.size, 0, none⟩ 1 1 [.int .i64 o1, .int .i64 o2, .int .i64 o3, .int .i64 o4] rfl rfl (lit_at y4 [.int .i64 o1, .int .i64 o2, .int .i64 o3, .int .i64 o4] 73) (by intro u hu; simp at hu; rcases hu with rfl | rfl | rfl | rfl <;> rfl) (by unfold maxLen; omega) (by omega) hs5 ?_; intro V' u5 ho hgr _ hat; obtain ⟨ac', cc', e5⟩ := own_sl ho; subst e5; have M5 : Hid (Bt w u5 [fb w.heap.size (.slice none 0 0) 0 (.slice none 0 0) (.slice none 0 0), iRow (.slice a1 ps.length c1) ps, iRow (.slice a2 ls.length c2) ls, nRow (.slice ac' (code.length + 1) cc') (code ++ [(⟨o1, o2, o3, o4⟩ : MI)]), fb X (.slice a1 ps.length c1) rr (.slice a2 ls.length c2) (.slice ac code.length cc), bRow Y 73 4 [.int .i64 o1, .int .i64 o2, .int .i64 o3, .int .i64 o4]] B I L a c zs t4 d4) := Bt.app (A := [fb w.heap.size (.slice none 0 0) 0 (.slice none 0 0) (.slice none 0 0), iRow (.slice a1 ps.length c1) ps, iRow (.slice a2 ls.length c2) ls]) N5.out (nRow (.slice ac' (code.length + 1) cc') (code ++ [(⟨o1, o2, o3, o4⟩ : MI)])) (by simpa [RowI.own, nRow, MI.cells] using ho) hgr hat; obtain ⟨⟨-, -, -, q1⟩, -, -, -, f1⟩ := M5.out.four (show fb X (.slice a1 ps.length c1) rr (.slice a2 ls.length c2) (.slice ac code.length cc) ∈ _ by simp); clear ho hgr hat N5 O5 N4)
        refine ⟨⟨j + 1, code ++ [(⟨o1, o2, o3, o4⟩ : MI)], t4, d4, ac', cc', by go_num, by omega, ?_⟩, by simp [intOf]; omega⟩
        have el : (code ++ [(⟨o1, o2, o3, o4⟩ : MI)]).length = code.length + 1 := by simp
        refine ⟨by rw [el, HL.out], S5.out, ?_⟩
        rw [el]
        exact (Bt.set (A := [fb w.heap.size (.slice none 0 0) 0 (.slice none 0 0) (.slice none 0 0), iRow (.slice a1 ps.length c1) ps, iRow (.slice a2 ls.length c2) ls, nRow (.slice ac' (code.length + 1) cc') (code ++ [(⟨o1, o2, o3, o4⟩ : MI)])]) M5.out 3 (by omega) (.slice ac' (code.length + 1) cc')).sub (List.sublist_append_left [fb w.heap.size (.slice none 0 0) 0 (.slice none 0 0) (.slice none 0 0), iRow (.slice a1 ps.length c1) ps, iRow (.slice a2 ls.length c2) ls, nRow (.slice ac' (code.length + 1) cc') (code ++ [(⟨o1, o2, o3, o4⟩ : MI)]), fb X (.slice a1 ps.length c1) rr (.slice a2 ls.length c2) (.slice ac' (code.length + 1) cc')] _)
      · have HE : Hid (Reads' (listR zs 2 (instrR zs)) k7 b7 code kk true) := R9.out.then (HM.out.2.1.upto hj)
        have HB : Hid (Bt w wr [fb w.heap.size (.slice none 0 0) 0 (.slice none 0 0) (.slice none 0 0), iRow (.slice a1 ps.length c1) ps, iRow (.slice a2 ls.length c2) ls, nRow (.slice ac code.length cc) code, fb X (.slice a1 ps.length c1) rr (.slice a2 ls.length c2) (.slice ac code.length cc)] B I L a c zs kk true) := HM.out.2.2
        clear HM
        obtain ⟨⟨x0, x1, x2, x3⟩, -⟩ := HB.out.four (show fb X (.slice a1 ps.length c1) rr (.slice a2 ls.length c2) (.slice ac code.length cc) ∈ _ by simp)
        obtain ⟨⟨s0, s1, s2, s3⟩, f0, f1, f2, f3⟩ := HB.out.four (show fb w.heap.size (.slice none 0 0) 0 (.slice none 0 0) (.slice none 0 0) ∈ _ by simp)
        go_wp2
        have HF : Hid (Bt w ((((wr.setCell ⟨w.heap.size, 0, none⟩ (.slice a1 ps.length c1)).setCell ⟨w.heap.size, 1, none⟩ (.int .i64 rr)).setCell ⟨w.heap.size, 2, none⟩ (.slice a2 ls.length c2)).setCell ⟨w.heap.size, 3, none⟩ (.slice ac code.length cc)) [fb w.heap.size (.slice a1 ps.length c1) rr (.slice a2 ls.length c2) (.slice ac code.length cc), iRow (.slice a1 ps.length c1) ps, iRow (.slice a2 ls.length c2) ls, nRow (.slice ac code.length cc) code, fb X (.slice a1 ps.length c1) rr (.slice a2 ls.length c2) (.slice ac code.length cc)] B I L a c zs kk true) := HB.out.four_set (.slice a1 ps.length c1) (.int .i64 rr) (.slice a2 ls.length c2) (.slice ac code.length cc)
        generalize (((wr.setCell ⟨w.heap.size, 0, none⟩ (.slice a1 ps.length c1)).setCell ⟨w.heap.size, 1, none⟩ (.int .i64 rr)).setCell ⟨w.heap.size, 2, none⟩ (.slice a2 ls.length c2)).setCell ⟨w.heap.size, 3, none⟩ (.slice ac code.length cc) = WF at HF ⊢
        obtain ⟨⟨q0, q1, q2, q3⟩, -⟩ := HF.out.four (show fb w.heap.size (.slice a1 ps.length c1) rr (.slice a2 ls.length c2) (.slice ac code.length cc) ∈ _ by simp)
        exact bodyPost_ret (v := .agg #[(.slice a1 ps.length c1), .int .i64 rr, (.slice a2 ls.length c2), (.slice ac code.length cc)]) (by simp [results, Tryz.results23, go_sem, q0, q1, q2, q3]) rfl ⟨⟨ps, rr, ls, code⟩, ⟨(.slice a1 ps.length c1), (.slice a2 ls.length c2), (.slice ac code.length cc)⟩, kk, true, rfl, HF.out.sep.sub ((List.sublist_append_left [iRow (.slice a1 ps.length c1) ps, iRow (.slice a2 ls.length c2) ls, nRow (.slice ac code.length cc) code] [fb X (.slice a1 ps.length c1) rr (.slice a2 ls.length c2) (.slice ac code.length cc)]).cons _), R2.out.then (R4.out.then (R7.out.then (HE.out.then (Reads'.give _ _ _)))), HF.out.got⟩
    · have hjn : n = j := by omega
      subst hjn
      have HE : Hid (Reads' (listR zs 2 (instrR zs)) k7 b7 code kk bb) := R9.out.then HM.out.2.1
      have HB : Hid (Bt w wr [fb w.heap.size (.slice none 0 0) 0 (.slice none 0 0) (.slice none 0 0), iRow (.slice a1 ps.length c1) ps, iRow (.slice a2 ls.length c2) ls, nRow (.slice ac code.length cc) code, fb X (.slice a1 ps.length c1) rr (.slice a2 ls.length c2) (.slice ac code.length cc)] B I L a c zs kk bb) := HM.out.2.2
      clear HM
      obtain ⟨⟨x0, x1, x2, x3⟩, -⟩ := HB.out.four (show fb X (.slice a1 ps.length c1) rr (.slice a2 ls.length c2) (.slice ac code.length cc) ∈ _ by simp)
      obtain ⟨⟨s0, s1, s2, s3⟩, f0, f1, f2, f3⟩ := HB.out.four (show fb w.heap.size (.slice none 0 0) 0 (.slice none 0 0) (.slice none 0 0) ∈ _ by simp)
      go_wp2
      all_goals
        have HF : Hid (Bt w ((((wr.setCell ⟨w.heap.size, 0, none⟩ (.slice a1 ps.length c1)).setCell ⟨w.heap.size, 1, none⟩ (.int .i64 rr)).setCell ⟨w.heap.size, 2, none⟩ (.slice a2 ls.length c2)).setCell ⟨w.heap.size, 3, none⟩ (.slice ac code.length cc)) [fb w.heap.size (.slice a1 ps.length c1) rr (.slice a2 ls.length c2) (.slice ac code.length cc), iRow (.slice a1 ps.length c1) ps, iRow (.slice a2 ls.length c2) ls, nRow (.slice ac code.length cc) code, fb X (.slice a1 ps.length c1) rr (.slice a2 ls.length c2) (.slice ac code.length cc)] B I L a c zs kk bb) := HB.out.four_set (.slice a1 ps.length c1) (.int .i64 rr) (.slice a2 ls.length c2) (.slice ac code.length cc)
        generalize (((wr.setCell ⟨w.heap.size, 0, none⟩ (.slice a1 ps.length c1)).setCell ⟨w.heap.size, 1, none⟩ (.int .i64 rr)).setCell ⟨w.heap.size, 2, none⟩ (.slice a2 ls.length c2)).setCell ⟨w.heap.size, 3, none⟩ (.slice ac code.length cc) = WF at HF ⊢
        obtain ⟨⟨q0, q1, q2, q3⟩, -⟩ := HF.out.four (show fb w.heap.size (.slice a1 ps.length c1) rr (.slice a2 ls.length c2) (.slice ac code.length cc) ∈ _ by simp)
        exact bodyPost_ret (v := .agg #[(.slice a1 ps.length c1), .int .i64 rr, (.slice a2 ls.length c2), (.slice ac code.length cc)]) (by simp [results, Tryz.results23, go_sem, q0, q1, q2, q3]) rfl ⟨⟨ps, rr, ls, code⟩, ⟨(.slice a1 ps.length c1), (.slice a2 ls.length c2), (.slice ac code.length cc)⟩, kk, bb, rfl, HF.out.sep.sub ((List.sublist_append_left [iRow (.slice a1 ps.length c1) ps, iRow (.slice a2 ls.length c2) ls, nRow (.slice ac code.length cc) code] [fb X (.slice a1 ps.length c1) rr (.slice a2 ls.length c2) (.slice ac code.length cc)]).cons _), R2.out.then (R4.out.then (R7.out.then (HE.out.then (Reads'.give _ _ _)))), HF.out.got⟩
end Go.Proofs.YtnemieeeappgnaaGreatDoor
