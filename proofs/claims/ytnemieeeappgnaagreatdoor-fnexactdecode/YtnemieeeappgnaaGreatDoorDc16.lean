import Derived.Test.YtnemieeeappgnaaGreatDoorDc15
namespace Go.Proofs.YtnemieeeappgnaaGreatDoor
open Go.ChangeShapes Go.WideShapes Go.ChangeAt Go.RowKit
set_option linter.unusedVariables false
set_option maxHeartbeats 4000000 in
set_option maxRecDepth 100000 in
theorem listInt_any (B I L : Nat) (a : Option Addr) (c : Nat) (zs : List Int) (n k : Nat) (w : World) (hn : n ≤ 65535) (h : InR w B I L a c zs k) :
    Calls Tryz.prog 78 #[.int .i64 (n : Int), .func (Fn.func 79) #[.pointer (some ⟨I, 0, none⟩)] #[]] w (Rds (manyR (numR zs 1) n) (fun w' ys V => (iRow V ys).own w' w.heap.size) w B I L a c zs k) := by
  obtain ⟨i0, hi, hz0, hz1, hz2⟩ := info_parts info64
  have H0 : Hid (Br w w [iRow (.slice none 0 0) []] B I L a c zs k) := (Br.start h).nil 2 1
  clear h
  go_enter Tryz.func78, Tryz.ntmps78
  go_wp2
  go_loopw [5, 7] (fun o i wr => ∃ (j : Nat) (ys : List Int) (kk : Nat) (b : Option Addr) (d : Nat), o = .slice b ys.length d ∧ i = .int .i64 (j : Int) ∧ j ≤ n ∧ Hid (ys.length = j ∧ manyR (numR zs 1) j k = some (ys, kk) ∧ Br w wr [iRow (.slice b ys.length d) ys] B I L a c zs kk)) (fun _ i _ => n - (intOf i).toNat)
  case atStart =>
    exact ⟨0, [], k, none, 0, rfl, rfl, by omega, rfl, rfl, H0.out⟩
  case round =>
    clear H0
    obtain ⟨j, ys, kk, b, d, rfl, rfl, hj, HM⟩ := hrel
    have HL : Hid (ys.length = j) := HM.out.1
    have hlb : ys.length ≤ 65535 := by rw [HL.out]; omega
    by_cases hlt : j < n
    · have hlt' : (j : Int) < (n : Int) := by omega
      go_wp2_with fail
      refine (typeByte_any B I L a c zs kk wr HM.out.2.2.got.at_).mono ?_
      rintro e u1 (⟨x, V, k1, rfl, hr, rfl, hg⟩ | ⟨rfl, hnn, hc⟩)
      rotate_left
      · unfold stopE
        go_wp2
        exact ⟨rfl, .inr ⟨rfl, many_short (many_stop HM.out.2.1 hnn) (by omega), HM.out.2.2.got.chg.on hc⟩⟩
      have H2 : Hid (Br w (u1.alloc (.cells #[.int .i64 x] 2)) [iRow (.slice b ys.length d) ys] B I L a c zs k1) := (HM.out.2.2.read hg).keep (below_alloc _ _)
      have RM : Hid (manyR (numR zs 1) (j + 1) k = some (ys ++ [x], k1)) := many_next HM.out.2.1 hr
      have O2 : Hid ((u1.alloc (.cells #[.int .i64 x] 2)).ownsRow w.heap.size 2 1 (.slice b ys.length d) ys.length (ys.flatMap intCell)) := H2.out.sep.own (iRow (.slice b ys.length d) ys) (by simp)
      have hs2 := H2.out.size
      clear hr hg HM
      go_wp2_with (at_builtin; refine wpList_append_own_at _ rfl _ _ 57 rfl w.heap.size 2 i0 (.int .i64 0) 1 8 Tryz.underlying57 hi hz0 hz1 hz2 rfl (by decide) _ _ _ rfl O2.out ⟨u1.heap.size, 0, none⟩ 1 1 [.int .i64 x] rfl rfl (lit_at u1 [.int .i64 x] 2) (by intro u hu; simp at hu; subst hu; rfl) (by unfold maxLen; omega) (by omega) hs2 ?_; intro V' u5 ho hgr _ hat; obtain ⟨b', d', e5⟩ := own_sl ho; subst e5; have H5 : Hid (Br w u5 [iRow (.slice b' (ys.length + 1) d') (ys ++ [x])] B I L a c zs k1) := Br.app (A := []) H2.out (iRow (.slice b' (ys.length + 1) d') (ys ++ [x])) (by simpa [RowI.own, iRow, intCell] using ho) hgr hat; clear ho hgr hat H2 O2)
      go_roundw
      case rel =>
        have el : (ys ++ [x]).length = ys.length + 1 := by simp
        refine ⟨j + 1, ys ++ [x], k1, b', d', by rw [el], by go_num, by omega, by rw [el, HL.out], RM.out, ?_⟩
        rw [el]
        exact H5.out
      case measure => simp [intOf]; omega
    · have hjn : n = j := by omega
      have hge : ¬ (j : Int) < (n : Int) := by omega
      go_wp2
      go_ret
      exact .inl ⟨ys, _, kk, rfl, HM.out.2.1, HM.out.2.2.sep.own (iRow (.slice b ys.length d) ys) (by simp), HM.out.2.2.got⟩
set_option maxHeartbeats 4000000 in
set_option maxRecDepth 100000 in
theorem listInstr_any (B I L : Nat) (a : Option Addr) (c : Nat) (zs : List Int) (n k : Nat) (w : World) (hn : n ≤ 65535) (h : InR w B I L a c zs k) :
    Calls Tryz.prog 80 #[.int .i64 (n : Int), .func (Fn.func 81) #[.pointer (some ⟨I, 0, none⟩)] #[]] w (Rds (manyR (instrR zs) n) (fun w' ys V => (nRow V ys).own w' w.heap.size) w B I L a c zs k) := by
  obtain ⟨i0, hi, hz0, hz1, hz2⟩ := info_parts infoI
  have H0 : Hid (Br w w [nRow (.slice none 0 0) []] B I L a c zs k) := (Br.start h).nil 73 4
  clear h
  go_enter Tryz.func80, Tryz.ntmps80
  go_wp2
  go_loopw [5, 7] (fun o i wr => ∃ (j : Nat) (ys : List MI) (kk : Nat) (b : Option Addr) (d : Nat), o = .slice b ys.length d ∧ i = .int .i64 (j : Int) ∧ j ≤ n ∧ Hid (ys.length = j ∧ manyR (instrR zs) j k = some (ys, kk) ∧ Br w wr [nRow (.slice b ys.length d) ys] B I L a c zs kk)) (fun _ i _ => n - (intOf i).toNat)
  case atStart =>
    exact ⟨0, [], k, none, 0, rfl, rfl, by omega, rfl, rfl, H0.out⟩
  case round =>
    clear H0
    obtain ⟨j, ys, kk, b, d, rfl, rfl, hj, HM⟩ := hrel
    have HL : Hid (ys.length = j) := HM.out.1
    have hlb : ys.length ≤ 65535 := by rw [HL.out]; omega
    by_cases hlt : j < n
    · have hlt' : (j : Int) < (n : Int) := by omega
      go_wp2_with fail
      refine (instruction_any B I L a c zs kk wr HM.out.2.2.got.at_).mono ?_
      rintro e u1 (⟨x, V, k1, rfl, hr, rfl, hg⟩ | ⟨rfl, hnn, hc⟩)
      rotate_left
      · unfold stopE
        go_wp2
        exact ⟨rfl, .inr ⟨rfl, many_short (many_stop HM.out.2.1 hnn) (by omega), HM.out.2.2.got.chg.on hc⟩⟩
      have H2 : Hid (Br w (u1.alloc (.cells #[.int .i64 x.op, .int .i64 x.a, .int .i64 x.b, .int .i64 x.c] 73)) [nRow (.slice b ys.length d) ys] B I L a c zs k1) := (HM.out.2.2.read hg).keep (below_alloc _ _)
      have RM : Hid (manyR (instrR zs) (j + 1) k = some (ys ++ [x], k1)) := many_next HM.out.2.1 hr
      have O2 : Hid ((u1.alloc (.cells #[.int .i64 x.op, .int .i64 x.a, .int .i64 x.b, .int .i64 x.c] 73)).ownsRow w.heap.size 73 4 (.slice b ys.length d) ys.length (ys.flatMap MI.cells)) := H2.out.sep.own (nRow (.slice b ys.length d) ys) (by simp)
      have hs2 := H2.out.size
      clear hr hg HM
      go_wp2_with (at_builtin; refine wpList_append_own_at _ rfl _ _ 62 rfl w.heap.size 73 i0 (.agg #[.int .i64 0, .int .i64 0, .int .i64 0, .int .i64 0]) 4 32 Tryz.underlying62 hi hz0 hz1 hz2 rfl (by decide) _ _ _ rfl O2.out ⟨u1.heap.size, 0, none⟩ 1 1 [.int .i64 x.op, .int .i64 x.a, .int .i64 x.b, .int .i64 x.c] rfl rfl (lit_at u1 [.int .i64 x.op, .int .i64 x.a, .int .i64 x.b, .int .i64 x.c] 73) (by intro u hu; simp at hu; rcases hu with rfl | rfl | rfl | rfl <;> rfl) (by unfold maxLen; omega) (by omega) hs2 ?_; intro V' u5 ho hgr _ hat; obtain ⟨b', d', e5⟩ := own_sl ho; subst e5; have H5 : Hid (Br w u5 [nRow (.slice b' (ys.length + 1) d') (ys ++ [x])] B I L a c zs k1) := Br.app (A := []) H2.out (nRow (.slice b' (ys.length + 1) d') (ys ++ [x])) (by simpa [RowI.own, nRow, MI.cells] using ho) hgr hat; clear ho hgr hat H2 O2)
      go_roundw
      case rel =>
        have el : (ys ++ [x]).length = ys.length + 1 := by simp
        refine ⟨j + 1, ys ++ [x], k1, b', d', by rw [el], by go_num, by omega, by rw [el, HL.out], RM.out, ?_⟩
        rw [el]
        exact H5.out
      case measure => simp [intOf]; omega
    · have hjn : n = j := by omega
      have hge : ¬ (j : Int) < (n : Int) := by omega
      go_wp2
      go_ret
      exact .inl ⟨ys, _, kk, rfl, HM.out.2.1, HM.out.2.2.sep.own (nRow (.slice b ys.length d) ys) (by simp), HM.out.2.2.got⟩
set_option maxHeartbeats 4000000 in
set_option maxRecDepth 100000 in
theorem listConst_any (B I L : Nat) (a : Option Addr) (c : Nat) (zs : List Int) (n k : Nat) (w : World) (hn : n ≤ 65535) (h : InR w B I L a c zs k) :
    Calls Tryz.prog 55 #[.int .i64 (n : Int), .func (Fn.func 56) #[.pointer (some ⟨I, 0, none⟩)] #[]] w (Rds (manyR (constR zs) n) (fun w' ys V => (cRow V ys).own w' w.heap.size) w B I L a c zs k) := by
  obtain ⟨i0, hi, hz0, hz1, hz2⟩ := info_parts infoC
  have H0 : Hid (Br w w [cRow (.slice none 0 0) []] B I L a c zs k) := (Br.start h).nil 61 2
  clear h
  go_enter Tryz.func55, Tryz.ntmps55
  go_wp2
  go_loopw [5, 7] (fun o i wr => ∃ (j : Nat) (ys : List MC) (kk : Nat) (b : Option Addr) (d : Nat), o = .slice b ys.length d ∧ i = .int .i64 (j : Int) ∧ j ≤ n ∧ Hid (ys.length = j ∧ manyR (constR zs) j k = some (ys, kk) ∧ Br w wr [cRow (.slice b ys.length d) ys] B I L a c zs kk)) (fun _ i _ => n - (intOf i).toNat)
  case atStart =>
    exact ⟨0, [], k, none, 0, rfl, rfl, by omega, rfl, rfl, H0.out⟩
  case round =>
    clear H0
    obtain ⟨j, ys, kk, b, d, rfl, rfl, hj, HM⟩ := hrel
    have HL : Hid (ys.length = j) := HM.out.1
    have hlb : ys.length ≤ 65535 := by rw [HL.out]; omega
    by_cases hlt : j < n
    · have hlt' : (j : Int) < (n : Int) := by omega
      go_wp2_with fail
      refine (constant_any B I L a c zs kk wr HM.out.2.2.got.at_).mono ?_
      rintro e u1 (⟨x, V, k1, rfl, hr, rfl, hg⟩ | ⟨rfl, hnn, hc⟩)
      rotate_left
      · unfold stopE
        go_wp2
        exact ⟨rfl, .inr ⟨rfl, many_short (many_stop HM.out.2.1 hnn) (by omega), HM.out.2.2.got.chg.on hc⟩⟩
      have H2 : Hid (Br w (u1.alloc (.cells #[.int .i64 x.type, .int .u32 x.word] 61)) [cRow (.slice b ys.length d) ys] B I L a c zs k1) := (HM.out.2.2.read hg).keep (below_alloc _ _)
      have RM : Hid (manyR (constR zs) (j + 1) k = some (ys ++ [x], k1)) := many_next HM.out.2.1 hr
      have O2 : Hid ((u1.alloc (.cells #[.int .i64 x.type, .int .u32 x.word] 61)).ownsRow w.heap.size 61 2 (.slice b ys.length d) ys.length (ys.flatMap MC.cells)) := H2.out.sep.own (cRow (.slice b ys.length d) ys) (by simp)
      have hs2 := H2.out.size
      clear hr hg HM
      go_wp2_with (at_builtin; refine wpList_append_own_at _ rfl _ _ 24 rfl w.heap.size 61 i0 (.agg #[.int .i64 0, .int .u32 0]) 2 16 Tryz.underlying24 hi hz0 hz1 hz2 rfl (by decide) _ _ _ rfl O2.out ⟨u1.heap.size, 0, none⟩ 1 1 [.int .i64 x.type, .int .u32 x.word] rfl rfl (lit_at u1 [.int .i64 x.type, .int .u32 x.word] 61) (by intro u hu; simp at hu; rcases hu with rfl | rfl <;> rfl) (by unfold maxLen; omega) (by omega) hs2 ?_; intro V' u5 ho hgr _ hat; obtain ⟨b', d', e5⟩ := own_sl ho; subst e5; have H5 : Hid (Br w u5 [cRow (.slice b' (ys.length + 1) d') (ys ++ [x])] B I L a c zs k1) := Br.app (A := []) H2.out (cRow (.slice b' (ys.length + 1) d') (ys ++ [x])) (by simpa [RowI.own, cRow, MC.cells] using ho) hgr hat; clear ho hgr hat H2 O2)
      go_roundw
      case rel =>
        have el : (ys ++ [x]).length = ys.length + 1 := by simp
        refine ⟨j + 1, ys ++ [x], k1, b', d', by rw [el], by go_num, by omega, by rw [el, HL.out], RM.out, ?_⟩
        rw [el]
        exact H5.out
      case measure => simp [intOf]; omega
    · have hjn : n = j := by omega
      have hge : ¬ (j : Int) < (n : Int) := by omega
      go_wp2
      go_ret
      exact .inl ⟨ys, _, kk, rfl, HM.out.2.1, HM.out.2.2.sep.own (cRow (.slice b ys.length d) ys) (by simp), HM.out.2.2.got⟩
set_option maxHeartbeats 4000000 in
set_option maxRecDepth 100000 in
theorem listCert_any (B I L : Nat) (a : Option Addr) (c : Nat) (zs : List Int) (n k : Nat) (w : World) (hn : n ≤ 65535) (h : InR w B I L a c zs k) :
    Calls Tryz.prog 59 #[.int .i64 (n : Int), .func (Fn.func 60) #[.pointer (some ⟨I, 0, none⟩)] #[]] w (Rds (manyR (certR zs) n) (fun w' ys V => (tRow V ys).own w' w.heap.size) w B I L a c zs k) := by
  obtain ⟨i0, hi, hz0, hz1, hz2⟩ := info_parts infoT
  have H0 : Hid (Br w w [tRow (.slice none 0 0) []] B I L a c zs k) := (Br.start h).nil 67 4
  clear h
  go_enter Tryz.func59, Tryz.ntmps59
  go_wp2
  go_loopw [5, 7] (fun o i wr => ∃ (j : Nat) (ys : List MT) (kk : Nat) (b : Option Addr) (d : Nat), o = .slice b ys.length d ∧ i = .int .i64 (j : Int) ∧ j ≤ n ∧ Hid (ys.length = j ∧ manyR (certR zs) j k = some (ys, kk) ∧ Br w wr [tRow (.slice b ys.length d) ys] B I L a c zs kk)) (fun _ i _ => n - (intOf i).toNat)
  case atStart =>
    exact ⟨0, [], k, none, 0, rfl, rfl, by omega, rfl, rfl, H0.out⟩
  case round =>
    clear H0
    obtain ⟨j, ys, kk, b, d, rfl, rfl, hj, HM⟩ := hrel
    have HL : Hid (ys.length = j) := HM.out.1
    have hlb : ys.length ≤ 65535 := by rw [HL.out]; omega
    by_cases hlt : j < n
    · have hlt' : (j : Int) < (n : Int) := by omega
      go_wp2_with fail
      refine (cert_any B I L a c zs kk wr HM.out.2.2.got.at_).mono ?_
      rintro e u1 (⟨x, V, k1, rfl, hr, rfl, hg⟩ | ⟨rfl, hnn, hc⟩)
      rotate_left
      · unfold stopE
        go_wp2
        exact ⟨rfl, .inr ⟨rfl, many_short (many_stop HM.out.2.1 hnn) (by omega), HM.out.2.2.got.chg.on hc⟩⟩
      have H2 : Hid (Br w (u1.alloc (.cells #[.int .i64 x.func, .int .i64 x.head, .int .i64 x.counter, .int .u32 x.init] 67)) [tRow (.slice b ys.length d) ys] B I L a c zs k1) := (HM.out.2.2.read hg).keep (below_alloc _ _)
      have RM : Hid (manyR (certR zs) (j + 1) k = some (ys ++ [x], k1)) := many_next HM.out.2.1 hr
      have O2 : Hid ((u1.alloc (.cells #[.int .i64 x.func, .int .i64 x.head, .int .i64 x.counter, .int .u32 x.init] 67)).ownsRow w.heap.size 67 4 (.slice b ys.length d) ys.length (ys.flatMap MT.cells)) := H2.out.sep.own (tRow (.slice b ys.length d) ys) (by simp)
      have hs2 := H2.out.size
      clear hr hg HM
      go_wp2_with (at_builtin; refine wpList_append_own_at _ rfl _ _ 26 rfl w.heap.size 67 i0 (.agg #[.int .i64 0, .int .i64 0, .int .i64 0, .int .u32 0]) 4 32 Tryz.underlying26 hi hz0 hz1 hz2 rfl (by decide) _ _ _ rfl O2.out ⟨u1.heap.size, 0, none⟩ 1 1 [.int .i64 x.func, .int .i64 x.head, .int .i64 x.counter, .int .u32 x.init] rfl rfl (lit_at u1 [.int .i64 x.func, .int .i64 x.head, .int .i64 x.counter, .int .u32 x.init] 67) (by intro u hu; simp at hu; rcases hu with rfl | rfl | rfl | rfl <;> rfl) (by unfold maxLen; omega) (by omega) hs2 ?_; intro V' u5 ho hgr _ hat; obtain ⟨b', d', e5⟩ := own_sl ho; subst e5; have H5 : Hid (Br w u5 [tRow (.slice b' (ys.length + 1) d') (ys ++ [x])] B I L a c zs k1) := Br.app (A := []) H2.out (tRow (.slice b' (ys.length + 1) d') (ys ++ [x])) (by simpa [RowI.own, tRow, MT.cells] using ho) hgr hat; clear ho hgr hat H2 O2)
      go_roundw
      case rel =>
        have el : (ys ++ [x]).length = ys.length + 1 := by simp
        refine ⟨j + 1, ys ++ [x], k1, b', d', by rw [el], by go_num, by omega, by rw [el, HL.out], RM.out, ?_⟩
        rw [el]
        exact H5.out
      case measure => simp [intOf]; omega
    · have hjn : n = j := by omega
      have hge : ¬ (j : Int) < (n : Int) := by omega
      go_wp2
      go_ret
      exact .inl ⟨ys, _, kk, rfl, HM.out.2.1, HM.out.2.2.sep.own (tRow (.slice b ys.length d) ys) (by simp), HM.out.2.2.got⟩
end Go.Proofs.YtnemieeeappgnaaGreatDoor
