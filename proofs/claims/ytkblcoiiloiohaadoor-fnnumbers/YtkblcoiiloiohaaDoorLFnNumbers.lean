/- FnNumbers: the walk, the row, the card. -/
import Derived.Test.YtkblcoiiloiohaaDoorCards
import Derived.Test.YtkblcoiiloiohaaDoorTie
import Derived.Test.YtkblcoiiloiohaaDoorNumMath2
import Derived.Test.YtkblcoiiloiohaaDoorDrawNum
import Derived.Test.YtkblcoiiloiohaaDoorDrawRow
import Derived.WalkKit
import Derived.ProofKit
import Derived.OpenShut
import Derived.ShutString
import Derived.ChangeOld
import Derived.Below
import Derived.OpenVars
import Derived.Deep.DeepHandedRow
import Derived.Lib.LaidTab
import Derived.Deep.RegionWith
import Derived.RegionTactic
namespace Go.Proofs.YtkblcoiiloiohaaDoor.fnNumbers
open Go.ChangeShapes Go.WideShapes Go.ChangeAt Go.RowKit
set_option linter.unusedVariables false

theorem own : ownKnob Tryd.prog.godebug = none := by kernel_rfl
theorem laidOut : laidOutB Tryd.prog = true := by kernel_rfl
theorem gTab : Tryd.prog.globalNamed "loop.example/s02548/impl.sumSteps" = some 0 := by kernel_rfl
theorem gTabType : (Tryd.prog.globals[0]?).map (·.type) = some 47 := by kernel_rfl
theorem cellsTab : Tryd.prog.cellsOf 47 = 16 := by kernel_rfl
theorem cellsW : Tryd.prog.cellsOf 33 = 1 := by kernel_rfl

/-- What the row's list gives: the table's cells. -/
theorem table {W : World} (h : laidMetH Tryd.prog Rows.fnNumbersRow.laid W) : Lib.TabIs Tryd.prog W "loop.example/s02548/impl.sumSteps" .u32 sumTab :=
  Lib.tabIs_of_head (rest := []) gTab gTabType Tryd.underlying47 Tryd.underlying33 cellsW cellsTab h

/-- What the walk is told of a slice of bytes that came in. -/
def IsRow (k : IntKind) (w : World) (a : Option Addr) (len cap : Nat) (zs : List Int) : Prop :=
  (a = none ∧ len = 0 ∧ cap = 0 ∧ zs = []) ∨
  ∃ x, a = some x ∧ len ≤ cap ∧ cap ≤ maxLen ∧ zs.length = cap ∧ (∀ i, i < zs.length → w.cell? (x.add i) = some (.int k (zs.getD i 0))) ∧ ∀ n ∈ zs, (Lit.int k n).wf = true

set_option maxRecDepth 100000 in
set_option maxHeartbeats 8000000 in
theorem walk (a0 : Option Addr) (len0 cap0 : Nat) (z0 : List Int) (w : World) (w0 : IsRow .u8 w a0 len0 cap0 z0) (ht : TabAt w) (h0 : 0 < w.heap.size) :
    Calls Tryd.prog 3 #[.slice a0 len0 cap0] w fun e w' => e = .returned (.bool true) ∧ Below w.heap.size w w' := by
  have hcode := codeAt_of_row w0
  clear w0
  by_cases hbig : (1048576 : Int) < (len0 : Int)
  · go_enter Tryd.func3, Tryd.ntmps3
    go_wp2
    go_ret
    exact ⟨rfl, Below.refl _ _⟩
  · have HC : Hid (CodeAt w w.heap.size a0 len0 ∧ TabAt w) := ⟨hcode, ht⟩
    clear hcode ht
    obtain ⟨i0, hi, hz0, hz1, hz2⟩ := info_parts infoD8
    have hzn := zero_num
    have kc := fun (w : World) (C : Array Value) (n c : Nat) => Lib.run_convert_bytes_const (P := Tryd.prog) w 22 5 C n c Tryd.underlying22 Tryd.underlying5
    go_enter Tryd.func3, Tryd.ntmps3
    go_wp2_with fail
    refine (DrawPutNumber_any a0 len0 cap0 w (by omega) HC.out.1).mono ?_
    rintro e w1 ⟨v, n, v0, v1, n0, n1, rfl, hb1⟩
    have H1 : Hid (Below w.heap.size w w1) := hb1
    clear hb1
    go_wp2_with fail
    refine (PutNumber_any v n w1).mono ?_
    rintro e w2 ⟨b, rfl, hown, hb2⟩
    by_cases hbad : n < 1 ∨ 8 < n
    · have e0 : numN n = 0 := if_neg (by omega)
      rw [e0] at hown
      have hb : ∃ a c, b = .slice a 0 c := by
        rcases (Reads.of_own hown).2 with ⟨_, a, c, rfl⟩ | ⟨g, o, c, rfl, _⟩
        · exact ⟨_, _, rfl⟩
        · exact ⟨_, _, rfl⟩
      have H2 : Hid (Below w.heap.size w w2) := H1.out.trans (hb2.mono H1.out.size)
      clear hown hb2
      obtain ⟨a, c, rfl⟩ := hb
      rcases hbad with h | h
      · have d1 : decide (n < 1) = true := by simpa using h
        go_wp2
        go_ret
        exact ⟨rfl, H2.out⟩
      · have d1 : decide (n < 1) = false := by simp; omega
        have d2 : decide (8 < n) = true := by simpa using h
        go_wp2
        go_ret
        exact ⟨rfl, H2.out⟩
    · obtain ⟨N, rfl⟩ := Int.eq_ofNat_of_zero_le n0
      have e0 : numN (N : Int) = N := if_pos (by omega)
      rw [e0] at hown
      have d1 : decide ((N : Int) < 1) = false := by simp; omega
      have d2 : decide (8 < (N : Int)) = false := by simp; omega
      obtain ⟨g, cb, rfl, hgw, hgc⟩ : ∃ g c, b = .slice (some ⟨g, 0, none⟩) N c ∧ w1.heap.size ≤ g ∧ ∀ j u, (numL v N)[j]? = some u → w2.cell? ((⟨g, 0, none⟩ : Addr).add j) = some u := by
        rcases hown.2 with ⟨_, h⟩ | ⟨g, cap, cur, rfl, hb, _⟩
        · omega
        · exact ⟨g, cap, rfl, hb, hown.cells rfl⟩
      have H2 : Hid (w2.ownsRow w1.heap.size 5 1 (.slice (some ⟨g, 0, none⟩) N cb) N (numL v N) ∧ Below w.heap.size w w2 ∧ ∀ j u, (numL v N)[j]? = some u → w2.cell? ((⟨g, 0, none⟩ : Addr).add j) = some u) := ⟨hown, H1.out.trans (hb2.mono H1.out.size), hgc⟩
      clear hown hb2 hgc
      go_wp2_with fail
      refine (lwAt_any a0 len0 cap0 0 4 w.heap.size w2 (by omega) (HC.out.1.of_drawn (Nat.le_refl _) (Nat.le_refl _) fun k hk => H2.out.2.1.block k hk) (by omega) (by omega) (by omega)).mono ?_
      rintro e w3 ⟨rk, k0, k1, rfl, nq, rfl⟩
      obtain ⟨K, rfl⟩ := Int.eq_ofNat_of_zero_le k0
      have hK : K < 4 := by omega
      have hd0 : Hid (Below w2.heap.size w2 (w2.drewN nq)) := below_drewN _ _ _
      go_wp2_with (first
        | (at_make; refine wpList_make_full _ rfl _ _ 22 rfl w2.heap.size 5 i0 (.int .u8 0) 1 Tryd.underlying22 hi hz0 hz1 .i64 .i64 _ _ K rfl rfl rfl rfl (by rw [hz2]; omega) (by unfold maxLen; omega) (Nat.le_refl _) ?_; intro w4 hown4 hgrow4; have H4 : Hid (w4.ownsRow w2.heap.size 5 1 (.slice (some ⟨w2.heap.size, 0, none⟩) K K) K (madeCells (Value.int .u8 0).cells (K * 1)).toList ∧ Below w2.heap.size w2 w4) := ⟨hown4, hd0.out.grown hgrow4 (Nat.le_refl _) (fun k hk => by cases hk)⟩; clear hown4 hgrow4)
        | (at_builtin; refine wpList_append_own _ rfl (.tmp 34) (.tmp 35) 22 rfl w2.heap.size 5 i0 (.int .u8 0) 1 1 Tryd.underlying22 hi hz0 hz1 hz2 rfl (by decide) _ _ _ rfl H4.out.1 ⟨g, 0, none⟩ N cb (numL v N) rfl (by simp [numL]) (cells_keep H2.out.2.2 H4.out.2) (numL_one v N) (by unfold maxLen; omega) (by omega) H4.out.2.size ?_; intro v5 w5 hown5 hgrow5 hnil5; have H5 : Hid (w5.ownsRow w2.heap.size 5 1 v5 (K + N) ((madeCells (Value.int .u8 0).cells (K * 1)).toList ++ numL v N) ∧ Below w2.heap.size w2 w5) := ⟨hown5, H4.out.2.grown hgrow5 H4.out.2.size (fun j hj => (H4.out.1.lt j hj).1)⟩; clear hown5 hgrow5 hnil5)
        | (at_builtin; refine wpList_append_own _ rfl (.tmp 36) (.tmp 37) 22 rfl w2.heap.size 5 i0 (.int .u8 0) 1 1 Tryd.underlying22 hi hz0 hz1 hz2 rfl (by decide) _ _ _ rfl (H5.out.1.alloc _) ⟨w5.heap.size, 0, none⟩ 1 1 [.int .u8 7] rfl rfl (cell_one_new _ _ _) (ints_oneCell .u8 [7]) (by unfold maxLen; omega) (by omega) (by have := H5.out.2.size; simp; omega) ?_; intro v6 w6 hown6 hgrow6 hnil6; have H6 : Hid (w6.ownsRow w2.heap.size 5 1 v6 (K + N + 1) (((madeCells (Value.int .u8 0).cells (K * 1)).toList ++ numL v N) ++ [.int .u8 7]) ∧ Below w2.heap.size w2 w6) := ⟨hown6, (H5.out.2.alloc H5.out.2.size _).grown hgrow6 (by have := H5.out.2.size; simp; omega) (fun j hj => (H5.out.1.lt j hj).1)⟩; clear hown6 hgrow6 hnil6))
      have hnum := num_back v K N (by omega)
      have HN : Hid (∃ zs : List Int, ((madeCells (Value.int .u8 0).cells (K * 1)).toList ++ numL v N) ++ [.int .u8 7] = zs.map (Value.int .u8) ∧ getAcc zs K N = v % 2 ^ (8 * N)) := hnum
      clear hnum
      obtain ⟨zq, hzq, hacc⟩ := HN.out
      rw [hzq] at H6
      have hcap6 : ∀ a c, v6 = .slice a (K + N + 1) c → K + N + 1 ≤ c := own_cap H6.out.1
      refine (GetNumber_in v6 (K + N + 1) zq K N w6 (by omega) (Reads.of_own H6.out.1) hcap6 (by omega) (by omega) (by omega)).mono ?_
      rw [hacc]
      rintro e w7 ⟨rfl, hb7⟩
      have H7 : Hid (Below w.heap.size w w7) := (H2.out.2.1.trans (H6.out.2.mono H2.out.2.1.size)).trans (hb7.mono (Nat.le_trans H2.out.2.1.size H6.out.2.size))
      clear hb7 hzq hacc hcap6
      have hmask := mask_ok v N
      have hwhole := whole_ok v N
      generalize wrap64 (v % 2 ^ (8 * N)) = R at hmask hwhole ⊢
      by_cases h8 : N = 8
      · have hv8 : (R != v) = false := by rw [hwhole h8 v0 v1]; simp
        have hN1 : ((N : Int) == 8) = true := by simp; omega
        have hN2 : decide ((N : Int) < 8) = false := by simp; omega
        clear hmask hwhole h8
        go_wp2_with fail
        have H8 : Hid (Below w.heap.size w (w7.alloc (.cells #[.bool true, .int .i64 R] 28))) := H7.out.alloc H7.out.size _
        refine (DrawCrc_any a0 len0 cap0 _ (by omega) (HC.out.1.of_drawn H8.out.size (Nat.le_refl _) fun k hk => H8.out.block k hk)).mono ?_
        rintro e w9 ⟨s, m, zs, hm, rfl, hrd, hbz, hb9⟩
        have H9 : Hid (Reads w9 s m (zs.map (Value.int .u8)) ∧ AreBytes zs ∧ Below w.heap.size w w9 ∧ TabAt w9) := ⟨hrd, hbz, H8.out.trans (hb9.mono H8.out.size), fun j hj => ((H8.out.trans (hb9.mono H8.out.size)).cell (p := ⟨0, j, none⟩) h0).trans (HC.out.2 j hj)⟩
        clear hrd hbz hb9
        by_cases hm0 : m = 0
        · subst hm0
          obtain ⟨a9, c9, rfl⟩ : ∃ a c, s = .slice a 0 c := by
            rcases H9.out.1.2 with ⟨_, a, c, rfl⟩ | ⟨g, o, c, rfl, _⟩
            · exact ⟨_, _, rfl⟩
            · exact ⟨_, _, rfl⟩
          go_wp2_with fail
          refine (Crc_any _ 0 zs w9 (by omega) H9.out.1 (bytes_getD H9.out.2.1) H9.out.2.2.2).mono ?_
          rw [crc_none zs]
          rintro e w10 ⟨rfl, rfl⟩
          go_wp2
          go_ret
          exact ⟨rfl, H9.out.2.2.1⟩
        · obtain ⟨g9, o9, c9, rfl, hc9⟩ : ∃ g o c, s = .slice (some ⟨g, o, none⟩) m c ∧ ∀ j u, (zs.map (Value.int .u8))[j]? = some u → w9.cell? ⟨g, o + j, none⟩ = some u := by
            rcases H9.out.1.2 with ⟨h, _⟩ | h
            · omega
            · exact h
          have hl9 : zs.length = m := by simpa using H9.out.1.1
          have HC9 : Hid ((∀ j u, (zs.map (Value.int .u8))[j]? = some u → w9.cell? ⟨g9, o9 + j, none⟩ = some u) ∧ zs.length = m) := ⟨hc9, hl9⟩
          clear hc9 hl9
          have hmI : ((m : Int) == 0) = false := by simp; omega
          go_wp2_with (at_builtin; refine wpList_append_own _ rfl (.tmp 87) (.tmp 88) 22 rfl w9.heap.size 5 i0 (.int .u8 0) 1 1 Tryd.underlying22 hi hz0 hz1 hz2 rfl (by decide) _ _ _ rfl (own_empty w9 _) ⟨g9, o9, none⟩ m c9 (zs.map (Value.int .u8)) rfl (by simpa using HC9.out.2) (reads_cells HC9.out.1 ((Below.refl _ _).alloc (Nat.le_refl _) _)) (map_one zs) (by unfold maxLen; omega) (by omega) (by simp) ?_; intro v10 w10 hown10 hgrow10 hnil10; rw [Nat.zero_add, List.nil_append] at hown10; have H10 : Hid (w10.ownsRow w9.heap.size 5 1 v10 m (zs.map (Value.int .u8)) ∧ Below w9.heap.size w9 w10) := ⟨hown10, ((Below.refl _ _).alloc (Nat.le_refl _) _).grown hgrow10 (by simp) (fun j hj => by cases hj; exact Nat.le_refl _)⟩; have hsh : ∃ gd cd, v10 = .slice (some ⟨gd, 0, none⟩) m cd ∧ w9.heap.size ≤ gd := own_shape hown10 hm0; clear hown10 hgrow10 hnil10; obtain ⟨gd, cd, hvd, hgd⟩ := hsh; rw [hvd] at H10 ⊢; clear hvd)
          have HCA : Hid (∀ q, CodeAt (w10.drewN q) w.heap.size a0 len0) := fun q => HC.out.1.of_drawn (Nat.le_refl _) (Nat.le_refl _) fun k hk => (H9.out.2.2.1.trans (H10.out.2.mono H9.out.2.2.1.size)).block k hk
          refine (lwAt_any a0 len0 cap0 3 m w.heap.size w10 (by omega) (HCA.out 0) (by omega) (by omega) (by omega)).mono ?_
          rintro e w11 ⟨rt, t0, t1, rfl, nq11, rfl⟩
          obtain ⟨T, rfl⟩ := Int.eq_ofNat_of_zero_le t0
          have hT : T < m := by omega
          have hT' : (T : Int) < (m : Int) := by omega
          have hcd : w10.cell? ⟨gd, T, none⟩ = some (.int .u8 (zs.getD T 0)) := by
            rw [H10.out.1.cellAt T (by omega)]
            exact map_at zs T (by have := HC9.out.2; omega)
          have hfd : w10.frozen? ⟨gd, T, none⟩ = false := H10.out.1.frozenAt T
          have hx := bytes_getD H9.out.2.1 T
          have hx0 := hx.1
          have hx1 := hx.2
          clear hx
          generalize hxe : zs.getD T 0 = x at hcd hx0 hx1
          have HX : Hid (zs.getD T 0 = x) := hxe
          clear hxe t0 t1 hmI
          go_wp2
          go_region_with (go_at_call 6; refine (lwAt_any a0 len0 cap0 4 8 w.heap.size _ (by omega) (by exact HCA.out _) (by omega) (by omega) (by omega)).mono ?_; rintro e w12 ⟨rj, j0, j1, rfl, nq12, rfl⟩)
          all_goals
            have hy := shl_ok rj j0 (by omega)
            have hX := xor8 x _ hx0 hx1 hy.1 hy.2
            clear hy
            generalize bits .xor .u8 x (IntKind.u8.wrap (2 ^ min (IntKind.u64.wrap rj).toNat 8)) = X at hX ⊢
            have hb13 : Below w9.heap.size w9 ((w10.drewN (nq11 + 1 + nq12)).setCell ⟨gd, T, none⟩ (.int .u8 X)) := (H10.out.2.trans (below_drewN _ _ _)).setCell hgd _
            have hst : ((w10.drewN (nq11 + 1 + nq12)).setCell ⟨gd, T, none⟩ (.int .u8 X)).ownsRow w9.heap.size 5 1 (.slice (some ⟨gd, 0, none⟩) m cd) m ((zs.map (Value.int .u8)).set T (.int .u8 X)) := (World.ownsRow.stored (w := w10.drewN (nq11 + 1 + nq12)) H10.out.1 T (.int .u8 X)).1
            rw [← List.map_set] at hst
            generalize (w10.drewN (nq11 + 1 + nq12)).setCell ⟨gd, T, none⟩ (.int .u8 X) = w13 at hb13 hst ⊢
            have hbel13 : Below w.heap.size w w13 := H9.out.2.2.1.trans (hb13.mono H9.out.2.2.1.size)
            have hset : ∀ j, (zs.set T X).getD j 0 = if j = T then X else zs.getD j 0 := fun j => getD_set zs T j X (by have := HC9.out.2; omega)
            have hne := crc_ne zs m T X HC9.out.2 hT (bytes_getD H9.out.2.1) (by rw [HX.out]; exact hX.1) hX.2.1 hX.2.2
            have H13 : Hid (Reads w13 (.slice (some ⟨g9, o9, none⟩) m c9) m (zs.map (Value.int .u8)) ∧ Reads w13 (.slice (some ⟨gd, 0, none⟩) m cd) m ((zs.set T X).map (Value.int .u8)) ∧ (∀ j, 0 ≤ (zs.set T X).getD j 0 ∧ (zs.set T X).getD j 0 ≤ 255) ∧ Below w.heap.size w w13 ∧ TabAt w13) := ⟨H9.out.1.keep hb13, Reads.of_own hst, (fun j => by rw [hset]; split; exact hX.2; exact bytes_getD H9.out.2.1 j), hbel13, fun j hj => (hbel13.cell (p := ⟨0, j, none⟩) h0).trans (HC.out.2 j hj)⟩
            clear hb13 hst hbel13 hset hX hcd hfd hx0 hx1
            have hdg : toI (~~~(crcTo digits 9)) = 3421780262 := crc_digits
            have HDG : Hid (toI (~~~(crcTo digits 9)) = 3421780262) := hdg
            clear hdg
            generalize hcA : toI (~~~(crcTo zs m)) = cA at hne
            generalize hcB : toI (~~~(crcTo (zs.set T X) m)) = cB at hne
            have HA : Hid (toI (~~~(crcTo zs m)) = cA ∧ toI (~~~(crcTo (zs.set T X) m)) = cB) := ⟨hcA, hcB⟩
            clear hcA hcB
            go_wp2_with fail
            refine (Crc_any _ m zs w13 (by omega) H13.out.1 (bytes_getD H9.out.2.1) H13.out.2.2.2.2).mono ?_
            rw [HA.out.1]
            rintro e w14 ⟨rfl, rfl⟩
            go_wp2_with fail
            refine (Crc_any _ m (zs.set T X) w14 (by omega) H13.out.2.1 H13.out.2.2.1 H13.out.2.2.2.2).mono ?_
            rw [HA.out.2]
            rintro e w15 ⟨rfl, rfl⟩
            go_wp2_with fail
            refine (Crc_any _ 9 digits _ (by omega) (digits_reads _ _ _) (bytes_getD digits_bytes) (fun j hj => ((H13.out.2.2.2.1.alloc H13.out.2.2.2.1.size _).cell (p := ⟨0, j, none⟩) h0).trans (HC.out.2 j hj))).mono ?_
            rw [HDG.out]
            rintro e w16 ⟨rfl, rfl⟩
            go_wp2
            go_ret
            exact ⟨rfl, H13.out.2.2.2.1.alloc H13.out.2.2.2.1.size _⟩
      · have hv7 := hmask (by omega)
        have hN1 : ((N : Int) == 8) = false := by simp; omega
        have hN2 : decide ((N : Int) < 8) = true := by simp; omega
        clear hmask hwhole h8
        go_wp2_with fail
        have H8 : Hid (Below w.heap.size w (w7.alloc (.cells #[.bool true, .int .i64 R] 28))) := H7.out.alloc H7.out.size _
        refine (DrawCrc_any a0 len0 cap0 _ (by omega) (HC.out.1.of_drawn H8.out.size (Nat.le_refl _) fun k hk => H8.out.block k hk)).mono ?_
        rintro e w9 ⟨s, m, zs, hm, rfl, hrd, hbz, hb9⟩
        have H9 : Hid (Reads w9 s m (zs.map (Value.int .u8)) ∧ AreBytes zs ∧ Below w.heap.size w w9 ∧ TabAt w9) := ⟨hrd, hbz, H8.out.trans (hb9.mono H8.out.size), fun j hj => ((H8.out.trans (hb9.mono H8.out.size)).cell (p := ⟨0, j, none⟩) h0).trans (HC.out.2 j hj)⟩
        clear hrd hbz hb9
        by_cases hm0 : m = 0
        · subst hm0
          obtain ⟨a9, c9, rfl⟩ : ∃ a c, s = .slice a 0 c := by
            rcases H9.out.1.2 with ⟨_, a, c, rfl⟩ | ⟨g, o, c, rfl, _⟩
            · exact ⟨_, _, rfl⟩
            · exact ⟨_, _, rfl⟩
          go_wp2_with fail
          refine (Crc_any _ 0 zs w9 (by omega) H9.out.1 (bytes_getD H9.out.2.1) H9.out.2.2.2).mono ?_
          rw [crc_none zs]
          rintro e w10 ⟨rfl, rfl⟩
          go_wp2
          go_ret
          exact ⟨rfl, H9.out.2.2.1⟩
        · obtain ⟨g9, o9, c9, rfl, hc9⟩ : ∃ g o c, s = .slice (some ⟨g, o, none⟩) m c ∧ ∀ j u, (zs.map (Value.int .u8))[j]? = some u → w9.cell? ⟨g, o + j, none⟩ = some u := by
            rcases H9.out.1.2 with ⟨h, _⟩ | h
            · omega
            · exact h
          have hl9 : zs.length = m := by simpa using H9.out.1.1
          have HC9 : Hid ((∀ j u, (zs.map (Value.int .u8))[j]? = some u → w9.cell? ⟨g9, o9 + j, none⟩ = some u) ∧ zs.length = m) := ⟨hc9, hl9⟩
          clear hc9 hl9
          have hmI : ((m : Int) == 0) = false := by simp; omega
          go_wp2_with (at_builtin; refine wpList_append_own _ rfl (.tmp 87) (.tmp 88) 22 rfl w9.heap.size 5 i0 (.int .u8 0) 1 1 Tryd.underlying22 hi hz0 hz1 hz2 rfl (by decide) _ _ _ rfl (own_empty w9 _) ⟨g9, o9, none⟩ m c9 (zs.map (Value.int .u8)) rfl (by simpa using HC9.out.2) (reads_cells HC9.out.1 ((Below.refl _ _).alloc (Nat.le_refl _) _)) (map_one zs) (by unfold maxLen; omega) (by omega) (by simp) ?_; intro v10 w10 hown10 hgrow10 hnil10; rw [Nat.zero_add, List.nil_append] at hown10; have H10 : Hid (w10.ownsRow w9.heap.size 5 1 v10 m (zs.map (Value.int .u8)) ∧ Below w9.heap.size w9 w10) := ⟨hown10, ((Below.refl _ _).alloc (Nat.le_refl _) _).grown hgrow10 (by simp) (fun j hj => by cases hj; exact Nat.le_refl _)⟩; have hsh : ∃ gd cd, v10 = .slice (some ⟨gd, 0, none⟩) m cd ∧ w9.heap.size ≤ gd := own_shape hown10 hm0; clear hown10 hgrow10 hnil10; obtain ⟨gd, cd, hvd, hgd⟩ := hsh; rw [hvd] at H10 ⊢; clear hvd)
          have HCA : Hid (∀ q, CodeAt (w10.drewN q) w.heap.size a0 len0) := fun q => HC.out.1.of_drawn (Nat.le_refl _) (Nat.le_refl _) fun k hk => (H9.out.2.2.1.trans (H10.out.2.mono H9.out.2.2.1.size)).block k hk
          refine (lwAt_any a0 len0 cap0 3 m w.heap.size w10 (by omega) (HCA.out 0) (by omega) (by omega) (by omega)).mono ?_
          rintro e w11 ⟨rt, t0, t1, rfl, nq11, rfl⟩
          obtain ⟨T, rfl⟩ := Int.eq_ofNat_of_zero_le t0
          have hT : T < m := by omega
          have hT' : (T : Int) < (m : Int) := by omega
          have hcd : w10.cell? ⟨gd, T, none⟩ = some (.int .u8 (zs.getD T 0)) := by
            rw [H10.out.1.cellAt T (by omega)]
            exact map_at zs T (by have := HC9.out.2; omega)
          have hfd : w10.frozen? ⟨gd, T, none⟩ = false := H10.out.1.frozenAt T
          have hx := bytes_getD H9.out.2.1 T
          have hx0 := hx.1
          have hx1 := hx.2
          clear hx
          generalize hxe : zs.getD T 0 = x at hcd hx0 hx1
          have HX : Hid (zs.getD T 0 = x) := hxe
          clear hxe t0 t1 hmI
          go_wp2
          go_region_with (go_at_call 6; refine (lwAt_any a0 len0 cap0 4 8 w.heap.size _ (by omega) (by exact HCA.out _) (by omega) (by omega) (by omega)).mono ?_; rintro e w12 ⟨rj, j0, j1, rfl, nq12, rfl⟩)
          all_goals
            have hy := shl_ok rj j0 (by omega)
            have hX := xor8 x _ hx0 hx1 hy.1 hy.2
            clear hy
            generalize bits .xor .u8 x (IntKind.u8.wrap (2 ^ min (IntKind.u64.wrap rj).toNat 8)) = X at hX ⊢
            have hb13 : Below w9.heap.size w9 ((w10.drewN (nq11 + 1 + nq12)).setCell ⟨gd, T, none⟩ (.int .u8 X)) := (H10.out.2.trans (below_drewN _ _ _)).setCell hgd _
            have hst : ((w10.drewN (nq11 + 1 + nq12)).setCell ⟨gd, T, none⟩ (.int .u8 X)).ownsRow w9.heap.size 5 1 (.slice (some ⟨gd, 0, none⟩) m cd) m ((zs.map (Value.int .u8)).set T (.int .u8 X)) := (World.ownsRow.stored (w := w10.drewN (nq11 + 1 + nq12)) H10.out.1 T (.int .u8 X)).1
            rw [← List.map_set] at hst
            generalize (w10.drewN (nq11 + 1 + nq12)).setCell ⟨gd, T, none⟩ (.int .u8 X) = w13 at hb13 hst ⊢
            have hbel13 : Below w.heap.size w w13 := H9.out.2.2.1.trans (hb13.mono H9.out.2.2.1.size)
            have hset : ∀ j, (zs.set T X).getD j 0 = if j = T then X else zs.getD j 0 := fun j => getD_set zs T j X (by have := HC9.out.2; omega)
            have hne := crc_ne zs m T X HC9.out.2 hT (bytes_getD H9.out.2.1) (by rw [HX.out]; exact hX.1) hX.2.1 hX.2.2
            have H13 : Hid (Reads w13 (.slice (some ⟨g9, o9, none⟩) m c9) m (zs.map (Value.int .u8)) ∧ Reads w13 (.slice (some ⟨gd, 0, none⟩) m cd) m ((zs.set T X).map (Value.int .u8)) ∧ (∀ j, 0 ≤ (zs.set T X).getD j 0 ∧ (zs.set T X).getD j 0 ≤ 255) ∧ Below w.heap.size w w13 ∧ TabAt w13) := ⟨H9.out.1.keep hb13, Reads.of_own hst, (fun j => by rw [hset]; split; exact hX.2; exact bytes_getD H9.out.2.1 j), hbel13, fun j hj => (hbel13.cell (p := ⟨0, j, none⟩) h0).trans (HC.out.2 j hj)⟩
            clear hb13 hst hbel13 hset hX hcd hfd hx0 hx1
            have hdg : toI (~~~(crcTo digits 9)) = 3421780262 := crc_digits
            have HDG : Hid (toI (~~~(crcTo digits 9)) = 3421780262) := hdg
            clear hdg
            generalize hcA : toI (~~~(crcTo zs m)) = cA at hne
            generalize hcB : toI (~~~(crcTo (zs.set T X) m)) = cB at hne
            have HA : Hid (toI (~~~(crcTo zs m)) = cA ∧ toI (~~~(crcTo (zs.set T X) m)) = cB) := ⟨hcA, hcB⟩
            clear hcA hcB
            go_wp2_with fail
            refine (Crc_any _ m zs w13 (by omega) H13.out.1 (bytes_getD H9.out.2.1) H13.out.2.2.2.2).mono ?_
            rw [HA.out.1]
            rintro e w14 ⟨rfl, rfl⟩
            go_wp2_with fail
            refine (Crc_any _ m (zs.set T X) w14 (by omega) H13.out.2.1 H13.out.2.2.1 H13.out.2.2.2.2).mono ?_
            rw [HA.out.2]
            rintro e w15 ⟨rfl, rfl⟩
            go_wp2_with fail
            refine (Crc_any _ 9 digits _ (by omega) (digits_reads _ _ _) (bytes_getD digits_bytes) (fun j hj => ((H13.out.2.2.2.1.alloc H13.out.2.2.2.1.size _).cell (p := ⟨0, j, none⟩) h0).trans (HC.out.2 j hj))).mono ?_
            rw [HDG.out]
            rintro e w16 ⟨rfl, rfl⟩
            go_wp2
            go_ret
            exact ⟨rfl, H13.out.2.2.2.1.alloc H13.out.2.2.2.1.size _⟩

theorem contract (H : Type) (enc : TypeId × Value → H) (W : World) (base : Nat) (args : Array Value) (ds gs : List (DataW H)) (before : List MemPlace)
    (hval : ∀ (j : Nat) t v, Tryd.f3.params[j]? = some t → args[j]? = some v → Value.okWide Tryd.prog W .any base t v)
    (hW : DataW.Whole enc Tryd.prog Tryd.f3.params.toList Rows.fnNumbersSpec.vars false W args.toList ds gs before) (hL : laidMetH Tryd.prog Rows.fnNumbersRow.laid W) :
    Calls Tryd.prog 3 args W fun e W' => ∃ v, e = .returned v ∧ Rows.fnNumbersSpec.post enc Tryd.prog Tryd.f3 false true false false W args v W' := by
  have hW' := hW
  obtain ⟨p, q, hA0, hV, rfl, hfz, hnd⟩ := hW
  have hA : DataW.TrodAll enc Tryd.prog W 0 (fun _ => true) true Tryd.f3.params.toList args.toList ds p := hA0
  rw [Tryd.params3] at hA hval
  obtain ⟨v0, vs0, d0, ds0, p0, q0, hargs, rfl, rfl, h0, r0⟩ := trodAll_cons hA
  obtain ⟨rfl, rfl, rfl⟩ := trodAll_nil r0
  obtain rfl : args = #[v0] := by cases args; simp_all
  have hV' := hV
  obtain ⟨g, t, cs, fuel, d, pv, rfl, _⟩ := trodVars_one hV
  obtain ⟨a0, len0, cap0, rfl⟩ := okWide_slice Tryd.underlying22 (hval 0 22 v0 rfl rfl)
  have k0 := h0
  have lt0 : ∀ x ∈ p0, x.block < W.heap.size := by obtain ⟨m, hm⟩ := k0; exact DataW.trod_lt m _ _ _ hm
  obtain ⟨z0, w0⟩ : ∃ zs, IsRow .u8 W a0 len0 cap0 zs := by
    obtain ⟨fuel, hf⟩ := h0
    rcases open_ints Tryd.underlying22 Tryd.underlying5 (by kernel_rfl) hf with ⟨hcs, _⟩ | ⟨x, l, c, zs, hcs, _, hl, hm, hz, _, hcell, hwz⟩
    · simp [Value.cells] at hcs
      obtain ⟨rfl, rfl, rfl⟩ := hcs
      exact ⟨[], .inl ⟨rfl, rfl, rfl, rfl⟩⟩
    · simp [Value.cells] at hcs
      obtain ⟨rfl, rfl, rfl⟩ := hcs
      exact ⟨zs, .inr ⟨_, rfl, hl, hm, by simpa using hz, hcell, hwz⟩⟩
  clear hA0
  have ht : TabAt W := fun j hj => (table hL).cell gTab j (by show j < 16; exact hj)
  have hpos : 0 < W.heap.size := Nat.lt_of_le_of_lt (Nat.zero_le _) (block_lt_of_cell (ht 0 (by decide)))
  refine (walk a0 len0 cap0 z0 W w0 ht hpos).mono fun e W' ⟨he, bel⟩ => ?_
  subst he
  exact ⟨_, rfl, _, _, _, [], _, _, hW', trodAll_mk1 (shut_bool Tryd.underlying4 _), trodAll_cons_mk (Below.trod laidOut (by kernel_rfl) (of_decide_eq_true (by kernel_rfl)) k0 bel lt0) trodAll_mk0, Below.trodVars laidOut bel (by kernel_rfl) hV', bel.frame _, fun h => by cases h⟩

/- The world of the witness: the settled one, the table (block 0) holding what its initialiser lays. -/
theorem laid_met (os : Os) : laidMet Tryd.prog Rows.fnNumbersRow.laid (({ World.holding Tryd.prog os ⟨#[], #[], []⟩ with heap := (World.holding Tryd.prog os ⟨#[], #[], []⟩).heap.modify 0 fun | .cells _ t frozen => .cells (sumTab.map (Value.int .u32)).toArray t frozen | o => o } : World).forCall (fun _ _ => 0) ⟨#[], #[.slice none 0 0], []⟩).memory :=
  laidMet_of_run' 8 (by kernel_rfl) (by kernel_rfl)
theorem reads (os : Os) {H : Type} (enc : TypeId × Value → H) : ∃ places, DataW.whole enc Tryd.prog (({ World.holding Tryd.prog os ⟨#[], #[], []⟩ with heap := (World.holding Tryd.prog os ⟨#[], #[], []⟩).heap.modify 0 fun | .cells _ t frozen => .cells (sumTab.map (Value.int .u32)).toArray t frozen | o => o } : World).forCall (fun _ _ => 0) ⟨#[], #[.slice none 0 0], []⟩).memory Tryd.f3.params.toList Rows.fnNumbersSpec.vars false #[Value.slice none 0 0].toList 8 = some ([.nil], [Rows.laid_loop_example_s02548_impl_sumSteps], places) :=
  ⟨MemPlace.row ⟨0, 0, none⟩ 16, by kernel_rfl⟩

set_option maxRecDepth 100000 in
theorem lifted (os : Os) (started : os.Started) (H : Type) (enc : TypeId × Value → H) (F : Stop.Interp) :
    ReturnsInHanded {} Tryd.checked os 3 .any ((OpenSpec.ofChange Rows.fnNumbersSpec).preRow enc Tryd.prog Tryd.f3 Rows.fnNumbersRow.domain false Rows.fnNumbersRow.laid) (((OpenSpec.ofChange Rows.fnNumbersSpec).at F).post enc Tryd.prog Tryd.f3 false true false false) := by
  obtain ⟨places, hx⟩ := reads os enc
  refine returnsInHanded_of_row (C := Tryd.checked) (s := OpenSpec.ofChange Rows.fnNumbersSpec) own started (by kernel_rfl) Tryd.func3
    (witness_row_at (enc := enc) (C := Tryd.checked) false ({ World.holding Tryd.prog os ⟨#[], #[], []⟩ with heap := (World.holding Tryd.prog os ⟨#[], #[], []⟩).heap.modify 0 fun | .cells _ t frozen => .cells (sumTab.map (Value.int .u32)).toArray t frozen | o => o } : World) #[.slice none 0 0] rfl (by kernel_rfl) (by kernel_rfl) (by kernel_rfl)
      (OpenSpec.preRow_of_cond 8 hx (by kernel_rfl) (fun k hk => by cases hk) (by kernel_rfl) (laid_met os))) ?_
  intro W base args ds gs before hval hW _ _ _ hL _ _
  exact contract H enc W base args ds gs before hval hW hL

theorem said : Rows.FnNumbersSaid :=
  OpenClaim.holds_of_cond 3 Tryd.f3 rfl rfl rfl rfl rfl rfl rfl ⟨rfl, rfl, rfl, rfl, rfl⟩ rfl rfl rfl rfl rfl (by kernel_rfl) Tryd.func3 (by kernel_rfl)
    (of_decide_eq_true (by kernel_rfl)) (by unfold Func.isWrapper; first | (rw [if_pos (by decide +kernel)]; kernel_rfl) | (rw [if_neg (by decide +kernel)]; exact ⟨rfl, rfl⟩))
    (fun os started H enc _ F => by rw [OpenClaim.pre_eq_preRow]; exact lifted os started H enc F)

theorem plain (f : FuncId) (fn : Func) (hf : Tryd.pinned.checked.prog.funcNamed "loop.example/s02548/laws.FnNumbers" = some f) (hfn : Tryd.pinned.checked.prog.funcs[f]? = some fn) :
    false = Tryd.pinned.checked.prog.looks [] ∧ ∀ (j : Nat) t, fn.params[j]? = some t → Tryd.pinned.checked.prog.wantsStandIn t = false := by
  obtain rfl : f = 3 := Option.some.inj ((show Tryd.prog.funcNamed "loop.example/s02548/laws.FnNumbers" = some 3 by kernel_rfl).symm.trans hf) |>.symm
  obtain rfl : fn = Tryd.f3 := (Option.some.inj (Tryd.func3.symm.trans hfn)).symm
  refine ⟨by kernel_rfl, fun j t ht => ?_⟩
  rw [Tryd.params3] at ht
  obtain rfl : t = 22 := by simpa using Array.mem_of_getElem? ht
  exact (show Tryd.prog.wantsStandIn 22 = false by kernel_rfl)

theorem card : Rows.FnNumbersCardSaid :=
  Claim7.holds_tied_plain_at .later [] _ _ _ _ said (fun _ h => by cases h) (by kernel_rfl) (fun _ h => by cases h) fnNumbers_row_tie rfl ⟨rfl, rfl⟩ (by kernel_rfl) rfl plain (by kernel_rfl)
#print axioms card
end Go.Proofs.YtkblcoiiloiohaaDoor.fnNumbers
namespace Go.Proofs.YtkblcoiiloiohaaDoor
theorem fnNumbers_holds : Rows.FnNumbersCardSaid := fnNumbers.card
end Go.Proofs.YtkblcoiiloiohaaDoor
