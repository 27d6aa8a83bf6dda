import Derived.Test.YtnemieeeappgnaaGreatDoorDc45
import Derived.Test.YtnemieeeappgnaaGreatDoorDc47
import Derived.Test.YtnemieeeappgnaaGreatDoorDc0
import Derived.OwnWalk
namespace Go.Proofs.YtnemieeeappgnaaGreatDoor
open Go.ChangeShapes Go.WideShapes Go.ChangeAt Go.RowKit
set_option linter.unusedVariables false
def DecResI (zs : List Int) (w : World) (e : Ending) (w' : World) : Prop := ∃ (c : Int) (v : VP) (F : List (List Int × Value)) (cs : List MC) (G : List (MF × VF)) (ts : List MT), e = .returned (.agg #[.int .i64 c, v.r, v.k, v.f, v.t]) ∧ Sep w' w.heap.size (pItems v F cs G ts []) ∧ MP.small ⟨F.map Prod.fst, cs, G.map Prod.fst, ts⟩ ∧ DecIs zs c ⟨F.map Prod.fst, cs, G.map Prod.fst, ts⟩ ∧ Below w.heap.size w w'
set_option maxHeartbeats 8000000 in
set_option maxRecDepth 100000 in
theorem implDecode_any (a : Option Addr) (L c : Nat) (zs : List Int) (w : World) (hL : L ≤ 1048576) (hc : L ≤ c) (ht : TabAt w) (hev : ErrVar w) (h : Reads w (.slice a L c) L (zs.map (Value.int .u8))) (hz : AllB zs) :
    Calls Tryz.prog 6 #[.slice a L c] w (DecResI zs w) := by
  have D0 : Hid (Dw w (w.alloc (.cells #[.int .i64 0, nilS, nilS, nilS, nilS] 30)) (.int .i64 0) nilS nilS nilS nilS) := ⟨Blk.new _ _ _, below_alloc _ _⟩
  have H : Hid (Reads w (.slice a L c) L (zs.map (Value.int .u8)) ∧ AllB zs ∧ TabAt w ∧ ErrVar w) := ⟨h, hz, ht, hev⟩
  clear h hz ht hev
  go_enter Tryz.func6, Tryz.ntmps6
  go_upto_region 1 with fail
  refine wp_world (fun u => Hid (Dw w u (.int .i64 0) nilS nilS nilS nilS)) D0 ?_
  clear D0
  intro u0 D0
  have HB0 := D0.out.bel
  go_wp2_with fail
  refine (readProgram_any a L c zs u0 hL hc (fun j hj => by rw [HB0.cell (block_lt_of_cell (H.out.2.2.1 j hj))]; exact H.out.2.2.1 j hj) (H.out.1.keep HB0) H.out.2.1).mono ?_
  rintro e u1 ⟨cd, v, F, cs, G, ts, rfl, hdec, hsep, hsm, hbel⟩
  obtain ⟨a1, d1, a2, d2, a3, d3, a4, d4, rfl⟩ := pItems_slices hsep
  have hR : w.heap.size < u0.heap.size := D0.out.blk.lt
  have D1 : Hid (Dw w u1 (.int .i64 0) nilS nilS nilS nilS) := D0.out.keep hbel
  have HSP : Hid (Sep u1 u0.heap.size (pItems ⟨.slice a1 F.length d1, .slice a2 cs.length d2, .slice a3 G.length d3, .slice a4 ts.length d4⟩ F cs G ts [])) := hsep
  have HDC : Hid (DecIs zs cd (if cd = 0 then ⟨F.map Prod.fst, cs, G.map Prod.fst, ts⟩ else noP) ∧ MP.small ⟨F.map Prod.fst, cs, G.map Prod.fst, ts⟩) := ⟨hdec, hsm⟩
  clear hsep hdec hsm hbel D0 HB0
  go_upto_region 2 with fail
  refine wp_world (fun u => Hid (Dw w u (.int .i64 0) nilS nilS nilS nilS ∧ Sep u u0.heap.size (pItems ⟨.slice a1 F.length d1, .slice a2 cs.length d2, .slice a3 G.length d3, .slice a4 ts.length d4⟩ F cs G ts []) ∧ Blk u u1.heap.size #[.slice a1 F.length d1, .slice a2 cs.length d2, .slice a3 G.length d3, .slice a4 ts.length d4] 28)) ⟨D1.out.keep (below_alloc _ _), HSP.out.keep (below_alloc _ _), Blk.new _ _ _⟩ ?_
  clear D1 HSP
  generalize u1.heap.size = Y
  intro u2 E2
  by_cases hcd : cd = 0
  · subst hcd
    have HD2 : Hid (Dw w u2 (.int .i64 0) nilS nilS nilS nilS) := E2.out.1
    obtain ⟨⟨q0, q1, q2, q3, q4⟩, f0, f1, f2, f3, f4⟩ := E2.out.1.cells
    have y0 : u2.cell? ⟨Y, 0, none⟩ = some (.slice a1 F.length d1) := E2.out.2.2.cell 0
    have y1 : u2.cell? ⟨Y, 1, none⟩ = some (.slice a2 cs.length d2) := E2.out.2.2.cell 1
    have y2 : u2.cell? ⟨Y, 2, none⟩ = some (.slice a3 G.length d3) := E2.out.2.2.cell 2
    have y3 : u2.cell? ⟨Y, 3, none⟩ = some (.slice a4 ts.length d4) := E2.out.2.2.cell 3
    rw [show errOf 0 = .nilIface from rfl]
    go_wp2
    have HF : Hid (Dw w (((((u2.setCell ⟨w.heap.size, 0, none⟩ (.int .i64 0)).setCell ⟨w.heap.size, 1, none⟩ (.slice a1 F.length d1)).setCell ⟨w.heap.size, 2, none⟩ (.slice a2 cs.length d2)).setCell ⟨w.heap.size, 3, none⟩ (.slice a3 G.length d3)).setCell ⟨w.heap.size, 4, none⟩ (.slice a4 ts.length d4)) (.int .i64 0) (.slice a1 F.length d1) (.slice a2 cs.length d2) (.slice a3 G.length d3) (.slice a4 ts.length d4)) := HD2.out.set (.int .i64 0) (.slice a1 F.length d1) (.slice a2 cs.length d2) (.slice a3 G.length d3) (.slice a4 ts.length d4)
    have HPF : Hid (Sep (((((u2.setCell ⟨w.heap.size, 0, none⟩ (.int .i64 0)).setCell ⟨w.heap.size, 1, none⟩ (.slice a1 F.length d1)).setCell ⟨w.heap.size, 2, none⟩ (.slice a2 cs.length d2)).setCell ⟨w.heap.size, 3, none⟩ (.slice a3 G.length d3)).setCell ⟨w.heap.size, 4, none⟩ (.slice a4 ts.length d4)) u0.heap.size (pItems ⟨.slice a1 F.length d1, .slice a2 cs.length d2, .slice a3 G.length d3, .slice a4 ts.length d4⟩ F cs G ts [])) := E2.out.2.1.five (R := w.heap.size) (by omega) (.int .i64 0) (.slice a1 F.length d1) (.slice a2 cs.length d2) (.slice a3 G.length d3) (.slice a4 ts.length d4)
    generalize ((((u2.setCell ⟨w.heap.size, 0, none⟩ (.int .i64 0)).setCell ⟨w.heap.size, 1, none⟩ (.slice a1 F.length d1)).setCell ⟨w.heap.size, 2, none⟩ (.slice a2 cs.length d2)).setCell ⟨w.heap.size, 3, none⟩ (.slice a3 G.length d3)).setCell ⟨w.heap.size, 4, none⟩ (.slice a4 ts.length d4) = WF at HF HPF ⊢
    obtain ⟨⟨r0, r1, r2, r3, r4⟩, -⟩ := HF.out.cells
    exact bodyPost_ret (v := .agg #[.int .i64 0, .slice a1 F.length d1, .slice a2 cs.length d2, .slice a3 G.length d3, .slice a4 ts.length d4]) (by simp [results, Tryz.results6, go_sem, r0, r1, r2, r3, r4]) rfl ⟨0, ⟨.slice a1 F.length d1, .slice a2 cs.length d2, .slice a3 G.length d3, .slice a4 ts.length d4⟩, F, cs, G, ts, rfl, HPF.out.base (by omega), HDC.out.2, by have := HDC.out.1; simpa using this, HF.out.bel⟩
  · have HDN : Hid (DecIs zs cd noP) := by have := HDC.out.1; rwa [if_neg hcd] at this
    have HEV : Hid (ErrVar u2) := by
      have := H.out.2.2.2
      unfold ErrVar at *
      show _ = _
      rw [E2.out.1.bel.cell (block_lt_of_cell this)]
      exact this
    have HFN : Hid (Calls Tryz.prog 17 #[.iface 74 (.int .i64 cd)] u2 fun e w' => e = .returned (.int .i64 cd) ∧ Below u2.heap.size u2 w') := by
      have := faultNumber_any cd u2 HEV.out
      rw [show errOf cd = .iface 74 (.int .i64 cd) from if_neg hcd] at this
      exact this
    rw [show errOf cd = .iface 74 (.int .i64 cd) from if_neg hcd]
    go_wp2_with fail
    refine HFN.out.mono ?_
    rintro e u3 ⟨rfl, hb⟩
    have HD3 : Hid (Dw w u3 (.int .i64 0) nilS nilS nilS nilS) := E2.out.1.keep hb
    clear hb HFN HEV E2
    obtain ⟨⟨q0, q1, q2, q3, q4⟩, f0, f1, f2, f3, f4⟩ := HD3.out.cells
    go_wp2
    have HF : Hid (Dw w (((((u3.setCell ⟨w.heap.size, 0, none⟩ (.int .i64 cd)).setCell ⟨w.heap.size, 1, none⟩ nilS).setCell ⟨w.heap.size, 2, none⟩ nilS).setCell ⟨w.heap.size, 3, none⟩ nilS).setCell ⟨w.heap.size, 4, none⟩ nilS) (.int .i64 cd) nilS nilS nilS nilS) := HD3.out.set (.int .i64 cd) nilS nilS nilS nilS
    generalize ((((u3.setCell ⟨w.heap.size, 0, none⟩ (.int .i64 cd)).setCell ⟨w.heap.size, 1, none⟩ nilS).setCell ⟨w.heap.size, 2, none⟩ nilS).setCell ⟨w.heap.size, 3, none⟩ nilS).setCell ⟨w.heap.size, 4, none⟩ nilS = WF at HF ⊢
    obtain ⟨⟨r0, r1, r2, r3, r4⟩, -⟩ := HF.out.cells
    exact bodyPost_ret (v := .agg #[.int .i64 cd, nilS, nilS, nilS, nilS]) (by simp [results, Tryz.results6, go_sem, r0, r1, r2, r3, r4]) rfl ⟨cd, (⟨.slice none 0 0, .slice none 0 0, .slice none 0 0, .slice none 0 0⟩ : VP), [], [], [], [], rfl, sep_nil _ _, small_nil, HDN.out, HF.out.bel⟩
end Go.Proofs.YtnemieeeappgnaaGreatDoor
namespace Go.Proofs.YtnemieeeappgnaaGreatDoor
open Go.ChangeShapes Go.WideShapes Go.ChangeAt Go.RowKit
set_option linter.unusedVariables false

theorem infoB8 : (Tryz.prog.info? 5).map (fun i => (i.zero, i.size, i.bytes)) = some (some (.int .u8 0), 1, 1) := by kernel_rfl
/-- Copied up to k. -/
def copyTo (zs : List Int) (k n : Nat) : List Value := (zs.take k).map (Value.int .u8) ++ List.replicate (n - k) (.int .u8 0)
theorem copyTo_zero (zs : List Int) (n : Nat) : (madeCells (Value.int .u8 0).cells (n * 1)).toList = copyTo zs 0 n := by
  apply List.ext_getElem
  · simp [madeCells, copyTo]
  · intro i h1 h2
    simp [madeCells, copyTo, Value.cells, Nat.mod_one]
theorem copyTo_all (zs : List Int) (n : Nat) (h : zs.length = n) : copyTo zs n n = zs.map (Value.int .u8) := by simp [copyTo, ← h]
theorem copyTo_length (zs : List Int) (k n : Nat) (h : zs.length = n) (hk : k ≤ n) : (copyTo zs k n).length = n := by simp [copyTo]; omega
theorem copyTo_set (zs : List Int) (k n : Nat) (h : zs.length = n) (hk : k < n) : (copyTo zs k n).set k (.int .u8 (zs.getD k 0)) = copyTo zs (k + 1) n := by
  unfold copyTo
  have hl : ((zs.take k).map (Value.int .u8)).length = k := by simp; omega
  rw [List.set_append_right _ _ (by omega), hl, Nat.sub_self]
  have e : n - k = (n - (k + 1)) + 1 := by omega
  rw [e, List.replicate_succ, List.set_cons_zero, List.take_succ_eq_append_getElem (by omega), List.map_append, List.append_assoc]
  congr 1
  rw [List.getD_eq_getElem?_getD, List.getElem?_eq_getElem (show k < zs.length by omega)]
  rfl

set_option maxHeartbeats 1000000 in
theorem toByteS_any (s : Value) (L : Nat) (zs : List Int) (w : World) (hL : L ≤ 1048576) (h : Reads w s L (zs.map (Value.int .u8))) :
    Calls Tryz.prog 5 #[s] w fun e w' => e = .returned (.slice (some ⟨w.heap.size, 0, none⟩) L L) ∧ w'.ownsRow w.heap.size 5 1 (.slice (some ⟨w.heap.size, 0, none⟩) L L) L (zs.map (Value.int .u8)) ∧ Below w.heap.size w w' := by
  obtain ⟨i0, hi, hz0, hz1, hz2⟩ := info_parts infoB8
  have hlen : zs.length = L := by simpa using h.1
  have H1 : Hid (Reads w s L (zs.map (Value.int .u8))) := h
  have hs : ∃ a c, s = .slice a L c := by rcases h.2 with ⟨rfl, a, c, rfl⟩ | ⟨g, o, c, rfl, _⟩ <;> exact ⟨_, _, rfl⟩
  clear h
  obtain ⟨a1, c1, rfl⟩ := hs
  go_enter Tryz.func5, Tryz.ntmps5
  go_wp2_with (at_make; refine wpList_make_full _ rfl _ _ 22 rfl w.heap.size 5 i0 (.int .u8 0) 1 Tryz.underlying22 hi hz0 hz1 .i64 .i64 _ _ L rfl rfl rfl rfl (by rw [hz2]; omega) (by unfold maxLen; omega) (Nat.le_refl _) ?_; intro w1 hown hgrow)
  rw [copyTo_zero zs L] at hown
  have hB : Below w.heap.size w w1 := (Below.refl _ _).grown hgrow (Nat.le_refl _) (fun k hk => by cases hk)
  clear hgrow
  go_loopw [4] (fun i wr => ∃ k : Nat, k ≤ L ∧ i = .int .i64 k ∧ wr.ownsRow w.heap.size 5 1 (.slice (some ⟨w.heap.size, 0, none⟩) L L) L (copyTo zs k L) ∧ Below w.heap.size w wr) (fun i _ => L - (intOf i).toNat)
  case atStart => exact ⟨0, by omega, rfl, hown, hB⟩
  case round =>
    clear hown hB
    obtain ⟨k, hk, rfl, hown, hbel⟩ := hrel
    by_cases hlt : k < L
    · have hz : (zs.map (Value.int .u8))[k]? = some (.int .u8 (zs.getD k 0)) := by
        rw [List.getElem?_map, List.getElem?_eq_getElem (by omega), List.getD_eq_getElem?_getD, List.getElem?_eq_getElem (by omega)]
        rfl
      rcases H1.out.2 with ⟨e0, _⟩ | ⟨g, o, c, e1, hc1⟩
      · omega
      · simp only [Value.slice.injEq, true_and] at e1
        obtain ⟨rfl, rfl⟩ := e1
        have hin := (hbel.cell (block_lt_of_cell (hc1 k _ hz))).trans (hc1 k _ hz)
        have hcell := hown.cellAt k (by omega)
        have hfr := hown.frozenAt k
        have HO : Hid (wr.ownsRow w.heap.size 5 1 (.slice (some ⟨w.heap.size, 0, none⟩) L L) L (copyTo zs k L)) := hown
        clear hown
        obtain ⟨old, hold⟩ : ∃ old, (copyTo zs k L)[k]? = some old := ⟨_, List.getElem?_eq_getElem (by rw [copyTo_length zs k L hlen hk]; exact hlt)⟩
        rw [hold] at hcell
        have hset := copyTo_set zs k L hlen hlt
        generalize zs.getD k 0 = z at hin hset
        have HS : Hid ((copyTo zs k L).set k (.int .u8 z) = copyTo zs (k + 1) L) := hset
        clear hold hc1 hz hset hlen
        go_wp2
        go_roundw
        case rel =>
          refine ⟨k + 1, by omega, by go_num, ?_, hbel.setCell (Nat.le_refl _) _⟩
          have hst := (HO.out.stored k (.int .u8 z)).1
          rw [HS.out] at hst
          exact hst
        case measure => simp [intOf]; omega
    · have hkn : k = L := by omega
      subst hkn
      rw [copyTo_all zs k hlen] at hown
      have HO : Hid (wr.ownsRow w.heap.size 5 1 (.slice (some ⟨w.heap.size, 0, none⟩) k k) k (zs.map (Value.int .u8))) := hown
      clear hown
      go_wp2
      go_ret
      exact ⟨rfl, HO.out, hbel⟩
end Go.Proofs.YtnemieeeappgnaaGreatDoor
