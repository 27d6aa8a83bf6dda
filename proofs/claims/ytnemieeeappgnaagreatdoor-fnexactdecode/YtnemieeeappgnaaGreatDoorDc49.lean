import Derived.Test.YtnemieeeappgnaaGreatDoorDc48
import Derived.Test.YtnemieeeappgnaaGreatDoorDc35
import Derived.Deep.RegionHeld3
import Derived.Test.YtnemieeeappgnaaGreatDoorDc34
namespace Go.Proofs.YtnemieeeappgnaaGreatDoor
open Go.ChangeShapes Go.WideShapes Go.ChangeAt Go.RowKit
set_option linter.unusedVariables false
set_option maxRecDepth 100000 in
theorem markByteS_chg (g n c base : Nat) (xs : List Value) (p : Int) (w : World) (hn : n ≤ 140737488355328) (hp : 0 ≤ p) (hp' : p ≤ 1000000) (h : w.ownsRow base 5 1 (.slice (some ⟨g, 0, none⟩) n c) n xs) :
    Calls Tryz.prog 9 #[.slice (some ⟨g, 0, none⟩) n c, .int .i64 p] w fun e w' => e = .returned (.int .i64 (p + n)) ∧ Chg (fun j => j = g) w w' := by
  have hxl : xs.length = n := by simpa using h.1
  have h0 : w.ownsRow base 5 1 (.slice (some ⟨g, 0, none⟩) n c) n (markTo p xs 0) := by rw [markTo_zero]; exact h
  clear h
  have H0 : Hid (w.ownsRow base 5 1 (.slice (some ⟨g, 0, none⟩) n c) n (markTo p xs 0)) := h0
  clear h0
  go_enter Tryz.func9, Tryz.ntmps9
  go_wp2
  go_loopw [1, 5] (fun q i wr => ∃ k : Nat, k ≤ n ∧ q = .int .i64 (p + k) ∧ i = .int .i64 k ∧ Hid (wr.ownsRow base 5 1 (.slice (some ⟨g, 0, none⟩) n c) n (markTo p xs k) ∧ Chg (fun j => j = g) w wr)) (fun _ i _ => n - (intOf i).toNat)
  case atStart => exact ⟨0, by omega, by simp, rfl, H0.out, Chg.refl _ _⟩
  case round =>
    obtain ⟨k, hk, rfl, rfl, HO⟩ := hrel
    by_cases hlt : k < n
    · have hcell := HO.out.1.cellAt k (by omega)
      have hfr := HO.out.1.frozenAt k
      obtain ⟨old, hold⟩ : ∃ old, (markTo p xs k)[k]? = some old := ⟨_, List.getElem?_eq_getElem (by rw [markTo_length _ _ _ (by omega)]; omega)⟩
      rw [hold] at hcell
      clear hold
      go_wp2
      go_roundw
      case rel =>
        refine ⟨k + 1, by omega, by go_num, by go_num, ?_, HO.out.2.setCell (ad := ⟨g, k, none⟩) (.inl rfl) _⟩
        have hst := (HO.out.1.stored k (.int .u8 ((p + k) % 256))).1
        rw [markTo_set p xs k (by omega)] at hst
        exact hst
      case measure => simp [intOf]; omega
    · have hkn : k = n := by omega
      subst hkn
      go_wp2
      go_ret
      exact ⟨rfl, HO.out.2⟩
theorem psmall_of {F : List (List Int × Value)} {cs : List MC} {G : List (MF × VF)} {ts : List MT} (h : MP.small ⟨F.map Prod.fst, cs, G.map Prod.fst, ts⟩) : PSmall F cs G ts :=
  ⟨by simpa using h.regions, fun x hx => h.region x.1 (List.mem_map.2 ⟨x, hx, rfl⟩), h.consts, by simpa using h.funcs, fun x hx => h.func x.1 (List.mem_map.2 ⟨x, hx, rfl⟩), h.certs⟩
/-- What lies there while the law runs: the specification's result, the argument's copy, the program's result. -/
structure Ld (w u : World) (L : Nat) (zs : List Int) (code : Int) (s : VP) (p : MP) (X3 : Nat) : Prop where
  bel : Below w.heap.size w u
  blk : Blk u X3 #[.int .i64 code, s.r, s.k, s.f, s.t] 30
  rd : RdP u s p
theorem Ld.keep {w u v : World} {L : Nat} {zs : List Int} {code : Int} {s : VP} {p : MP} {X3 : Nat} (h : Ld w u L zs code s p X3) (hb : Below u.heap.size u v) : Ld w v L zs code s p X3 := ⟨below_on h.bel (Nat.le_refl _) hb, h.blk.keep hb, h.rd.keep hb (Nat.le_refl _)⟩
theorem Ld.base {w u v : World} {L : Nat} {zs : List Int} {code : Int} {s : VP} {p : MP} {X3 N : Nat} {w0 : World} (h : Ld w w0 L zs code s p X3) (h0 : Below w0.heap.size w0 v) : Ld w v L zs code s p X3 := h.keep h0
set_option maxHeartbeats 8000000 in
set_option maxRecDepth 100000 in
theorem decode_walk (a : Option Addr) (L c : Nat) (zs : List Int) (w : World) (hc : L ≤ c) (ht : TabAt w) (hev : ErrVar w) (h : Reads w (.slice a L c) L (zs.map (Value.int .u8))) (hz : AllB zs) :
    Calls Tryz.prog 3 #[.slice a L c] w fun e w' => e = .returned (.bool true) ∧ Below w.heap.size w w' := by
  have H : Hid (Reads w (.slice a L c) L (zs.map (Value.int .u8)) ∧ AllB zs ∧ TabAt w ∧ ErrVar w) := ⟨h, hz, ht, hev⟩
  have HTk : Hid (∀ u, Below w.heap.size w u → TabAt u) := fun u hu j hj => by rw [hu.cell (block_lt_of_cell (ht j hj))]; exact ht j hj
  have HEk : Hid (∀ u, Below w.heap.size w u → ErrVar u) := fun u hu => by
    have := hev
    unfold ErrVar at *
    rw [hu.cell (block_lt_of_cell this)]
    exact this
  clear h hz ht hev
  go_enter Tryz.func3, Tryz.ntmps3
  by_cases hL : L ≤ 1048576
  rotate_left
  · have hL' : (1048576 : Int) < (L : Int) := by omega
    go_wp2
    go_ret
    exact ⟨rfl, Below.refl _ _⟩
  have hL' : ¬ (1048576 : Int) < (L : Int) := by omega
  go_wp2_with fail
  refine (toByteS_any (.slice a L c) L zs w hL H.out.1).mono ?_
  rintro e u1 ⟨rfl, o1, b1⟩
  have B1 : Hid (Below w.heap.size w u1) := b1
  have O1 : Hid (Reads u1 (.slice (some ⟨w.heap.size, 0, none⟩) L L) L (zs.map (Value.int .u8))) := Reads.of_own o1
  clear b1 o1
  go_wp2_with fail
  refine (specDecode_any (some ⟨w.heap.size, 0, none⟩) L L zs u1 hL (Nat.le_refl _) O1.out H.out.2.1).mono ?_
  rintro e u2 ⟨code, s, p, rfl, hrd, hsm, hdec, hb⟩
  obtain ⟨b1, e1, b2, e2, b3, e3, b4, e4, rfl⟩ := rdp_slices hrd
  have B2 : Hid (Below w.heap.size w u2) := below_on B1.out (Nat.le_refl _) hb
  have R2 : Hid (RdP u2 ⟨.slice b1 p.regions.length e1, .slice b2 p.consts.length e2, .slice b3 p.funcs.length e3, .slice b4 p.certs.length e4⟩ p ∧ p.small ∧ DecIs zs code p) := ⟨hrd, hsm, hdec⟩
  clear hrd hsm hdec hb B1 O1
  go_upto_region 4 with fail
  refine wp_world (fun u => Hid (Ld w u L zs code ⟨.slice b1 p.regions.length e1, .slice b2 p.consts.length e2, .slice b3 p.funcs.length e3, .slice b4 p.certs.length e4⟩ p u2.heap.size)) ⟨below_on B2.out (Nat.le_refl _) (below_alloc _ _), Blk.new _ _ _, R2.out.1.keep (below_alloc _ _) (Nat.le_refl _)⟩ ?_
  have HP : Hid (p.small ∧ DecIs zs code p) := R2.out.2
  clear B2 R2
  generalize u2.heap.size = X3
  intro u3 D3
  go_wp2_with fail
  refine (toByteS_any (.slice a L c) L zs u3 hL (H.out.1.keep D3.out.bel)).mono ?_
  rintro e u4 ⟨rfl, o4, b4'⟩
  have D4 : Hid (Ld w u4 L zs code ⟨.slice b1 p.regions.length e1, .slice b2 p.consts.length e2, .slice b3 p.funcs.length e3, .slice b4 p.certs.length e4⟩ p X3 ∧ u4.ownsRow u3.heap.size 5 1 (.slice (some ⟨u3.heap.size, 0, none⟩) L L) L (zs.map (Value.int .u8))) := ⟨D3.out.keep b4', o4⟩
  have hX3 : X3 < u3.heap.size := D3.out.blk.lt
  have HG3 : Hid (Ld w u3 L zs code ⟨.slice b1 p.regions.length e1, .slice b2 p.consts.length e2, .slice b3 p.funcs.length e3, .slice b4 p.certs.length e4⟩ p X3) := D3
  have HB34 : Hid (Below u3.heap.size u3 u4) := b4'
  clear o4 b4' D3
  generalize hgx : u3.heap.size = gx at D4 hX3 ⊢
  have HGX : Hid (gx = u3.heap.size) := hgx.symm
  clear hgx
  go_wp2_with fail
  refine (implDecode_any (some ⟨gx, 0, none⟩) L L zs u4 hL (Nat.le_refl _) (HTk.out u4 D4.out.1.bel) (HEk.out u4 D4.out.1.bel) (Reads.of_own D4.out.2) H.out.2.1).mono ?_
  rintro e u5 ⟨code', v, F, cs, G, ts, rfl, hsep, hsm, hdec, hb⟩
  obtain ⟨rfl, hpp⟩ := HP.out.2.one hdec
  obtain ⟨a1, d1, a2, d2, a3, d3, a4, d4, rfl⟩ := pItems_slices hsep
  have HQ : Hid (p = ⟨F.map Prod.fst, cs, G.map Prod.fst, ts⟩) := hpp
  have HPS : Hid (PSmall F cs G ts) := psmall_of hsm
  have hgN : gx < u4.heap.size := (D4.out.2.lt gx rfl).2
  have b34 : Below u3.heap.size u3 u4 := HB34.out
  have D5 : Hid (Below u3.heap.size u3 u5 ∧ u5.ownsRow gx 5 1 (.slice (some ⟨gx, 0, none⟩) L L) L (zs.map (Value.int .u8)) ∧ Sep u5 u4.heap.size (pItems ⟨.slice a1 F.length d1, .slice a2 cs.length d2, .slice a3 G.length d3, .slice a4 ts.length d4⟩ F cs G ts []) ∧ u4.heap.size ≤ u5.heap.size) := ⟨below_on b34 (Nat.le_refl _) hb, own_keep D4.out.2 hb (Nat.le_refl _), hsep, hb.size⟩
  clear hsep hsm hdec hb hpp b34 D4 HB34
  generalize u4.heap.size = N at D5 hgN
  go_upto_region 6 with fail
  refine wp_world (fun u => Hid (Below u3.heap.size u3 u ∧ u.ownsRow gx 5 1 (.slice (some ⟨gx, 0, none⟩) L L) L (zs.map (Value.int .u8)) ∧ Sep u N (pItems ⟨.slice a1 F.length d1, .slice a2 cs.length d2, .slice a3 G.length d3, .slice a4 ts.length d4⟩ F cs G ts [rb u5.heap.size code ⟨.slice a1 F.length d1, .slice a2 cs.length d2, .slice a3 G.length d3, .slice a4 ts.length d4⟩]) ∧ N ≤ u.heap.size)) ⟨below_on D5.out.1 (Nat.le_refl _) (below_alloc _ _), own_keep D5.out.2.1 (below_alloc _ _) (Nat.le_refl _), by have := D5.out.2.2.1.box D5.out.2.2.2 30 5 [.int .i64 code, .slice a1 F.length d1, .slice a2 cs.length d2, .slice a3 G.length d3, .slice a4 ts.length d4] rfl; rw [← pItems_app] at this; exact this, Nat.le_trans D5.out.2.2.2 (below_alloc _ _).size⟩ ?_
  clear D5
  generalize u5.heap.size = X5
  intro u6 D6
  have HLd : Hid (∀ u, Below u3.heap.size u3 u → Ld w u L zs code ⟨.slice b1 p.regions.length e1, .slice b2 p.consts.length e2, .slice b3 p.funcs.length e3, .slice b4 p.certs.length e4⟩ p X3) := fun u hu => HG3.out.keep hu
  clear HG3
  have C3 : Hid (∀ u, Below u3.heap.size u3 u → u.cell? ⟨X3, 0, none⟩ = some (.int .i64 code) ∧ u.cell? ⟨X3, 1, none⟩ = some (.slice b1 p.regions.length e1) ∧ u.cell? ⟨X3, 2, none⟩ = some (.slice b2 p.consts.length e2) ∧ u.cell? ⟨X3, 3, none⟩ = some (.slice b3 p.funcs.length e3) ∧ u.cell? ⟨X3, 4, none⟩ = some (.slice b4 p.certs.length e4)) := fun u hu => blk5 (HLd.out u hu).blk
  have C5 : Hid (∀ (u : World) (F' : List (List Int × Value)) (cs' : List MC) (G' : List (MF × VF)) (ts' : List MT), Sep u N (pItems ⟨.slice a1 F.length d1, .slice a2 cs.length d2, .slice a3 G.length d3, .slice a4 ts.length d4⟩ F' cs' G' ts' [rb X5 code ⟨.slice a1 F.length d1, .slice a2 cs.length d2, .slice a3 G.length d3, .slice a4 ts.length d4⟩]) → u.cell? ⟨X5, 0, none⟩ = some (.int .i64 code) ∧ u.cell? ⟨X5, 1, none⟩ = some (.slice a1 F.length d1) ∧ u.cell? ⟨X5, 2, none⟩ = some (.slice a2 cs.length d2) ∧ u.cell? ⟨X5, 3, none⟩ = some (.slice a3 G.length d3) ∧ u.cell? ⟨X5, 4, none⟩ = some (.slice a4 ts.length d4)) := fun u F' cs' G' ts' hs => by
    have hr := hs.own (rb X5 code ⟨.slice a1 F.length d1, .slice a2 cs.length d2, .slice a3 G.length d3, .slice a4 ts.length d4⟩) (pItems_in (by simp))
    exact ⟨bRow.cell hr 0 (by omega), bRow.cell hr 1 (by omega), bRow.cell hr 2 (by omega), bRow.cell hr 3 (by omega), bRow.cell hr 4 (by omega)⟩
  have HEQ : Hid (∀ u, Below u3.heap.size u3 u → Sep u N (pItems ⟨.slice a1 F.length d1, .slice a2 cs.length d2, .slice a3 G.length d3, .slice a4 ts.length d4⟩ F cs G ts [rb X5 code ⟨.slice a1 F.length d1, .slice a2 cs.length d2, .slice a3 G.length d3, .slice a4 ts.length d4⟩]) → Calls Tryz.prog 7 #[.agg #[.int .i64 code, .slice a1 F.length d1, .slice a2 cs.length d2, .slice a3 G.length d3, .slice a4 ts.length d4], .agg #[.int .i64 code, .slice b1 p.regions.length e1, .slice b2 p.consts.length e2, .slice b3 p.funcs.length e3, .slice b4 p.certs.length e4]] u fun e w' => e = .returned (.bool true) ∧ Below u.heap.size u w') := fun u hu hs => eqResult_same code ⟨.slice a1 F.length d1, .slice a2 cs.length d2, .slice a3 G.length d3, .slice a4 ts.length d4⟩ ⟨.slice b1 p.regions.length e1, .slice b2 p.consts.length e2, .slice b3 p.funcs.length e3, .slice b4 p.certs.length e4⟩ p u HP.out.1 (by rw [HQ.out]; exact hs.ownP.rd) (HLd.out u hu).rd
  obtain ⟨y0, y1, y2, y3, y4⟩ := C3.out u6 D6.out.1
  obtain ⟨z0, z1, z2, z3, z4⟩ := C5.out u6 F cs G ts D6.out.2.2.1
  go_wp2_with fail
  refine (HEQ.out u6 D6.out.1 D6.out.2.2.1).mono ?_
  rintro e u7 ⟨rfl, hb⟩
  have D7 : Hid (Below u3.heap.size u3 u7 ∧ u7.ownsRow gx 5 1 (.slice (some ⟨gx, 0, none⟩) L L) L (zs.map (Value.int .u8)) ∧ Sep u7 N (pItems ⟨.slice a1 F.length d1, .slice a2 cs.length d2, .slice a3 G.length d3, .slice a4 ts.length d4⟩ F cs G ts [rb X5 code ⟨.slice a1 F.length d1, .slice a2 cs.length d2, .slice a3 G.length d3, .slice a4 ts.length d4⟩]) ∧ N ≤ u7.heap.size) := ⟨below_on D6.out.1 (Nat.le_refl _) hb, own_keep D6.out.2.1 hb (Nat.le_refl _), D6.out.2.2.1.keep hb, Nat.le_trans D6.out.2.2.2 hb.size⟩
  clear hb D6 y0 y1 y2 y3 y4 z0 z1 z2 z3 z4
  go_wp2_with fail
  refine (toByteS_any (.slice a L c) L zs u7 hL (H.out.1.keep (HLd.out u7 D7.out.1).bel)).mono ?_
  rintro e u8 ⟨rfl, o8, hb⟩
  have D8 : Hid (Below u3.heap.size u3 u8 ∧ u8.ownsRow gx 5 1 (.slice (some ⟨gx, 0, none⟩) L L) L (zs.map (Value.int .u8)) ∧ Sep u8 N (pItems ⟨.slice a1 F.length d1, .slice a2 cs.length d2, .slice a3 G.length d3, .slice a4 ts.length d4⟩ F cs G ts [rb X5 code ⟨.slice a1 F.length d1, .slice a2 cs.length d2, .slice a3 G.length d3, .slice a4 ts.length d4⟩]) ∧ N ≤ u8.heap.size) := ⟨below_on D7.out.1 (Nat.le_refl _) hb, own_keep D7.out.2.1 hb (Nat.le_refl _), D7.out.2.2.1.keep hb, Nat.le_trans D7.out.2.2.2 hb.size⟩
  have O8 : Hid (Reads u8 (.slice (some ⟨u7.heap.size, 0, none⟩) L L) L (zs.map (Value.int .u8))) := Reads.of_own o8
  clear hb D7 o8
  go_wp2_with fail
  refine (eqByteS_same (.slice (some ⟨gx, 0, none⟩) L L) (.slice (some ⟨u7.heap.size, 0, none⟩) L L) L zs u8 (by omega) (Reads.of_own D8.out.2.1) O8.out).mono ?_
  rintro e u9 ⟨rfl, hb⟩
  have D9 : Hid (Below u3.heap.size u3 u9 ∧ u9.ownsRow gx 5 1 (.slice (some ⟨gx, 0, none⟩) L L) L (zs.map (Value.int .u8)) ∧ Sep u9 N (pItems ⟨.slice a1 F.length d1, .slice a2 cs.length d2, .slice a3 G.length d3, .slice a4 ts.length d4⟩ F cs G ts [rb X5 code ⟨.slice a1 F.length d1, .slice a2 cs.length d2, .slice a3 G.length d3, .slice a4 ts.length d4⟩]) ∧ N ≤ u9.heap.size) := ⟨below_on D8.out.1 (Nat.le_refl _) hb, own_keep D8.out.2.1 hb (Nat.le_refl _), D8.out.2.2.1.keep hb, Nat.le_trans D8.out.2.2.2 hb.size⟩
  clear hb D8 O8
  go_wp2_with fail
  refine (markByteS_chg gx L L gx (zs.map (Value.int .u8)) 1 u9 (by omega) (by omega) (by omega) D9.out.2.1).mono ?_
  rintro e v0 ⟨rfl, hch⟩
  have E0 : Hid (Below u3.heap.size u3 v0 ∧ Sep v0 N (pItems ⟨.slice a1 F.length d1, .slice a2 cs.length d2, .slice a3 G.length d3, .slice a4 ts.length d4⟩ F cs G ts [rb X5 code ⟨.slice a1 F.length d1, .slice a2 cs.length d2, .slice a3 G.length d3, .slice a4 ts.length d4⟩]) ∧ N ≤ v0.heap.size) := ⟨D9.out.1.trans (hch.below D9.out.1.size (fun k hk e => by have := HGX.out; omega)), D9.out.2.2.1.chg hch (fun j hj e => by omega), Nat.le_trans D9.out.2.2.2 hch.size⟩
  clear hch D9
  have hk1 : ¬ (1 : Int) + (L : Int) < 0 := by omega
  obtain ⟨y0, y1, y2, y3, y4⟩ := C3.out v0 E0.out.1
  obtain ⟨z0, z1, z2, z3, z4⟩ := C5.out v0 F cs G ts E0.out.2.1
  go_wp2_with fail
  refine (HEQ.out v0 E0.out.1 E0.out.2.1).mono ?_
  rintro e v1 ⟨rfl, hb⟩
  have E1 : Hid (Below u3.heap.size u3 v1 ∧ Sep v1 N (pItems ⟨.slice a1 F.length d1, .slice a2 cs.length d2, .slice a3 G.length d3, .slice a4 ts.length d4⟩ F cs G ts [rb X5 code ⟨.slice a1 F.length d1, .slice a2 cs.length d2, .slice a3 G.length d3, .slice a4 ts.length d4⟩]) ∧ N ≤ v1.heap.size) := ⟨below_on E0.out.1 (Nat.le_refl _) hb, E0.out.2.1.keep hb, Nat.le_trans E0.out.2.2 hb.size⟩
  clear hb E0 y0 y1 y2 y3 y4 z0 z1 z2 z3 z4
  obtain ⟨z0, z1, z2, z3, z4⟩ := C5.out v1 F cs G ts E1.out.2.1
  have hKR := endR_le 1 F HPS.out.f
  have hKG := endF_le (endR 1 F + 2 * (cs.length : Int)) G HPS.out.g
  have HMK : Hid (∀ u, Sep u N (pItems ⟨.slice a1 F.length d1, .slice a2 cs.length d2, .slice a3 G.length d3, .slice a4 ts.length d4⟩ F cs G ts [rb X5 code ⟨.slice a1 F.length d1, .slice a2 cs.length d2, .slice a3 G.length d3, .slice a4 ts.length d4⟩]) → N ≤ u.heap.size → Calls Tryz.prog 10 #[.agg #[.int .i64 code, .slice a1 F.length d1, .slice a2 cs.length d2, .slice a3 G.length d3, .slice a4 ts.length d4], .int .i64 1] u fun e w' => e = .returned (.int .i64 (endF (endR 1 F + 2 * (cs.length : Int)) G + 4 * (ts.length : Int))) ∧ Sep w' N (pItems ⟨.slice a1 F.length d1, .slice a2 cs.length d2, .slice a3 G.length d3, .slice a4 ts.length d4⟩ (markRs 1 F) (mkRow mkC 2 (endR 1 F) cs.length) (markFs (endR 1 F + 2 * (cs.length : Int)) G) (mkRow mkT 4 (endF (endR 1 F + 2 * (cs.length : Int)) G) ts.length) [rb X5 code ⟨.slice a1 F.length d1, .slice a2 cs.length d2, .slice a3 G.length d3, .slice a4 ts.length d4⟩]) ∧ Below N u w') := fun u hs hN => markResult_sep N code ⟨.slice a1 F.length d1, .slice a2 cs.length d2, .slice a3 G.length d3, .slice a4 ts.length d4⟩ F cs G ts [rb X5 code ⟨.slice a1 F.length d1, .slice a2 cs.length d2, .slice a3 G.length d3, .slice a4 ts.length d4⟩] u hN HPS.out hs
  have HHD : Hid (∀ u, Sep u N (pItems ⟨.slice a1 F.length d1, .slice a2 cs.length d2, .slice a3 G.length d3, .slice a4 ts.length d4⟩ (markRs 1 F) (mkRow mkC 2 (endR 1 F) cs.length) (markFs (endR 1 F + 2 * (cs.length : Int)) G) (mkRow mkT 4 (endF (endR 1 F + 2 * (cs.length : Int)) G) ts.length) [rb X5 code ⟨.slice a1 F.length d1, .slice a2 cs.length d2, .slice a3 G.length d3, .slice a4 ts.length d4⟩]) → Calls Tryz.prog 11 #[.agg #[.int .i64 code, .slice a1 F.length d1, .slice a2 cs.length d2, .slice a3 G.length d3, .slice a4 ts.length d4], .int .i64 1] u fun e w' => e = .returned (.int .i64 (endF (endR 1 F + 2 * (cs.length : Int)) G + 4 * (ts.length : Int))) ∧ Below u.heap.size u w') := fun u hs => heldResult_sep N code ⟨.slice a1 F.length d1, .slice a2 cs.length d2, .slice a3 G.length d3, .slice a4 ts.length d4⟩ F cs G ts [rb X5 code ⟨.slice a1 F.length d1, .slice a2 cs.length d2, .slice a3 G.length d3, .slice a4 ts.length d4⟩] u HPS.out hs
  have hK0 : (0 : Int) ≤ (endF (endR 1 F + 2 * (cs.length : Int)) G + 4 * (ts.length : Int)) := by omega
  have C6 : Hid (∀ u, Sep u N (pItems ⟨.slice a1 F.length d1, .slice a2 cs.length d2, .slice a3 G.length d3, .slice a4 ts.length d4⟩ (markRs 1 F) (mkRow mkC 2 (endR 1 F) cs.length) (markFs (endR 1 F + 2 * (cs.length : Int)) G) (mkRow mkT 4 (endF (endR 1 F + 2 * (cs.length : Int)) G) ts.length) [rb X5 code ⟨.slice a1 F.length d1, .slice a2 cs.length d2, .slice a3 G.length d3, .slice a4 ts.length d4⟩]) → u.cell? ⟨X5, 0, none⟩ = some (.int .i64 code) ∧ u.cell? ⟨X5, 1, none⟩ = some (.slice a1 F.length d1) ∧ u.cell? ⟨X5, 2, none⟩ = some (.slice a2 cs.length d2) ∧ u.cell? ⟨X5, 3, none⟩ = some (.slice a3 G.length d3) ∧ u.cell? ⟨X5, 4, none⟩ = some (.slice a4 ts.length d4)) := fun u hs => C5.out u _ _ _ _ hs
  clear C5 hKR hKG
  generalize (endF (endR 1 F + 2 * (cs.length : Int)) G + 4 * (ts.length : Int)) = K at HMK HHD hK0
  go_wp2_with fail
  refine (HMK.out v1 E1.out.2.1 E1.out.2.2).mono ?_
  rintro e v2 ⟨rfl, hs, hb⟩
  have E2 : Hid (Below u3.heap.size u3 v2 ∧ Sep v2 N (pItems ⟨.slice a1 F.length d1, .slice a2 cs.length d2, .slice a3 G.length d3, .slice a4 ts.length d4⟩ (markRs 1 F) (mkRow mkC 2 (endR 1 F) cs.length) (markFs (endR 1 F + 2 * (cs.length : Int)) G) (mkRow mkT 4 (endF (endR 1 F + 2 * (cs.length : Int)) G) ts.length) [rb X5 code ⟨.slice a1 F.length d1, .slice a2 cs.length d2, .slice a3 G.length d3, .slice a4 ts.length d4⟩]) ∧ N ≤ v2.heap.size) := ⟨E1.out.1.trans (hb.mono (by have := HGX.out; omega)), hs, Nat.le_trans E1.out.2.2 hb.size⟩
  clear hs hb E1 z0 z1 z2 z3 z4 HMK
  obtain ⟨z0, z1, z2, z3, z4⟩ := C6.out v2 E2.out.2.1
  go_wp2_with fail
  refine (HHD.out v2 E2.out.2.1).mono ?_
  rintro e v3 ⟨rfl, hb⟩
  have E3 : Hid (Below u3.heap.size u3 v3 ∧ Sep v3 N (pItems ⟨.slice a1 F.length d1, .slice a2 cs.length d2, .slice a3 G.length d3, .slice a4 ts.length d4⟩ (markRs 1 F) (mkRow mkC 2 (endR 1 F) cs.length) (markFs (endR 1 F + 2 * (cs.length : Int)) G) (mkRow mkT 4 (endF (endR 1 F + 2 * (cs.length : Int)) G) ts.length) [rb X5 code ⟨.slice a1 F.length d1, .slice a2 cs.length d2, .slice a3 G.length d3, .slice a4 ts.length d4⟩]) ∧ N ≤ v3.heap.size) := ⟨below_on E2.out.1 (Nat.le_refl _) hb, E2.out.2.1.keep hb, Nat.le_trans E2.out.2.2 hb.size⟩
  clear hb E2 z0 z1 z2 z3 z4
  have hK1 : ¬ K < 0 := by omega
  go_wp2_with fail
  refine (toByteS_any (.slice a L c) L zs v3 hL (H.out.1.keep (HLd.out v3 E3.out.1).bel)).mono ?_
  rintro e v4 ⟨rfl, o4, hb⟩
  have E4 : Hid (Below u3.heap.size u3 v4 ∧ Sep v4 N (pItems ⟨.slice a1 F.length d1, .slice a2 cs.length d2, .slice a3 G.length d3, .slice a4 ts.length d4⟩ (markRs 1 F) (mkRow mkC 2 (endR 1 F) cs.length) (markFs (endR 1 F + 2 * (cs.length : Int)) G) (mkRow mkT 4 (endF (endR 1 F + 2 * (cs.length : Int)) G) ts.length) [rb X5 code ⟨.slice a1 F.length d1, .slice a2 cs.length d2, .slice a3 G.length d3, .slice a4 ts.length d4⟩]) ∧ N ≤ v4.heap.size) := ⟨below_on E3.out.1 (Nat.le_refl _) hb, E3.out.2.1.keep hb, Nat.le_trans E3.out.2.2 hb.size⟩
  have O4 : Hid (Reads v4 (.slice (some ⟨v3.heap.size, 0, none⟩) L L) L (zs.map (Value.int .u8))) := Reads.of_own o4
  clear hb E3 o4
  go_wp2_with fail
  refine (implDecode_any (some ⟨v3.heap.size, 0, none⟩) L L zs v4 hL (Nat.le_refl _) (HTk.out v4 (HLd.out v4 E4.out.1).bel) (HEk.out v4 (HLd.out v4 E4.out.1).bel) O4.out H.out.2.1).mono ?_
  rintro e v5 ⟨code', v', F', cs', G', ts', rfl, hsep, hsm, hdec, hb⟩
  obtain ⟨rfl, hpp⟩ := HP.out.2.one hdec
  obtain ⟨m1, n1, m2, n2, m3, n3, m4, n4, rfl⟩ := pItems_slices hsep
  have E5 : Hid (Below u3.heap.size u3 v5 ∧ Sep v5 N (pItems ⟨.slice a1 F.length d1, .slice a2 cs.length d2, .slice a3 G.length d3, .slice a4 ts.length d4⟩ (markRs 1 F) (mkRow mkC 2 (endR 1 F) cs.length) (markFs (endR 1 F + 2 * (cs.length : Int)) G) (mkRow mkT 4 (endF (endR 1 F + 2 * (cs.length : Int)) G) ts.length) [rb X5 code ⟨.slice a1 F.length d1, .slice a2 cs.length d2, .slice a3 G.length d3, .slice a4 ts.length d4⟩]) ∧ N ≤ v5.heap.size) := ⟨below_on E4.out.1 (Nat.le_refl _) hb, E4.out.2.1.keep hb, Nat.le_trans E4.out.2.2 hb.size⟩
  have RV : Hid (RdP v5 ⟨.slice m1 F'.length n1, .slice m2 cs'.length n2, .slice m3 G'.length n3, .slice m4 ts'.length n4⟩ p) := by rw [hpp]; exact hsep.ownP.rd
  clear hsep hsm hdec hb hpp E4 O4
  go_upto_region 23 with fail
  refine wp_world (fun u => Hid (Below u3.heap.size u3 u ∧ Sep u N (pItems ⟨.slice a1 F.length d1, .slice a2 cs.length d2, .slice a3 G.length d3, .slice a4 ts.length d4⟩ (markRs 1 F) (mkRow mkC 2 (endR 1 F) cs.length) (markFs (endR 1 F + 2 * (cs.length : Int)) G) (mkRow mkT 4 (endF (endR 1 F + 2 * (cs.length : Int)) G) ts.length) [rb X5 code ⟨.slice a1 F.length d1, .slice a2 cs.length d2, .slice a3 G.length d3, .slice a4 ts.length d4⟩]) ∧ RdP u ⟨.slice m1 F'.length n1, .slice m2 cs'.length n2, .slice m3 G'.length n3, .slice m4 ts'.length n4⟩ p ∧ Blk u v5.heap.size #[.int .i64 code, .slice m1 F'.length n1, .slice m2 cs'.length n2, .slice m3 G'.length n3, .slice m4 ts'.length n4] 30)) ⟨below_on E5.out.1 (Nat.le_refl _) (below_alloc _ _), E5.out.2.1.keep (below_alloc _ _), RV.out.keep (below_alloc _ _) (Nat.le_refl _), Blk.new _ _ _⟩ ?_
  clear E5 RV
  generalize v5.heap.size = X9
  intro v6 E6
  obtain ⟨y0, y1, y2, y3, y4⟩ := C3.out v6 E6.out.1
  obtain ⟨x0, x1, x2, x3, x4⟩ := blk5 E6.out.2.2.2
  go_wp2_with fail
  refine (eqResult_same code ⟨.slice m1 F'.length n1, .slice m2 cs'.length n2, .slice m3 G'.length n3, .slice m4 ts'.length n4⟩ ⟨.slice b1 p.regions.length e1, .slice b2 p.consts.length e2, .slice b3 p.funcs.length e3, .slice b4 p.certs.length e4⟩ p v6 HP.out.1 E6.out.2.2.1 (HLd.out v6 E6.out.1).rd).mono ?_
  rintro e v7 ⟨rfl, hb⟩
  have E7 : Hid (Below u3.heap.size u3 v7 ∧ Sep v7 N (pItems ⟨.slice a1 F.length d1, .slice a2 cs.length d2, .slice a3 G.length d3, .slice a4 ts.length d4⟩ (markRs 1 F) (mkRow mkC 2 (endR 1 F) cs.length) (markFs (endR 1 F + 2 * (cs.length : Int)) G) (mkRow mkT 4 (endF (endR 1 F + 2 * (cs.length : Int)) G) ts.length) [rb X5 code ⟨.slice a1 F.length d1, .slice a2 cs.length d2, .slice a3 G.length d3, .slice a4 ts.length d4⟩])) := ⟨below_on E6.out.1 (Nat.le_refl _) hb, E6.out.2.1.keep hb⟩
  clear hb E6 y0 y1 y2 y3 y4 x0 x1 x2 x3 x4
  obtain ⟨z0, z1, z2, z3, z4⟩ := C6.out v7 E7.out.2
  go_wp2_with fail
  refine (HHD.out v7 E7.out.2).mono ?_
  rintro e v8 ⟨rfl, hb⟩
  have E8 : Hid (Below w.heap.size w v8) := (HLd.out v8 (below_on E7.out.1 (Nat.le_refl _) hb)).bel
  clear hb E7 z0 z1 z2 z3 z4
  go_wp2
  go_ret
  exact ⟨rfl, E8.out⟩
end Go.Proofs.YtnemieeeappgnaaGreatDoor
namespace Go.Proofs.YtnemieeeappgnaaGreatDoor
open Go.ChangeShapes Go.WideShapes Go.ChangeAt Go.RowKit
set_option linter.unusedVariables false
theorem tab_keep {w w' : World} (h : TabAt w) (hb : Below w.heap.size w w') (h0 : 0 < w.heap.size) : TabAt w' := fun j hj => (hb.cell (block_lt_of_cell (h j hj))).trans (h j hj)
theorem bytes_of_row {w : World} {a : Option Addr} {len cap : Nat} {zs : List Int}
    (h : (a = none ∧ len = 0 ∧ cap = 0 ∧ zs = []) ∨ ∃ x, a = some x ∧ len ≤ cap ∧ cap ≤ maxLen ∧ zs.length = cap ∧ (∀ i, i < zs.length → w.cell? (x.add i) = some (.int .u8 (zs.getD i 0))) ∧ ∀ n ∈ zs, (Lit.int .u8 n).wf = true) :
    ∀ j, 0 ≤ (zs.take len).getD j 0 ∧ (zs.take len).getD j 0 ≤ 255 := by
  intro j
  have hall : ∀ n ∈ zs, (Lit.int .u8 n).wf = true := by
    rcases h with ⟨_, _, _, rfl⟩ | ⟨x, _, _, _, _, _, h5⟩
    · intro n hn; cases hn
    · exact h5
  rw [List.getD_eq_getElem?_getD]
  cases hj : (zs.take len)[j]? with
  | none => simp
  | some v =>
    have hm : v ∈ zs := List.mem_of_mem_take (List.mem_of_getElem? hj)
    have hw := hall v hm
    have hb : 0 ≤ v ∧ v ≤ 255 := by simpa [Lit.wf, IntKind.min, IntKind.max, IntKind.signed, IntKind.bits] using hw
    simpa using hb
theorem reads_of_row {w : World} {a : Option Addr} {len cap : Nat} {zs : List Int}
    (h : (a = none ∧ len = 0 ∧ cap = 0 ∧ zs = []) ∨ ∃ x, a = some x ∧ len ≤ cap ∧ cap ≤ maxLen ∧ zs.length = cap ∧ (∀ i, i < zs.length → w.cell? (x.add i) = some (.int .u8 (zs.getD i 0))) ∧ ∀ n ∈ zs, (Lit.int .u8 n).wf = true) :
    Reads w (.slice a len cap) len ((zs.take len).map (Value.int .u8)) := by
  rcases h with ⟨rfl, rfl, rfl, rfl⟩ | ⟨x, rfl, h1, h2, h3, h4, h5⟩
  · exact ⟨rfl, .inl ⟨rfl, _, _, rfl⟩⟩
  · refine ⟨by simp; omega, ?_⟩
    by_cases h0 : len = 0
    · subst h0
      exact .inl ⟨rfl, _, _, rfl⟩
    · obtain ⟨b, off, spot⟩ := x
      have hspot : spot = none := by simpa [Addr.add] using World.cell?_spot (h4 0 (by omega))
      subst hspot
      have hadd : ∀ i, (⟨b, off, none⟩ : Addr).add i = ⟨b, off + i, none⟩ := fun i => by unfold Addr.add; split <;> simp_all
      refine .inr ⟨b, off, cap, rfl, fun j u hj => ?_⟩
      rw [List.getElem?_map, List.getElem?_take] at hj
      by_cases hjl : j < len
      · rw [if_pos hjl, List.getElem?_eq_getElem (by omega)] at hj
        have hc := h4 j (by omega)
        rw [hadd, List.getD_eq_getElem?_getD, List.getElem?_eq_getElem (by omega)] at hc
        rw [hc]
        simpa using hj
      · rw [if_neg hjl] at hj
        cases hj
end Go.Proofs.YtnemieeeappgnaaGreatDoor
