import Derived.Test.YtnemieeeappgnaaGreatDoorDc19
import Derived.Test.YtnemieeeappgnaaGreatDoorDc36
import Derived.Lib.SlBytesConst
namespace Go.Proofs.YtnemieeeappgnaaGreatDoor
open Go.ChangeShapes Go.WideShapes Go.ChangeAt Go.RowKit
set_option linter.unusedVariables false
theorem conv4 {u : World} {g o L c : Nat} {zs : List Int} (h : Reads u (.slice (some ⟨g, o, none⟩) L c) L (zs.map (Value.int .u8))) (hz : AllB zs) (h10 : 10 ≤ L) {str : ByteArray} (hstr : str = ⟨((zs.take 4).map fun z => UInt8.ofNat z.toNat).toArray⟩) : (convert 22 9 (.slice (some ⟨g, o, none⟩) 4 c)).run Tryz.prog u = .ok (.string str) u := by
  have hlen : zs.length = L := by simpa using h.1
  have h4 : ((zs.take 4).map fun z => UInt8.ofNat z.toNat).length = 4 := by simp; omega
  have := run_convert_bytes_back (P := Tryz.prog) u 22 9 5 ⟨g, o, none⟩ c ((zs.take 4).map fun z => UInt8.ofNat z.toNat) Tryz.underlying22 Tryz.underlying5 Tryz.underlying9 (fun j hj => by
    have hj4 : j < 4 := by omega
    rcases h.2 with ⟨e, _⟩ | ⟨g', o', c', e, hcell⟩
    · omega
    · cases e
      have hjl : j < zs.length := by omega
      have hb := hz j
      rw [List.getD_eq_getElem?_getD, List.getElem?_eq_getElem hjl] at hb
      simp only [Option.getD_some] at hb
      have := hcell j (.int .u8 zs[j]) (by rw [List.getElem?_map, List.getElem?_eq_getElem hjl]; rfl)
      rw [add_at, this]
      simp only [List.getElem_map, List.getElem_take, UInt8.toNat_ofNat']
      congr 2
      omega)
  rw [h4, ← hstr] at this
  exact this
theorem convM {u : World} {M : Nat} (h : ∀ j, u.cell? ⟨M, j, none⟩ = (#[.int .u8 80, .int .u8 76, .int .u8 67, .int .u8 49] : Array Value)[j]?) : (convert 22 9 (.slice (some ⟨M, 0, none⟩) 4 4)).run Tryz.prog u = .ok (.string ⟨#[80, 76, 67, 49]⟩) u :=
  run_convert_bytes_back (P := Tryz.prog) u 22 9 5 ⟨M, 0, none⟩ 4 [80, 76, 67, 49] Tryz.underlying22 Tryz.underlying5 Tryz.underlying9 (fun j hj => by
    rw [add_at, Nat.zero_add, h j]
    match j, hj with
    | 0, _ => rfl
    | 1, _ => rfl
    | 2, _ => rfl
    | 3, _ => rfl)
set_option maxHeartbeats 1000000 in
set_option maxRecDepth 100000 in
theorem equal4_any (s1 s2 : Value) (str : ByteArray) (u : World) (h1 : (convert 22 9 s1).run Tryz.prog u = .ok (.string str) u) (h2 : (convert 22 9 s2).run Tryz.prog u = .ok (.string ⟨#[80, 76, 67, 49]⟩) u) :
    Calls Tryz.prog 91 #[s1, s2] u fun e u' => e = .returned (.bool (str.toList == [80, 76, 67, 49])) ∧ u' = u := by
  go_enter Tryz.func91, Tryz.ntmps91
  go_wp2
  go_ret
  exact ⟨rfl, rfl⟩
set_option maxHeartbeats 1000000 in
set_option maxRecDepth 100000 in
theorem prefix4_any (g o L c M : Nat) (str : ByteArray) (u : World) (h10 : 10 ≤ L) (hc : L ≤ c) (h1 : (convert 22 9 (.slice (some ⟨g, o, none⟩) 4 c)).run Tryz.prog u = .ok (.string str) u) (h2 : (convert 22 9 (.slice (some ⟨M, 0, none⟩) 4 4)).run Tryz.prog u = .ok (.string ⟨#[80, 76, 67, 49]⟩) u) :
    Calls Tryz.prog 75 #[.slice (some ⟨g, o, none⟩) L c, .slice (some ⟨M, 0, none⟩) 4 4] u fun e u' => e = .returned (.bool (str.toList == [80, 76, 67, 49])) ∧ u' = u := by
  have hge : (4 : Int) ≤ (L : Int) := by omega
  have hc4 : (4 : Int) ≤ (c : Int) := by omega
  have H1 : Hid ((convert 22 9 (.slice (some ⟨g, o, none⟩) 4 c)).run Tryz.prog u = .ok (.string str) u) := h1
  have H2 : Hid ((convert 22 9 (.slice (some ⟨M, 0, none⟩) 4 4)).run Tryz.prog u = .ok (.string ⟨#[80, 76, 67, 49]⟩) u) := h2
  clear h1 h2
  go_enter Tryz.func75, Tryz.ntmps75
  go_wp2_with (go_at_call 91; refine (equal4_any _ _ str u H1.out H2.out).mono ?_; rintro e u1 ⟨rfl, rfl⟩)
  go_ret
  exact ⟨rfl, rfl⟩
end Go.Proofs.YtnemieeeappgnaaGreatDoor
namespace Go.Proofs.YtnemieeeappgnaaGreatDoor
open Go.ChangeShapes Go.WideShapes Go.ChangeAt Go.RowKit
set_option linter.unusedVariables false
def EnvRes (w : World) (B I L : Nat) (a : Option Addr) (c : Nat) (zs : List Int) (e : Ending) (w' : World) : Prop :=
  (e = stopE 1 ∧ ¬ Start zs ∧ Chg (fun j => j = I) w w') ∨ (e = stopE 2 ∧ Start zs ∧ ¬ Sum4 zs ∧ Chg (fun j => j = I) w w') ∨ (e = .returned (.tuple #[]) ∧ Start zs ∧ Sum4 zs ∧ InR w' B I (L - 4) a c (bodyZ zs) 4 ∧ Chg (fun j => j = I) w w')
set_option maxHeartbeats 8000000 in
set_option maxRecDepth 100000 in
theorem envelope_any (B I L : Nat) (a : Option Addr) (c : Nat) (zs : List Int) (w : World) (ht : TabAt w) (htB : 1 < B) (h : InR w B I L a c zs 0) :
    Calls Tryz.prog 50 #[.pointer (some ⟨I, 0, none⟩)] w (EnvRes w B I L a c zs) := by
  have hlen := h.len
  have hL := h.big
  have hc := h.cap
  have HI : Hid (InR w B I L a c zs 0) := h
  have HT : Hid (TabAt w) := ht
  have HLen : Hid (zs.length = L) := hlen
  have hIl := h.lt
  have hBI := h.hB
  obtain ⟨c0, c1⟩ := two_cells h.blk
  have hrd := h.rd w (Below.refl _ _)
  have hzz := h.hz
  go_enter Tryz.func50, Tryz.ntmps50
  by_cases h10 : L < 10
  · have h10' : ¬ (10 : Int) ≤ (L : Int) := by omega
    have HS : Hid (¬ Start zs) := fun hs => by have := hs.1; omega
    clear h ht hrd hzz hlen
    go_wp2_with (go_at_call 51; refine (demand_no 1 _).mono ?_; rintro e u2 ⟨rfl, hu⟩; obtain rfl := hu.symm; unfold stopE)
    exact ⟨rfl, .inl ⟨rfl, HS.out, Chg.refl _ _⟩⟩
  · have h10' : (10 : Int) ≤ (L : Int) := by omega
    obtain ⟨g, o, hg⟩ : ∃ g o, a = some ⟨g, o, none⟩ := by
      rcases hrd.2 with ⟨e, _⟩ | ⟨g, o, c', e, _⟩
      · omega
      · cases e; exact ⟨g, o, rfl⟩
    subst hg
    obtain ⟨str, hstr, hiff⟩ := Start.str hzz (by omega)
    have HS : Hid (Start zs ↔ (str.toList == [80, 76, 67, 49]) = true) := by
      show _ ↔ _
      rw [hiff, beq_iff_eq, ByteArray.toList_eq]
      exact ⟨fun e => by rw [e], fun e => ByteArray.ext (Array.toList_inj.1 e)⟩
    have HW : Hid (∀ u, Below w.heap.size w u → (convert 22 9 (.slice (some ⟨g, o, none⟩) 4 c)).run Tryz.prog u = .ok (.string str) u) := fun u hu => conv4 (h.rd u (hu.mono (by omega))) hzz (by omega) hstr
    clear h ht hrd hzz hlen hstr hiff
    generalize hz0 : (str.toList == [80, 76, 67, 49]) = z at HS
    have hcv := Lib.run_convert_bytes_const (P := Tryz.prog) w 22 5 #[.int .u8 80, .int .u8 76, .int .u8 67, .int .u8 49] 4 4 Tryz.underlying22 Tryz.underlying5
    cases z
    · go_wp2_with (first | (go_at_call 75; refine (prefix4_any g o L c w.heap.size str _ (by omega) hc (HW.out _ (below_alloc _ _)) (convM (fun j => World.cell?_alloc_mark w #[.int .u8 80, .int .u8 76, .int .u8 67, .int .u8 49] 5 (4, 5) j))).mono ?_; rintro e u2 ⟨rfl, hu⟩; rw [hz0]; subst hu) | (go_at_call 51; refine (demand_no 1 _).mono ?_; rintro e u2 ⟨rfl, hu⟩; subst hu; unfold stopE))
      exact ⟨rfl, .inl ⟨rfl, fun h => (by have := HS.out.1 h; cases this), Chg.of (below_alloc _ _)⟩⟩
    · have HST : Hid (Start zs) := HS.out.2 rfl
      go_upto_region 1 with (first | (go_at_call 75; refine (prefix4_any g o L c w.heap.size str _ (by omega) hc (HW.out _ (below_alloc _ _)) (convM (fun j => World.cell?_alloc_mark w #[.int .u8 80, .int .u8 76, .int .u8 67, .int .u8 49] 5 (4, 5) j))).mono ?_; rintro e u2 ⟨rfl, hu⟩; rw [hz0]; subst hu) | (go_at_call 51; refine (demand_yes 1 _).mono ?_; rintro e u2 ⟨rfl, hu⟩; subst hu))
      refine wp_world (fun u => Hid (Below w.heap.size w u)) (below_alloc _ _) ?_
      clear HS HW hz0 c0 c1
      intro u0 B0
      have HI0 : Hid (InR u0 B I L (some ⟨g, o, none⟩) c zs 0) := HI.out.keep B0.out
      obtain ⟨c0, c1⟩ := two_cells HI0.out.blk
      have hL4 : ((L - 4 : Nat) : Int) = (L : Int) - 4 := by omega
      have hcL : (L : Int) - 4 ≤ (c : Int) := by omega
      have hL0 : (0 : Int) ≤ (L : Int) - 4 := by omega
      have h4L : (4 : Int) ≤ (L : Int) := by omega
      have htn : ((L : Int) - 4).toNat = L - 4 := by omega
      have HG : Hid (∀ u, Below B u0 u → Calls Tryz.prog 76 #[.slice (some ⟨g, o, none⟩) L c, .int .i64 ((L : Int) - 4), .int .i64 4] u fun e u' => e = .returned (.agg #[.bool true, .int .i64 (wrap64 (getAcc zs (L - 4) 4))]) ∧ Below u.heap.size u u') := fun u hu => by
        have := GetNumber_in (.slice (some ⟨g, o, none⟩) L c) L zs (L - 4) 4 u hL (HI0.out.rd u hu) (fun a' c' e => by cases e; exact hc) (by omega) (by omega) (by omega)
        rw [hL4] at this
        exact this
      have HRB : Hid (∀ u, Below B w u → Reads u (.slice (some ⟨g, o, none⟩) (L - 4) c) (L - 4) ((bodyZ zs).map (Value.int .u8))) := fun u hu => by
        have := (HI.out.rd u hu).front (m := L - 4) (by omega) (by omega)
        rw [bodyZ, HLen.out]
        exact this
      have HZB : Hid (AllB (bodyZ zs)) := HI.out.hz.take _
      have HC : Hid (∀ u, Below B w u → TabAt u → Calls Tryz.prog 77 #[.slice (some ⟨g, o, none⟩) (L - 4) c] u fun e u' => e = .returned (.int .u32 (toI (~~~(crcTo (bodyZ zs) (L - 4))))) ∧ u' = u) := fun u hu ht => Crc_any _ (L - 4) (bodyZ zs) u (by omega) (HRB.out u hu) HZB.out ht
      have hcw : IntKind.i64.wrap (toI (~~~(crcTo (bodyZ zs) (L - 4)))) = toI (~~~(crcTo (bodyZ zs) (L - 4))) := by
        have := toI_bd (~~~(crcTo (bodyZ zs) (L - 4)))
        exact IntWalk.i64_in _ ⟨by omega, by omega⟩
      have H4 : Hid (Sum4 zs ↔ wrap64 (getAcc zs (L - 4) 4) = toI (~~~(crcTo (bodyZ zs) (L - 4)))) := by unfold Sum4; rw [HLen.out]; exact Iff.rfl
      generalize wrap64 (getAcc zs (L - 4) 4) = x4 at *
      generalize toI (~~~(crcTo (bodyZ zs) (L - 4))) = s4 at *
      go_upto_region 3 with (go_at_call 76; refine (HG.out _ (Below.refl _ _)).mono ?_; rintro e u1 ⟨rfl, b1⟩; have B1 : Hid (Below w.heap.size w u1) := below_on B0.out (Nat.le_refl _) b1; clear b1)
      refine wp_world (fun u => Hid (Below w.heap.size w u ∧ Blk u u1.heap.size #[.bool true, .int .i64 x4] 39)) ⟨below_on B1.out (Nat.le_refl _) (below_alloc _ _), Blk.new _ _ _⟩ ?_
      clear HI0 HG c0 c1 B0 B1 hcv
      generalize u1.heap.size = X
      intro u2 H2
      have HTK : Hid (∀ u, Below w.heap.size w u → TabAt u) := fun u hu j hj => by rw [hu.cell (block_lt_of_cell (HT.out j hj))]; exact HT.out j hj
      have KS : ∀ u, Below w.heap.size w u ∧ Blk u X #[.bool true, .int .i64 x4] 39 → (u.cell? ⟨X, 1, none⟩ = some (.int .i64 x4) ∧ u.cell? ⟨I, 0, none⟩ = some (.slice (some ⟨g, o, none⟩) L c)) := fun u h => ⟨h.2.cell 1, (HI.out.keep h.1).blk.cell 0⟩
      have HD : Hid (Below w.heap.size w u2.drew ∧ Blk u2.drew X #[.bool true, .int .i64 x4] 39) := ⟨below_on H2.out.1 (Nat.le_refl _) (below_drew1 _), H2.out.2.keep (below_drew1 _)⟩
      clear H2
      by_cases h45 : x4 = s4
      · have HS4 : Hid (Sum4 zs) := H4.out.2 h45
        have hb : (x4 == s4) = true := by simpa using h45
        clear H4 h45
        refine wp_region_held_drew (S := fun w' => (w'.cell? ⟨X, 1, none⟩ = some (.int .i64 x4) ∧ w'.cell? ⟨I, 0, none⟩ = some (.slice (some ⟨g, o, none⟩) L c))) (by kernel_rfl) (KS _ HD.out) (fun hHeld => ?_)
        generalize u2.drew = UD at HD hHeld ⊢
        refine wpAnyH_take (i := 0) (v := ?_) rfl (by kernel_rfl) (by kernel_rfl) (by kernel_rfl) (fun _ _ _ h => h) (Or.inl ⟨by rfl, ?_⟩) (by assumption) ?_
        rotate_left
        · (intro w hSw; (try dsimp only at hSw); go_simp; (try with_reducible rfl))
        refine wpAnyH_take (i := 1) (v := ?_) rfl (by kernel_rfl) (by kernel_rfl) (by kernel_rfl) (fun _ _ _ h => h) (Or.inl ⟨by rfl, ?_⟩) (by assumption) ?_
        rotate_left
        · (intro w hSw; (try dsimp only at hSw); go_simp; (try with_reducible rfl))
        refine wpAnyH_take (i := 2) (v := ?_) rfl (by kernel_rfl) (by kernel_rfl) (by kernel_rfl) (fun _ _ _ h => h) (Or.inl ⟨by rfl, ?_⟩) (by assumption) ?_
        rotate_left
        · (intro w hSw; (try dsimp only at hSw); go_simp; (try with_reducible rfl))
        refine wpAnyH_take (i := 3) (v := ?_) rfl (by kernel_rfl) (by kernel_rfl) (by kernel_rfl) (fun _ _ _ h => h) (Or.inl ⟨by rfl, ?_⟩) (by assumption) ?_
        rotate_left
        · (intro w hSw; (try dsimp only at hSw); go_simp; (try with_reducible rfl))
        refine wpAnyH_take (i := 4) (v := ?_) rfl (by kernel_rfl) (by kernel_rfl) (by kernel_rfl) (fun _ _ _ h => h) (Or.inl ⟨by rfl, ?_⟩) (by assumption) ?_
        rotate_left
        · (intro w hSw; (try dsimp only at hSw); go_simp; (try with_reducible rfl))
        refine wpAnyH_take (i := 5) (v := ?_) rfl (by kernel_rfl) (by kernel_rfl) (by kernel_rfl) (fun _ _ _ h => h) (Or.inl ⟨by rfl, ?_⟩) (by assumption) ?_
        rotate_left
        · (intro w hSw; (try dsimp only at hSw); go_simp; (try with_reducible rfl))
        refine wpAnyH_take (i := 6) (v := ?_) rfl (by kernel_rfl) (by kernel_rfl) (by kernel_rfl) (fun _ _ _ h => h) (Or.inl ⟨by rfl, ?_⟩) (by assumption) ?_
        rotate_left
        · (intro w hSw; (try dsimp only at hSw); go_simp; (try with_reducible rfl))
        refine wpAnyH_take (i := 7) (v := ?_) rfl (by kernel_rfl) (by kernel_rfl) (by kernel_rfl) (fun _ _ _ h => h) (Or.inl ⟨by rfl, ?_⟩) (by assumption) ?_
        rotate_left
        · (intro w hSw; (try dsimp only at hSw); go_simp; (try with_reducible rfl))
        clear hHeld
        go_simp
        refine wpAnyH_ready (rs := [8]) (by kernel_rfl) (by simp) ?_
        refine AllReadyH.cons rfl (fun KC hKC => ?_) AllReadyH.nil
        go_simp
        refine (HC.out UD (HD.out.1.mono (by omega)) (HTK.out UD HD.out.1)).mono ?_
        rintro e v1 ⟨rfl, hv⟩
        obtain rfl := hv.symm
        go_simp
        refine hKC.out _ _ (KS _ HD.out) (fun hHeld => ?_)
        clear hKC KC
        refine wpAnyH_take (i := 9) (v := ?_) rfl (by kernel_rfl) (by kernel_rfl) (by kernel_rfl) (fun _ _ _ h => h) (Or.inl ⟨by rfl, ?_⟩) (by assumption) ?_
        rotate_left
        · (intro w hSw; (try dsimp only at hSw); go_simp; (try with_reducible rfl))
        refine wpAnyH_take (i := 10) (v := ?_) rfl (by kernel_rfl) (by kernel_rfl) (by kernel_rfl) (fun _ _ _ h => h) (Or.inl ⟨by rfl, ?_⟩) (by assumption) ?_
        rotate_left
        · (intro w hSw; (try dsimp only at hSw); go_simp; (try with_reducible rfl))
        refine wpAnyH_ready (rs := [11]) (by kernel_rfl) (by simp) ?_
        refine AllReadyH.cons rfl (fun KC hKC => ?_) AllReadyH.nil
        go_simp
        refine (demand_yes 2 _).mono ?_
        rintro e v2 ⟨rfl, hv⟩
        obtain rfl := hv.symm
        go_simp
        refine hKC.out _ _ (KS _ HD.out) (fun hHeld => ?_)
        clear hKC KC hHeld
        refine wpAnyH_done (by kernel_rfl) ?_ _
        have HIU : Hid (InR UD B I L (some ⟨g, o, none⟩) c zs 0) := HI.out.keep HD.out.1
        obtain ⟨c0, c1⟩ := two_cells HIU.out.blk
        have z0 := HIU.out.blk.frozen 0
        have z1 := HIU.out.blk.frozen 1
        go_wp2
        have HE : Hid (Blk ((UD.setCell ⟨I, 0, none⟩ (.slice (some ⟨g, o, none⟩) (L - 4) c)).setCell ⟨I, 1, none⟩ (.int .i64 4)) I #[.slice (some ⟨g, o, none⟩) (L - 4) c, .int .i64 ((4 : Nat) : Int)] 76 ∧ Below B w ((UD.setCell ⟨I, 0, none⟩ (.slice (some ⟨g, o, none⟩) (L - 4) c)).setCell ⟨I, 1, none⟩ (.int .i64 4)) ∧ Chg (fun j => j = I) w ((UD.setCell ⟨I, 0, none⟩ (.slice (some ⟨g, o, none⟩) (L - 4) c)).setCell ⟨I, 1, none⟩ (.int .i64 4))) := by
          refine ⟨?_, ((HD.out.1.mono (by omega)).setCell hBI (.slice (some ⟨g, o, none⟩) (L - 4) c)).setCell hBI (.int .i64 4), ((Chg.of (R := fun j => j = I) HD.out.1).setCell (ad := ⟨I, 0, none⟩) (.inl rfl) (.slice (some ⟨g, o, none⟩) (L - 4) c)).setCell (ad := ⟨I, 1, none⟩) (.inl rfl) (.int .i64 4)⟩
          have := (HIU.out.blk.set 0 (.slice (some ⟨g, o, none⟩) (L - 4) c)).set 1 (.int .i64 4)
          simpa using this
        generalize (UD.setCell ⟨I, 0, none⟩ (.slice (some ⟨g, o, none⟩) (L - 4) c)).setCell ⟨I, 1, none⟩ (.int .i64 4) = WF at HE ⊢
        exact bodyPost_end (v := .tuple #[]) (by kernel_rfl) rfl (.inr (.inr ⟨rfl, HST.out, HS4.out, ⟨HE.out.1, fun v hv => HRB.out v (HE.out.2.1.trans hv), by omega, by omega, hBI, HZB.out, by omega⟩, HE.out.2.2⟩))
      · have HS4 : Hid (¬ Sum4 zs) := fun h => h45 (H4.out.1 h)
        have hb : (x4 == s4) = false := by simpa using h45
        clear H4 h45
        refine wp_region_held_drew (S := fun w' => (w'.cell? ⟨X, 1, none⟩ = some (.int .i64 x4) ∧ w'.cell? ⟨I, 0, none⟩ = some (.slice (some ⟨g, o, none⟩) L c))) (by kernel_rfl) (KS _ HD.out) (fun hHeld => ?_)
        generalize u2.drew = UD at HD hHeld ⊢
        refine wpAnyH_take (i := 0) (v := ?_) rfl (by kernel_rfl) (by kernel_rfl) (by kernel_rfl) (fun _ _ _ h => h) (Or.inl ⟨by rfl, ?_⟩) (by assumption) ?_
        rotate_left
        · (intro w hSw; (try dsimp only at hSw); go_simp; (try with_reducible rfl))
        refine wpAnyH_take (i := 1) (v := ?_) rfl (by kernel_rfl) (by kernel_rfl) (by kernel_rfl) (fun _ _ _ h => h) (Or.inl ⟨by rfl, ?_⟩) (by assumption) ?_
        rotate_left
        · (intro w hSw; (try dsimp only at hSw); go_simp; (try with_reducible rfl))
        refine wpAnyH_take (i := 2) (v := ?_) rfl (by kernel_rfl) (by kernel_rfl) (by kernel_rfl) (fun _ _ _ h => h) (Or.inl ⟨by rfl, ?_⟩) (by assumption) ?_
        rotate_left
        · (intro w hSw; (try dsimp only at hSw); go_simp; (try with_reducible rfl))
        refine wpAnyH_take (i := 3) (v := ?_) rfl (by kernel_rfl) (by kernel_rfl) (by kernel_rfl) (fun _ _ _ h => h) (Or.inl ⟨by rfl, ?_⟩) (by assumption) ?_
        rotate_left
        · (intro w hSw; (try dsimp only at hSw); go_simp; (try with_reducible rfl))
        refine wpAnyH_take (i := 4) (v := ?_) rfl (by kernel_rfl) (by kernel_rfl) (by kernel_rfl) (fun _ _ _ h => h) (Or.inl ⟨by rfl, ?_⟩) (by assumption) ?_
        rotate_left
        · (intro w hSw; (try dsimp only at hSw); go_simp; (try with_reducible rfl))
        refine wpAnyH_take (i := 5) (v := ?_) rfl (by kernel_rfl) (by kernel_rfl) (by kernel_rfl) (fun _ _ _ h => h) (Or.inl ⟨by rfl, ?_⟩) (by assumption) ?_
        rotate_left
        · (intro w hSw; (try dsimp only at hSw); go_simp; (try with_reducible rfl))
        refine wpAnyH_take (i := 6) (v := ?_) rfl (by kernel_rfl) (by kernel_rfl) (by kernel_rfl) (fun _ _ _ h => h) (Or.inl ⟨by rfl, ?_⟩) (by assumption) ?_
        rotate_left
        · (intro w hSw; (try dsimp only at hSw); go_simp; (try with_reducible rfl))
        refine wpAnyH_take (i := 7) (v := ?_) rfl (by kernel_rfl) (by kernel_rfl) (by kernel_rfl) (fun _ _ _ h => h) (Or.inl ⟨by rfl, ?_⟩) (by assumption) ?_
        rotate_left
        · (intro w hSw; (try dsimp only at hSw); go_simp; (try with_reducible rfl))
        clear hHeld
        go_simp
        refine wpAnyH_ready (rs := [8]) (by kernel_rfl) (by simp) ?_
        refine AllReadyH.cons rfl (fun KC hKC => ?_) AllReadyH.nil
        go_simp
        refine (HC.out UD (HD.out.1.mono (by omega)) (HTK.out UD HD.out.1)).mono ?_
        rintro e v1 ⟨rfl, hv⟩
        obtain rfl := hv.symm
        go_simp
        refine hKC.out _ _ (KS _ HD.out) (fun hHeld => ?_)
        clear hKC KC
        refine wpAnyH_take (i := 9) (v := ?_) rfl (by kernel_rfl) (by kernel_rfl) (by kernel_rfl) (fun _ _ _ h => h) (Or.inl ⟨by rfl, ?_⟩) (by assumption) ?_
        rotate_left
        · (intro w hSw; (try dsimp only at hSw); go_simp; (try with_reducible rfl))
        refine wpAnyH_take (i := 10) (v := ?_) rfl (by kernel_rfl) (by kernel_rfl) (by kernel_rfl) (fun _ _ _ h => h) (Or.inl ⟨by rfl, ?_⟩) (by assumption) ?_
        rotate_left
        · (intro w hSw; (try dsimp only at hSw); go_simp; (try with_reducible rfl))
        refine wpAnyH_ready (rs := [11]) (by kernel_rfl) (by simp) ?_
        refine AllReadyH.cons rfl (fun KC hKC => ?_) AllReadyH.nil
        go_simp
        refine (demand_no 2 _).mono ?_
        rintro e v2 ⟨rfl, hv⟩
        obtain rfl := hv.symm
        unfold stopE
        go_wp2
        exact ⟨rfl, .inr (.inl ⟨rfl, HST.out, HS4.out, Chg.of HD.out.1⟩)⟩
end Go.Proofs.YtnemieeeappgnaaGreatDoor
