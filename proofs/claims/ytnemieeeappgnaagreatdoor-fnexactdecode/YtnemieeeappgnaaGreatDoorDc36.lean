import Derived.Test.YtnemieeeappgnaaGreatDoorDc35
import Derived.Test.YtnemieeeappgnaaGreatDoorDc32
import Derived.Laws.Strings
namespace Go.Proofs.YtnemieeeappgnaaGreatDoor
open Go.ChangeShapes Go.WideShapes Go.ChangeAt Go.RowKit
set_option linter.unusedVariables false
theorem Reads.front {w : World} {a : Option Addr} {n c m : Nat} {zs : List Int} (h : Reads w (.slice a n c) n (zs.map (Value.int .u8))) (hm : m ≤ n) (hc : 0 < m) : Reads w (.slice a m c) m ((zs.take m).map (Value.int .u8)) := by
  obtain ⟨h1, h2⟩ := h
  have hl : zs.length = n := by simpa using h1
  refine ⟨by simp; omega, ?_⟩
  rcases h2 with ⟨rfl, _⟩ | ⟨g, o, c', e, hcell⟩
  · omega
  · cases e
    refine .inr ⟨g, o, c, rfl, fun j u hj => hcell j u ?_⟩
    rw [List.map_take, List.getElem?_take] at hj
    split at hj
    · exact hj
    · cases hj
theorem AllB.take {zs : List Int} (h : AllB zs) (m : Nat) : AllB (zs.take m) := fun j => by
  have := h j
  rw [List.getD_eq_getElem?_getD, List.getElem?_take] at *
  split
  · exact this
  · simp
/-- The result's block, five cells. -/
abbrev rb (X : Nat) (c : Int) (v : VP) : RowI := bRow X 30 5 [.int .i64 c, v.r, v.k, v.f, v.t]
def DecRes (zs : List Int) (w : World) (e : Ending) (w' : World) : Prop := ∃ (c : Int) (v : VP) (p : MP), e = .returned (.agg #[.int .i64 c, v.r, v.k, v.f, v.t]) ∧ RdP w' v p ∧ p.small ∧ DecIs zs c p ∧ Below w.heap.size w w'
theorem rdp_nil (w : World) : RdP w ⟨.slice none 0 0, .slice none 0 0, .slice none 0 0, .slice none 0 0⟩ noP := by
  have h : Sep w 0 (pItems ⟨.slice none 0 0, .slice none 0 0, .slice none 0 0, .slice none 0 0⟩ [] [] [] [] []) := by
    refine ⟨fun r hr => ?_, ?_⟩
    · simp [pItems, rItems, fItems] at hr
      rcases hr with rfl | rfl | rfl | rfl <;> exact World.ownsRow_nil _ _ _ _
    · simp [pItems, rItems, fItems, Off, rHead, cRow, fHead, tRow, Value.ownBlock]
  exact h.ownP.rd
theorem small_nil : noP.small := ⟨by simp [noP], by simp [noP], by simp [noP], by simp [noP], by simp [noP], by simp [noP]⟩
theorem five_set {u : World} {R : Nat} {x0 x1 x2 x3 x4 : Value} {t : TypeId} (h : Blk u R #[x0, x1, x2, x3, x4] t) (y0 y1 y2 y3 y4 : Value) : Blk (((((u.setCell ⟨R, 0, none⟩ y0).setCell ⟨R, 1, none⟩ y1).setCell ⟨R, 2, none⟩ y2).setCell ⟨R, 3, none⟩ y3).setCell ⟨R, 4, none⟩ y4) R #[y0, y1, y2, y3, y4] t := by
  have := ((((h.set 0 y0).set 1 y1).set 2 y2).set 3 y3).set 4 y4
  simpa using this
abbrev nilS : Value := .slice none 0 0
/-- The result's block is there, all else is as it was. -/
structure Dw (w u : World) (x0 x1 x2 x3 x4 : Value) : Prop where
  blk : Blk u w.heap.size #[x0, x1, x2, x3, x4] 30
  bel : Below w.heap.size w u
theorem Dw.keep {w u v : World} {x0 x1 x2 x3 x4 : Value} (h : Dw w u x0 x1 x2 x3 x4) (hb : Below u.heap.size u v) : Dw w v x0 x1 x2 x3 x4 := ⟨h.blk.keep hb, below_on h.bel (Nat.le_refl _) hb⟩
theorem Dw.set {w u : World} {x0 x1 x2 x3 x4 : Value} (h : Dw w u x0 x1 x2 x3 x4) (y0 y1 y2 y3 y4 : Value) : Dw w (((((u.setCell ⟨w.heap.size, 0, none⟩ y0).setCell ⟨w.heap.size, 1, none⟩ y1).setCell ⟨w.heap.size, 2, none⟩ y2).setCell ⟨w.heap.size, 3, none⟩ y3).setCell ⟨w.heap.size, 4, none⟩ y4) y0 y1 y2 y3 y4 :=
  ⟨five_set h.blk _ _ _ _ _, ((((h.bel.setCell (Nat.le_refl _) _).setCell (Nat.le_refl _) _).setCell (Nat.le_refl _) _).setCell (Nat.le_refl _) _).setCell (Nat.le_refl _) _⟩
theorem Dw.cells {w u : World} {x0 x1 x2 x3 x4 : Value} (h : Dw w u x0 x1 x2 x3 x4) : (u.cell? ⟨w.heap.size, 0, none⟩ = some x0 ∧ u.cell? ⟨w.heap.size, 1, none⟩ = some x1 ∧ u.cell? ⟨w.heap.size, 2, none⟩ = some x2 ∧ u.cell? ⟨w.heap.size, 3, none⟩ = some x3 ∧ u.cell? ⟨w.heap.size, 4, none⟩ = some x4) ∧ (u.frozen? ⟨w.heap.size, 0, none⟩ = false ∧ u.frozen? ⟨w.heap.size, 1, none⟩ = false ∧ u.frozen? ⟨w.heap.size, 2, none⟩ = false ∧ u.frozen? ⟨w.heap.size, 3, none⟩ = false ∧ u.frozen? ⟨w.heap.size, 4, none⟩ = false) := ⟨⟨h.blk.cell 0, h.blk.cell 1, h.blk.cell 2, h.blk.cell 3, h.blk.cell 4⟩, h.blk.frozen 0, h.blk.frozen 1, h.blk.frozen 2, h.blk.frozen 3, h.blk.frozen 4⟩
theorem Sep.five {u : World} {R base : Nat} {L : List RowI} (h : Sep u base L) (hR : R < base) (y0 y1 y2 y3 y4 : Value) : Sep (((((u.setCell ⟨R, 0, none⟩ y0).setCell ⟨R, 1, none⟩ y1).setCell ⟨R, 2, none⟩ y2).setCell ⟨R, 3, none⟩ y3).setCell ⟨R, 4, none⟩ y4) base L := by
  have c1 : Chg (fun j => j = R) u (u.setCell ⟨R, 0, none⟩ y0) := (Chg.refl (fun j => j = R) u).setCell (ad := ⟨R, 0, none⟩) (.inl rfl) y0
  have c2 := c1.setCell (ad := ⟨R, 1, none⟩) (.inl rfl) y1
  have c3 := c2.setCell (ad := ⟨R, 2, none⟩) (.inl rfl) y2
  have c4 := c3.setCell (ad := ⟨R, 3, none⟩) (.inl rfl) y3
  have c5 := c4.setCell (ad := ⟨R, 4, none⟩) (.inl rfl) y4
  exact h.chg c5 (fun j hj e => by omega)
theorem Start.str {zs : List Int} (hz : AllB zs) (h10 : 10 ≤ zs.length) : ∃ b : ByteArray, b = ⟨((zs.take 4).map fun z => UInt8.ofNat z.toNat).toArray⟩ ∧ (Start zs ↔ b = ⟨#[80, 76, 67, 49]⟩) := by
  refine ⟨_, rfl, ?_⟩
  match zs, h10 with
  | z0 :: z1 :: z2 :: z3 :: r, h10 =>
    have b0 := hz 0
    have b1 := hz 1
    have b2 := hz 2
    have b3 := hz 3
    simp only [List.getD_cons_zero, List.getD_cons_succ] at b0 b1 b2 b3
    have e : ∀ z : Int, 0 ≤ z → z ≤ 255 → ∀ n : Nat, n ≤ 255 → (UInt8.ofNat z.toNat = UInt8.ofNat n ↔ z = n) := fun z h0 h1 n hn => by
      constructor
      · intro e
        have e2 := congrArg UInt8.toNat e
        rw [UInt8.toNat_ofNat', UInt8.toNat_ofNat'] at e2
        omega
      · intro e
        rw [e]; rfl
    unfold Start
    simp only [List.take_succ_cons, List.take_zero, List.map_cons, List.map_nil]
    constructor
    · rintro ⟨_, h⟩
      simp only [List.cons.injEq, and_true] at h
      obtain ⟨rfl, rfl, rfl, rfl⟩ := h
      rfl
    · intro h
      refine ⟨h10, ?_⟩
      have h2 : [UInt8.ofNat z0.toNat, UInt8.ofNat z1.toNat, UInt8.ofNat z2.toNat, UInt8.ofNat z3.toNat] = [80, 76, 67, 49] := by
        have := congrArg (fun b : ByteArray => b.data.toList) h
        simpa using this
      simp only [List.cons.injEq, and_true] at h2
      rw [(e z0 b0.1 b0.2 80 (by omega)).1 h2.1, (e z1 b1.1 b1.2 76 (by omega)).1 h2.2.1, (e z2 b2.1 b2.2 67 (by omega)).1 h2.2.2.1, (e z3 b3.1 b3.2 49 (by omega)).1 h2.2.2.2]
      rfl
theorem num_field (b : Bool) (x : Int) (w : World) : (Instr.field 39 (.agg #[.bool b, .int .i64 x]) 1).run Tryz.prog w = .ok (.int .i64 x) w := by kernel_rfl
set_option maxHeartbeats 8000000 in
set_option maxRecDepth 100000 in
theorem specDecode_any (a : Option Addr) (L c : Nat) (zs : List Int) (w : World) (hL : L ≤ 1048576) (hc : L ≤ c) (h : Reads w (.slice a L c) L (zs.map (Value.int .u8))) (hz : AllB zs) :
    Calls Tryz.prog 4 #[.slice a L c] w (DecRes zs w) := by
  have hlen : zs.length = L := by simpa using h.1
  have H : Hid (Reads w (.slice a L c) L (zs.map (Value.int .u8))) := h
  have HZ : Hid (AllB zs) := hz
  have HLen : Hid (zs.length = L) := hlen
  have D0 : Hid (Dw w (w.alloc (.cells #[.int .i64 0, nilS, nilS, nilS, nilS] 30)) (.int .i64 0) nilS nilS nilS nilS) := ⟨Blk.new _ _ _, below_alloc _ _⟩
  go_enter Tryz.func4, Tryz.ntmps4
  go_upto_region 1 with fail
  refine wp_world (fun u => Hid (Dw w u (.int .i64 0) nilS nilS nilS nilS)) D0 ?_
  clear D0
  intro u0 D0
  by_cases h10 : L < 10
  · have h10' : (L : Int) < 10 := by omega
    obtain ⟨⟨q0, q1, q2, q3, q4⟩, f0, f1, f2, f3, f4⟩ := D0.out.cells
    go_wp2
    have HF : Hid (Dw w (((((u0.setCell ⟨w.heap.size, 0, none⟩ (.int .i64 1)).setCell ⟨w.heap.size, 1, none⟩ nilS).setCell ⟨w.heap.size, 2, none⟩ nilS).setCell ⟨w.heap.size, 3, none⟩ nilS).setCell ⟨w.heap.size, 4, none⟩ nilS) (.int .i64 1) nilS nilS nilS nilS) := D0.out.set _ _ _ _ _
    generalize ((((u0.setCell ⟨w.heap.size, 0, none⟩ (.int .i64 1)).setCell ⟨w.heap.size, 1, none⟩ nilS).setCell ⟨w.heap.size, 2, none⟩ nilS).setCell ⟨w.heap.size, 3, none⟩ nilS).setCell ⟨w.heap.size, 4, none⟩ nilS = WF at HF ⊢
    obtain ⟨⟨r0, r1, r2, r3, r4⟩, -⟩ := HF.out.cells
    exact bodyPost_ret (v := .agg #[.int .i64 1, nilS, nilS, nilS, nilS]) (by simp [results, Tryz.results4, go_sem, r0, r1, r2, r3, r4]) rfl ⟨1, ⟨nilS, nilS, nilS, nilS⟩, noP, rfl, rdp_nil _, small_nil, (.inl ⟨fun hs => by have := hs.1; have := HLen.out; omega, rfl, rfl⟩), HF.out.bel⟩
  · obtain ⟨g, o, hg⟩ : ∃ g o, a = some ⟨g, o, none⟩ := by
      rcases h.2 with ⟨e, _⟩ | ⟨g, o, c', e, _⟩
      · omega
      · cases e; exact ⟨g, o, rfl⟩
    subst hg
    obtain ⟨str, hstr, hiff⟩ := Start.str hz (by omega)
    have HS : Hid (Start zs ↔ str = ⟨#[80, 76, 67, 49]⟩) := hiff
    have hcv : (convert 22 9 (.slice (some ⟨g, o, none⟩) 4 c)).run Tryz.prog u0 = .ok (.string str) u0 := by
      have h4 : ((zs.take 4).map fun z => UInt8.ofNat z.toNat).length = 4 := by simp; omega
      have := run_convert_bytes_back (P := Tryz.prog) u0 22 9 5 ⟨g, o, none⟩ c ((zs.take 4).map fun z => UInt8.ofNat z.toNat) Tryz.underlying22 Tryz.underlying5 Tryz.underlying9 (fun j hj => by
        have hj4 : j < 4 := by omega
        have hr := (h.keep D0.out.bel).2
        rcases hr with ⟨e, _⟩ | ⟨g', o', c', e, hcell⟩
        · omega
        · cases e
          have hjl : j < zs.length := by omega
          have hb := hz j
          rw [List.getD_eq_getElem?_getD, List.getElem?_eq_getElem hjl] at hb
          simp only [Option.getD_some] at hb
          have := hcell j (.int .u8 zs[j]) (by rw [List.getElem?_map, List.getElem?_eq_getElem hjl]; rfl)
          rw [add_at, this]
          simp only [List.getElem_map, List.getElem_take, UInt8.toNat_ofNat']
          congr 2
          omega)
      rw [h4, ← hstr] at this
      exact this
    clear hstr hiff h hz hlen
    have h10' : ¬ (L : Int) < 10 := by omega
    by_cases hst : str = ⟨#[80, 76, 67, 49]⟩
    · subst hst
      have HST : Hid (Start zs) := HS.out.2 rfl
      clear HS
      have hc4 : (4 : Int) ≤ (c : Int) := by omega
      have hL4 : ((L - 4 : Nat) : Int) = (L : Int) - 4 := by omega
      have hcL : (L : Int) - 4 ≤ (c : Int) := by omega
      have hL0 : (0 : Int) ≤ (L : Int) - 4 := by omega
      have htn : ((L : Int) - 4).toNat = L - 4 := by omega
      have HRB : Hid (∀ u, Below w.heap.size w u → Reads u (.slice (some ⟨g, o, none⟩) (L - 4) c) (L - 4) ((bodyZ zs).map (Value.int .u8))) := fun u hu => by
        have := (H.out.keep hu).front (m := L - 4) (by omega) (by omega)
        rw [bodyZ, HLen.out]
        exact this
      have HZB : Hid (AllB (bodyZ zs)) := HZ.out.take _
      have HG : Hid (∀ u, Below w.heap.size w u → Calls Tryz.prog 12 #[.slice (some ⟨g, o, none⟩) L c, .int .i64 ((L : Int) - 4), .int .i64 4] u fun e u' => e = .returned (.agg #[.bool true, .int .i64 (wrap64 (getAcc zs (L - 4) 4))]) ∧ Below u.heap.size u u') := fun u hu => by
        have := SGetNumber_in (.slice (some ⟨g, o, none⟩) L c) L zs (L - 4) 4 u hL (H.out.keep hu) (by omega) (by omega) (by omega)
        rw [hL4] at this
        exact this
      have HC : Hid (∀ u, Below w.heap.size w u → Calls Tryz.prog 13 #[.slice (some ⟨g, o, none⟩) (L - 4) c] u fun e u' => e = .returned (.int .u32 (toI (~~~(crcTo (bodyZ zs) (L - 4))))) ∧ u' = u) := fun u hu => SCrc_any _ (L - 4) (bodyZ zs) u (by omega) (HRB.out u hu) HZB.out
      have hcw : IntKind.i64.wrap (toI (~~~(crcTo (bodyZ zs) (L - 4)))) = toI (~~~(crcTo (bodyZ zs) (L - 4))) := by
        have := toI_bd (~~~(crcTo (bodyZ zs) (L - 4)))
        exact IntWalk.i64_in _ ⟨by omega, by omega⟩
      have H4 : Hid (Sum4 zs ↔ wrap64 (getAcc zs (L - 4) 4) = toI (~~~(crcTo (bodyZ zs) (L - 4)))) := by unfold Sum4; rw [HLen.out]; exact Iff.rfl
      generalize wrap64 (getAcc zs (L - 4) 4) = x4 at *
      generalize toI (~~~(crcTo (bodyZ zs) (L - 4))) = s4 at *
      go_upto_region 4 with fail
      go_cut [28] (fun s wx => ∃ z : Value, z = s ∧ Hid (z = .bool (!decide (x4 = s4))) ∧ Hid (Dw w wx (.int .i64 0) nilS nilS nilS nilS))
      case first =>
        have inst := Grown.some u0
        have hfd := fun u : World => num_field true x4 u
        refine wp_region_grown (by kernel_rfl) (by kernel_rfl) ?_
        repeat (go_big_quiet_step (fail))
        go_big_quiet_step ((go_at_call 12; rename_i n; exact (HG.out n.u (below_on D0.out.bel (Nat.le_refl _) n.h)).mono fun e w'' h => ⟨h.1, ⟨⟨w'', below_on n.h (Nat.le_refl _) h.2⟩, rfl⟩⟩))
        repeat (go_big_quiet_step (fail))
        go_big_quiet_step ((go_at_call 13; rename_i n; exact (HC.out n.u (below_on D0.out.bel (Nat.le_refl _) n.h)).mono fun e w'' h => ⟨h.1, ⟨n, h.2⟩⟩))
        repeat (go_big_quiet_step (fail))
        refine wpQuiet_nil ?_
        rintro w'' ⟨n, rfl⟩
        have D1 : Hid (Dw w n.u (.int .i64 0) nilS nilS nilS nilS) := D0.out.keep n.h
        go_wp2_with fail
        go_meet
        exact ⟨_, rfl, (by show _ = _; by_cases h : x4 = s4 <;> simp [h]), D1⟩
      case rest =>
      obtain ⟨z, hz4, HZ4, D1⟩ := hcut
      subst hz4
      clear D0 HG HC hcw hcv
      by_cases h45 : x4 = s4
      · have HS4 : Hid (Sum4 zs) := H4.out.2 h45
        obtain rfl : z = .bool false := by rw [HZ4.out]; simp [h45]
        clear H4 HZ4 h45
        go_wp2_with fail
        refine (SGetNumber_in (.slice (some ⟨g, o, none⟩) L c) L zs 4 2 wc hL (H.out.keep D1.out.bel) (by omega) (by omega) (by omega)).mono ?_
        rintro e u1 ⟨rfl, hb⟩
        have D2 : Hid (Dw w u1 (.int .i64 0) nilS nilS nilS nilS) := D1.out.keep hb
        have HV : Hid (Vers zs ↔ wrap64 (getAcc zs 4 2) = 1) := Iff.rfl
        clear hb D1
        generalize wrap64 (getAcc zs 4 2) = x2 at HV ⊢
        have hfd := num_field true x2 u1
        by_cases hv : x2 = 1
        · subst hv
          have HVS : Hid (Vers zs) := HV.out.2 rfl
          clear HV
          go_upto_region 9 with fail
          have HI : Hid (InAt (u1.alloc (.cells #[.slice (some ⟨g, o, none⟩) (L - 4) c, .int .i64 6, .bool false] 45)) w.heap.size u1.heap.size (L - 4) (some ⟨g, o, none⟩) c (bodyZ zs) 6 false ∧ Dw w (u1.alloc (.cells #[.slice (some ⟨g, o, none⟩) (L - 4) c, .int .i64 6, .bool false] 45)) (.int .i64 0) nilS nilS nilS nilS ∧ w.heap.size < u1.heap.size) :=
            ⟨⟨Blk.new _ _ _, fun u hu => HRB.out u ((D2.out.keep (below_alloc _ _)).bel.trans hu), by omega, by omega, D2.out.bel.size, HZB.out⟩, D2.out.keep (below_alloc _ _), D2.out.blk.lt⟩
          go_wp2_with fail
          refine (l3GetProgram_any w.heap.size u1.heap.size (L - 4) (some ⟨g, o, none⟩) c (bodyZ zs) 6 false _ HI.out.1).mono ?_
          rintro e u2 ⟨v, F, cs, G, ts, k', bad', rfl, hsep, hrd, hgot⟩
          obtain ⟨a1, d1, a2, d2, a3, d3, a4, d4, rfl⟩ := pItems_slices hsep
          have HD : Hid (Dw w u2 (.int .i64 0) nilS nilS nilS nilS) := ⟨hgot.chg.blk HI.out.2.1.blk (fun e => by have := HI.out.2.2; omega), HI.out.2.1.bel.trans (hgot.below HI.out.1)⟩
          have HP : Hid (Sep u2 (u1.heap.size + 1) (pItems ⟨.slice a1 F.length d1, .slice a2 cs.length d2, .slice a3 G.length d3, .slice a4 ts.length d4⟩ F cs G ts [])) := by have := hsep; rw [World.size_alloc] at this; exact this
          have HG2 : Hid (InAt u2 w.heap.size u1.heap.size (L - 4) (some ⟨g, o, none⟩) c (bodyZ zs) k' bad') := hgot.at_
          have HRd : Hid (Reads' (progR (bodyZ zs)) 6 false ⟨F.map Prod.fst, cs, G.map Prod.fst, ts⟩ k' bad') := hrd
          have hRI := HI.out.2.2
          clear hsep hrd hgot HI D2 hfd
          go_upto_region 10 with fail
          refine wp_world (fun u => Hid (Dw w u (.int .i64 0) nilS nilS nilS nilS ∧ Sep u (u1.heap.size + 1) (pItems ⟨.slice a1 F.length d1, .slice a2 cs.length d2, .slice a3 G.length d3, .slice a4 ts.length d4⟩ F cs G ts []) ∧ InAt u w.heap.size u1.heap.size (L - 4) (some ⟨g, o, none⟩) c (bodyZ zs) k' bad' ∧ Blk u u2.heap.size #[.slice a1 F.length d1, .slice a2 cs.length d2, .slice a3 G.length d3, .slice a4 ts.length d4] 28)) ⟨HD.out.keep (below_alloc _ _), HP.out.keep (below_alloc _ _), HG2.out.keep (below_alloc _ _), Blk.new _ _ _⟩ ?_
          clear HD HP HG2
          generalize u2.heap.size = Y
          intro u3 H3
          generalize u1.heap.size = I at *
          obtain ⟨i0, i1, i2⟩ := three_cells H3.out.2.2.1.blk
          obtain ⟨⟨q0, q1, q2, q3, q4⟩, f0, f1, f2, f3, f4⟩ := H3.out.1.cells
          have y0 : u3.cell? ⟨Y, 0, none⟩ = some (.slice a1 F.length d1) := H3.out.2.2.2.cell 0
          have y1 : u3.cell? ⟨Y, 1, none⟩ = some (.slice a2 cs.length d2) := H3.out.2.2.2.cell 1
          have y2 : u3.cell? ⟨Y, 2, none⟩ = some (.slice a3 G.length d3) := H3.out.2.2.2.cell 2
          have y3 : u3.cell? ⟨Y, 3, none⟩ = some (.slice a4 ts.length d4) := H3.out.2.2.2.cell 3
          have HD3 : Hid (Dw w u3 (.int .i64 0) nilS nilS nilS nilS) := H3.out.1
          cases bad'
          · have HPR : Hid (progR (bodyZ zs) 6 = some (⟨F.map Prod.fst, cs, G.map Prod.fst, ts⟩, k')) := by
              rcases HRd.out with ⟨_, _, h⟩ | ⟨h, _⟩
              · exact h
              · cases h
            have HSW := Gives.prog HZB.out _ _ _ HPR.out
            by_cases hk : k' = L - 4
            · subst hk
              go_wp2_with fail
              refine (specFault_any ⟨.slice a1 F.length d1, .slice a2 cs.length d2, .slice a3 G.length d3, .slice a4 ts.length d4⟩ ⟨F.map Prod.fst, cs, G.map Prod.fst, ts⟩ u3 HSW.1 HSW.2 (H3.out.2.1.ownP.rd)).mono ?_
              rintro e u4 ⟨⟨n, rfl, hf⟩, hb⟩
              have HFI : Hid (FaultIs ⟨F.map Prod.fst, cs, G.map Prod.fst, ts⟩ n) := hf
              have HD4 : Hid (Dw w u4 (.int .i64 0) nilS nilS nilS nilS) := HD3.out.keep hb
              have HP4 : Hid (Sep u4 (I + 1) (pItems ⟨.slice a1 F.length d1, .slice a2 cs.length d2, .slice a3 G.length d3, .slice a4 ts.length d4⟩ F cs G ts [])) := H3.out.2.1.keep hb
              have HB4 : Hid (Blk u4 Y #[.slice a1 F.length d1, .slice a2 cs.length d2, .slice a3 G.length d3, .slice a4 ts.length d4] 28) := H3.out.2.2.2.keep hb
              have HSM : Hid (MP.small ⟨F.map Prod.fst, cs, G.map Prod.fst, ts⟩) := HSW.1
              clear hf hb H3 HD3 HSW q0 q1 q2 q3 q4 f0 f1 f2 f3 f4 y0 y1 y2 y3 i0 i1 i2
              obtain ⟨⟨q0, q1, q2, q3, q4⟩, f0, f1, f2, f3, f4⟩ := HD4.out.cells
              have y0 : u4.cell? ⟨Y, 0, none⟩ = some (.slice a1 F.length d1) := HB4.out.cell 0
              have y1 : u4.cell? ⟨Y, 1, none⟩ = some (.slice a2 cs.length d2) := HB4.out.cell 1
              have y2 : u4.cell? ⟨Y, 2, none⟩ = some (.slice a3 G.length d3) := HB4.out.cell 2
              have y3 : u4.cell? ⟨Y, 3, none⟩ = some (.slice a4 ts.length d4) := HB4.out.cell 3
              by_cases hn : n = 0
              · subst hn
                go_wp2
                have HF : Hid (Dw w (((((u4.setCell ⟨w.heap.size, 0, none⟩ (.int .i64 0)).setCell ⟨w.heap.size, 1, none⟩ (.slice a1 F.length d1)).setCell ⟨w.heap.size, 2, none⟩ (.slice a2 cs.length d2)).setCell ⟨w.heap.size, 3, none⟩ (.slice a3 G.length d3)).setCell ⟨w.heap.size, 4, none⟩ (.slice a4 ts.length d4)) (.int .i64 0) (.slice a1 F.length d1) (.slice a2 cs.length d2) (.slice a3 G.length d3) (.slice a4 ts.length d4)) := HD4.out.set (.int .i64 0) (.slice a1 F.length d1) (.slice a2 cs.length d2) (.slice a3 G.length d3) (.slice a4 ts.length d4)
                have HPF : Hid (Sep (((((u4.setCell ⟨w.heap.size, 0, none⟩ (.int .i64 0)).setCell ⟨w.heap.size, 1, none⟩ (.slice a1 F.length d1)).setCell ⟨w.heap.size, 2, none⟩ (.slice a2 cs.length d2)).setCell ⟨w.heap.size, 3, none⟩ (.slice a3 G.length d3)).setCell ⟨w.heap.size, 4, none⟩ (.slice a4 ts.length d4)) (I + 1) (pItems ⟨.slice a1 F.length d1, .slice a2 cs.length d2, .slice a3 G.length d3, .slice a4 ts.length d4⟩ F cs G ts [])) := HP4.out.five (R := w.heap.size) (by omega) (.int .i64 0) (.slice a1 F.length d1) (.slice a2 cs.length d2) (.slice a3 G.length d3) (.slice a4 ts.length d4)
                generalize ((((u4.setCell ⟨w.heap.size, 0, none⟩ (.int .i64 0)).setCell ⟨w.heap.size, 1, none⟩ (.slice a1 F.length d1)).setCell ⟨w.heap.size, 2, none⟩ (.slice a2 cs.length d2)).setCell ⟨w.heap.size, 3, none⟩ (.slice a3 G.length d3)).setCell ⟨w.heap.size, 4, none⟩ (.slice a4 ts.length d4) = WF at HF HPF ⊢
                obtain ⟨⟨r0, r1, r2, r3, r4⟩, -⟩ := HF.out.cells
                exact bodyPost_ret (v := .agg #[.int .i64 0, .slice a1 F.length d1, .slice a2 cs.length d2, .slice a3 G.length d3, .slice a4 ts.length d4]) (by simp [results, Tryz.results4, go_sem, r0, r1, r2, r3, r4]) rfl ⟨0, ⟨.slice a1 F.length d1, .slice a2 cs.length d2, .slice a3 G.length d3, .slice a4 ts.length d4⟩, ⟨F.map Prod.fst, cs, G.map Prod.fst, ts⟩, rfl, HPF.out.ownP.rd, HSM.out, .inr (.inr (.inr (.inr (.inr (.inr ⟨HST.out, HS4.out, HVS.out, by rw [HLen.out]; exact HPR.out, HFI.out, rfl⟩))))), HF.out.bel⟩
              · have hn2 : (n != 0) = true := by simpa using hn
                go_wp2
                have HF : Hid (Dw w (((((u4.setCell ⟨w.heap.size, 0, none⟩ (.int .i64 6)).setCell ⟨w.heap.size, 1, none⟩ nilS).setCell ⟨w.heap.size, 2, none⟩ nilS).setCell ⟨w.heap.size, 3, none⟩ nilS).setCell ⟨w.heap.size, 4, none⟩ nilS) (.int .i64 6) nilS nilS nilS nilS) := HD4.out.set _ _ _ _ _
                generalize ((((u4.setCell ⟨w.heap.size, 0, none⟩ (.int .i64 6)).setCell ⟨w.heap.size, 1, none⟩ nilS).setCell ⟨w.heap.size, 2, none⟩ nilS).setCell ⟨w.heap.size, 3, none⟩ nilS).setCell ⟨w.heap.size, 4, none⟩ nilS = WF at HF ⊢
                obtain ⟨⟨r0, r1, r2, r3, r4⟩, -⟩ := HF.out.cells
                exact bodyPost_ret (v := .agg #[.int .i64 6, nilS, nilS, nilS, nilS]) (by simp [results, Tryz.results4, go_sem, r0, r1, r2, r3, r4]) rfl ⟨6, ⟨nilS, nilS, nilS, nilS⟩, noP, rfl, rdp_nil _, small_nil, (.inr (.inr (.inr (.inr (.inr (.inl ⟨_, n, HST.out, HS4.out, HVS.out, by rw [HLen.out]; exact HPR.out, HFI.out, hn, rfl, rfl⟩)))))), HF.out.bel⟩
            · have hk2 : ¬ (k' : Int) = (L : Int) - 4 := by omega
              have hk3 : ((k' : Int) != (L : Int) - 4) = true := by simpa using hk2
              go_wp2
              have HF : Hid (Dw w (((((u3.setCell ⟨w.heap.size, 0, none⟩ (.int .i64 5)).setCell ⟨w.heap.size, 1, none⟩ nilS).setCell ⟨w.heap.size, 2, none⟩ nilS).setCell ⟨w.heap.size, 3, none⟩ nilS).setCell ⟨w.heap.size, 4, none⟩ nilS) (.int .i64 5) nilS nilS nilS nilS) := HD3.out.set _ _ _ _ _
              generalize ((((u3.setCell ⟨w.heap.size, 0, none⟩ (.int .i64 5)).setCell ⟨w.heap.size, 1, none⟩ nilS).setCell ⟨w.heap.size, 2, none⟩ nilS).setCell ⟨w.heap.size, 3, none⟩ nilS).setCell ⟨w.heap.size, 4, none⟩ nilS = WF at HF ⊢
              obtain ⟨⟨r0, r1, r2, r3, r4⟩, -⟩ := HF.out.cells
              exact bodyPost_ret (v := .agg #[.int .i64 5, nilS, nilS, nilS, nilS]) (by simp [results, Tryz.results4, go_sem, r0, r1, r2, r3, r4]) rfl ⟨5, ⟨nilS, nilS, nilS, nilS⟩, noP, rfl, rdp_nil _, small_nil, (.inr (.inr (.inr (.inr (.inl ⟨_, k', HST.out, HS4.out, HVS.out, HPR.out, by rw [HLen.out]; exact hk, rfl, rfl⟩))))), HF.out.bel⟩
          · have HPR : Hid (progR (bodyZ zs) 6 = none) := by
              rcases HRd.out with ⟨_, h, _⟩ | ⟨_, h | h⟩
              · cases h
              · cases h
              · exact h
            go_wp2
            have HF : Hid (Dw w (((((u3.setCell ⟨w.heap.size, 0, none⟩ (.int .i64 4)).setCell ⟨w.heap.size, 1, none⟩ nilS).setCell ⟨w.heap.size, 2, none⟩ nilS).setCell ⟨w.heap.size, 3, none⟩ nilS).setCell ⟨w.heap.size, 4, none⟩ nilS) (.int .i64 4) nilS nilS nilS nilS) := HD3.out.set _ _ _ _ _
            generalize ((((u3.setCell ⟨w.heap.size, 0, none⟩ (.int .i64 4)).setCell ⟨w.heap.size, 1, none⟩ nilS).setCell ⟨w.heap.size, 2, none⟩ nilS).setCell ⟨w.heap.size, 3, none⟩ nilS).setCell ⟨w.heap.size, 4, none⟩ nilS = WF at HF ⊢
            obtain ⟨⟨r0, r1, r2, r3, r4⟩, -⟩ := HF.out.cells
            exact bodyPost_ret (v := .agg #[.int .i64 4, nilS, nilS, nilS, nilS]) (by simp [results, Tryz.results4, go_sem, r0, r1, r2, r3, r4]) rfl ⟨4, ⟨nilS, nilS, nilS, nilS⟩, noP, rfl, rdp_nil _, small_nil, (.inr (.inr (.inr (.inl ⟨HST.out, HS4.out, HVS.out, HPR.out, rfl, rfl⟩)))), HF.out.bel⟩
        · obtain ⟨⟨q0, q1, q2, q3, q4⟩, f0, f1, f2, f3, f4⟩ := D2.out.cells
          go_wp2
          have HF : Hid (Dw w (((((u1.setCell ⟨w.heap.size, 0, none⟩ (.int .i64 3)).setCell ⟨w.heap.size, 1, none⟩ nilS).setCell ⟨w.heap.size, 2, none⟩ nilS).setCell ⟨w.heap.size, 3, none⟩ nilS).setCell ⟨w.heap.size, 4, none⟩ nilS) (.int .i64 3) nilS nilS nilS nilS) := D2.out.set _ _ _ _ _
          generalize ((((u1.setCell ⟨w.heap.size, 0, none⟩ (.int .i64 3)).setCell ⟨w.heap.size, 1, none⟩ nilS).setCell ⟨w.heap.size, 2, none⟩ nilS).setCell ⟨w.heap.size, 3, none⟩ nilS).setCell ⟨w.heap.size, 4, none⟩ nilS = WF at HF ⊢
          obtain ⟨⟨r0, r1, r2, r3, r4⟩, -⟩ := HF.out.cells
          exact bodyPost_ret (v := .agg #[.int .i64 3, nilS, nilS, nilS, nilS]) (by simp [results, Tryz.results4, go_sem, r0, r1, r2, r3, r4]) rfl ⟨3, ⟨nilS, nilS, nilS, nilS⟩, noP, rfl, rdp_nil _, small_nil, (.inr (.inr (.inl ⟨HST.out, HS4.out, fun h => hv (HV.out.1 h), rfl, rfl⟩))), HF.out.bel⟩
      · obtain rfl : z = .bool true := by rw [HZ4.out]; simp [h45]
        have H45 : Hid (¬ x4 = s4) := h45
        clear HZ4 h45
        obtain ⟨⟨q0, q1, q2, q3, q4⟩, f0, f1, f2, f3, f4⟩ := D1.out.cells
        go_wp2
        have HF : Hid (Dw w (((((wc.setCell ⟨w.heap.size, 0, none⟩ (.int .i64 2)).setCell ⟨w.heap.size, 1, none⟩ nilS).setCell ⟨w.heap.size, 2, none⟩ nilS).setCell ⟨w.heap.size, 3, none⟩ nilS).setCell ⟨w.heap.size, 4, none⟩ nilS) (.int .i64 2) nilS nilS nilS nilS) := D1.out.set _ _ _ _ _
        generalize ((((wc.setCell ⟨w.heap.size, 0, none⟩ (.int .i64 2)).setCell ⟨w.heap.size, 1, none⟩ nilS).setCell ⟨w.heap.size, 2, none⟩ nilS).setCell ⟨w.heap.size, 3, none⟩ nilS).setCell ⟨w.heap.size, 4, none⟩ nilS = WF at HF ⊢
        obtain ⟨⟨r0, r1, r2, r3, r4⟩, -⟩ := HF.out.cells
        exact bodyPost_ret (v := .agg #[.int .i64 2, nilS, nilS, nilS, nilS]) (by simp [results, Tryz.results4, go_sem, r0, r1, r2, r3, r4]) rfl ⟨2, ⟨nilS, nilS, nilS, nilS⟩, noP, rfl, rdp_nil _, small_nil, (.inr (.inl ⟨HST.out, fun h => H45.out (H4.out.1 h), rfl, rfl⟩)), HF.out.bel⟩
    · have hc4 : (4 : Int) ≤ (c : Int) := by omega
      have hnl : (str.toList == [80, 76, 67, 49]) = false := by
        rw [beq_eq_false_iff_ne]
        intro e
        rw [ByteArray.toList_eq] at e
        exact hst (ByteArray.ext (Array.toList_inj.1 e))
      obtain ⟨⟨q0, q1, q2, q3, q4⟩, f0, f1, f2, f3, f4⟩ := D0.out.cells
      go_wp2
      have HF : Hid (Dw w (((((u0.setCell ⟨w.heap.size, 0, none⟩ (.int .i64 1)).setCell ⟨w.heap.size, 1, none⟩ nilS).setCell ⟨w.heap.size, 2, none⟩ nilS).setCell ⟨w.heap.size, 3, none⟩ nilS).setCell ⟨w.heap.size, 4, none⟩ nilS) (.int .i64 1) nilS nilS nilS nilS) := D0.out.set _ _ _ _ _
      generalize ((((u0.setCell ⟨w.heap.size, 0, none⟩ (.int .i64 1)).setCell ⟨w.heap.size, 1, none⟩ nilS).setCell ⟨w.heap.size, 2, none⟩ nilS).setCell ⟨w.heap.size, 3, none⟩ nilS).setCell ⟨w.heap.size, 4, none⟩ nilS = WF at HF ⊢
      obtain ⟨⟨r0, r1, r2, r3, r4⟩, -⟩ := HF.out.cells
      exact bodyPost_ret (v := .agg #[.int .i64 1, nilS, nilS, nilS, nilS]) (by simp [results, Tryz.results4, go_sem, r0, r1, r2, r3, r4]) rfl ⟨1, ⟨nilS, nilS, nilS, nilS⟩, noP, rfl, rdp_nil _, small_nil, (.inl ⟨fun hs => hst (HS.out.1 hs), rfl, rfl⟩), HF.out.bel⟩
end Go.Proofs.YtnemieeeappgnaaGreatDoor
