import Derived.Test.YtnemieeeappgnaaGreatDoorDc44
import Derived.Tactics2
import Derived.Defers
import Derived.Recover
import Derived.Laws.Pointers
namespace Go.Proofs.YtnemieeeappgnaaGreatDoor
open Go.ChangeShapes Go.WideShapes Go.ChangeAt Go.RowKit
set_option linter.unusedVariables false
theorem ta_fault (n : Int) (w : World) : (Instr.typeAssert (.iface 74 (.int .i64 n)) 20 74 false).run Tryz.prog w = .ok (.int .i64 n) w := by kernel_rfl
set_option maxRecDepth 100000 in
theorem catch_panicking (p : Addr) (x : Value) (n : Int) (older : List PanicEntry) (w : World) (hc : w.cell? p = some x) (hz : w.frozen? p = false) :
    CallsD Tryz.prog 29 #[.pointer (some p)] (.panicking ({ v := .iface 74 (.int .i64 n), recovered := false } :: older)) w fun e u' w' =>
      e = .returned (.tuple #[]) ∧ u' = .panicking ({ v := .iface 74 (.int .i64 n), recovered := true } :: older) ∧ w' = w.setCell p (.iface 74 (.int .i64 n)) := by
  refine callsD_of_wpS Tryz.func29 rfl fun c₀ cs hu => ?_
  apply wpS_seq
  apply wpS_region
  simp [wpOpsS, go_sem, recoverD, hu, Tryz.ntmps29, Exit.thenS]
  refine wpS_of_wp ?_
  show Code.wp Tryz.prog _ _ { tmps := #[.pointer (some p), .iface 74 (.int .i64 n), .iface 74 (.int .i64 n), undef, undef, undef, undef, undef], defers := [] } w
  have hta := ta_fault n w
  go_wp2
  simp [bodyPostS, results, Tryz.results29]
set_option maxRecDepth 100000 in
theorem catch_idle (p : Addr) (w : World) :
    CallsD Tryz.prog 29 #[.pointer (some p)] .returning w fun e u' w' => e = .returned (.tuple #[]) ∧ u' = .returning ∧ w' = w := by
  refine callsD_of_wpS Tryz.func29 rfl fun c₀ cs hu => ?_
  apply wpS_seq
  apply wpS_region
  simp [wpOpsS, go_sem, recoverD, hu, Tryz.ntmps29, Exit.thenS]
  refine wpS_of_wp ?_
  show Code.wp Tryz.prog _ _ { tmps := #[.pointer (some p), .nilIface, .nilIface, undef, undef, undef, undef, undef], defers := [] } w
  go_wp2
  cases c₀
  simp_all [bodyPostS, results, Tryz.results29]
theorem Sep.low {u : World} {base : Nat} {L : List RowI} (h : Sep u base L) (g i : Nat) (hl : g < base) (y : Value) : Sep (u.setCell ⟨g, i, none⟩ y) base L := h.chg ((Chg.refl (fun j => j = g) u).setCell (ad := ⟨g, i, none⟩) (.inl rfl) y) (fun j hj e => by omega)
theorem sep_nil (w : World) (b : Nat) : Sep w b (pItems (⟨.slice none 0 0, .slice none 0 0, .slice none 0 0, .slice none 0 0⟩ : VP) [] [] [] [] []) := by
  refine ⟨fun r hr => ?_, ?_⟩
  · simp [pItems, rItems, fItems] at hr
    rcases hr with rfl | rfl | rfl | rfl <;> exact World.ownsRow_nil _ _ _ _
  · simp [pItems, rItems, fItems, Off, rHead, cRow, fHead, tRow, Value.ownBlock]
/-- What readProgram tells: a program and no error, or an error; the program is then any. -/
def RpRes (zs : List Int) (w : World) (e : Ending) (w' : World) : Prop := ∃ (c : Int) (v : VP) (F : List (List Int × Value)) (cs : List MC) (G : List (MF × VF)) (ts : List MT), e = .returned (.tuple #[.agg #[v.r, v.k, v.f, v.t], errOf c]) ∧ DecIs zs c (if c = 0 then ⟨F.map Prod.fst, cs, G.map Prod.fst, ts⟩ else noP) ∧ Sep w' w.heap.size (pItems v F cs G ts []) ∧ MP.small ⟨F.map Prod.fst, cs, G.map Prod.fst, ts⟩ ∧ Below w.heap.size w w'
set_option maxHeartbeats 8000000 in
set_option maxRecDepth 100000 in
theorem readProgram_any (a : Option Addr) (L c : Nat) (zs : List Int) (w : World) (hL : L ≤ 1048576) (hc : L ≤ c) (ht : TabAt w) (h : Reads w (.slice a L c) L (zs.map (Value.int .u8))) (hz : AllB zs) :
    Calls Tryz.prog 16 #[.slice a L c] w (RpRes zs w) := by
  have hmf : ∀ (fn : Fn) (first cap : Array Value) (w : World), (Instr.makeFunc fn first cap).run Tryz.prog w = .ok (.func fn first cap) w := fun _ _ _ _ => rfl
  have htl := block_lt_of_cell (ht 0 (by omega))
  have H : Hid (Reads w (.slice a L c) L (zs.map (Value.int .u8)) ∧ AllB zs ∧ TabAt w) := ⟨h, hz, ht⟩
  clear h hz ht
  go_enter_defers Tryz.func16, Tryz.ntmps16
  go_wp2_with fail
  have b1 := below_alloc w (.cells #[.slice none 0 0, .slice none 0 0, .slice none 0 0, .slice none 0 0] 28)
  have b2 := below_alloc (w.alloc (.cells #[.slice none 0 0, .slice none 0 0, .slice none 0 0, .slice none 0 0] 28)) (.cells #[.nilIface] 49)
  have b3 := below_alloc ((w.alloc (.cells #[.slice none 0 0, .slice none 0 0, .slice none 0 0, .slice none 0 0] 28)).alloc (.cells #[.nilIface] 49)) (.cells #[.slice a L c, .int .i64 0] 76)
  have k1 := Blk.new w #[.slice none 0 0, .slice none 0 0, .slice none 0 0, .slice none 0 0] 28
  have k2 := Blk.new (w.alloc (.cells #[.slice none 0 0, .slice none 0 0, .slice none 0 0, .slice none 0 0] 28)) #[.nilIface] 49
  have k3 := Blk.new ((w.alloc (.cells #[.slice none 0 0, .slice none 0 0, .slice none 0 0, .slice none 0 0] 28)).alloc (.cells #[.nilIface] 49)) #[.slice a L c, .int .i64 0] 76
  rw [World.size_alloc] at k2
  rw [World.size_alloc, World.size_alloc] at k3
  have bU : Below w.heap.size w (((w.alloc (.cells #[.slice none 0 0, .slice none 0 0, .slice none 0 0, .slice none 0 0] 28)).alloc (.cells #[.nilIface] 49)).alloc (.cells #[.slice a L c, .int .i64 0] 76)) := below_on (below_on b1 (Nat.le_refl _) b2) (Nat.le_refl _) b3
  have HU : Hid (InR (((w.alloc (.cells #[.slice none 0 0, .slice none 0 0, .slice none 0 0, .slice none 0 0] 28)).alloc (.cells #[.nilIface] 49)).alloc (.cells #[.slice a L c, .int .i64 0] 76)) w.heap.size (w.heap.size + 1 + 1) L a c zs 0 ∧ Blk (((w.alloc (.cells #[.slice none 0 0, .slice none 0 0, .slice none 0 0, .slice none 0 0] 28)).alloc (.cells #[.nilIface] 49)).alloc (.cells #[.slice a L c, .int .i64 0] 76)) w.heap.size #[.slice none 0 0, .slice none 0 0, .slice none 0 0, .slice none 0 0] 28 ∧ Blk (((w.alloc (.cells #[.slice none 0 0, .slice none 0 0, .slice none 0 0, .slice none 0 0] 28)).alloc (.cells #[.nilIface] 49)).alloc (.cells #[.slice a L c, .int .i64 0] 76)) (w.heap.size + 1) #[.nilIface] 49 ∧ Below w.heap.size w (((w.alloc (.cells #[.slice none 0 0, .slice none 0 0, .slice none 0 0, .slice none 0 0] 28)).alloc (.cells #[.nilIface] 49)).alloc (.cells #[.slice a L c, .int .i64 0] 76)) ∧ TabAt (((w.alloc (.cells #[.slice none 0 0, .slice none 0 0, .slice none 0 0, .slice none 0 0] 28)).alloc (.cells #[.nilIface] 49)).alloc (.cells #[.slice a L c, .int .i64 0] 76))) :=
    ⟨⟨k3, fun u hu => H.out.1.keep (bU.trans hu), hL, by omega, by omega, H.out.2.1, hc⟩, (k1.keep b2).keep b3, k2.keep b3, bU, fun j hj => by rw [bU.cell (block_lt_of_cell (H.out.2.2 j hj))]; exact H.out.2.2 j hj⟩
  clear b1 b2 b3 k1 k2 k3 bU
  refine (program_any w.heap.size (w.heap.size + 1 + 1) L a c zs _ HU.out.2.2.2.2 (by simpa using htl) HU.out.1).mono ?_
  generalize (((w.alloc (.cells #[.slice none 0 0, .slice none 0 0, .slice none 0 0, .slice none 0 0] 28)).alloc (.cells #[.nilIface] 49)).alloc (.cells #[.slice a L c, .int .i64 0] 76)) = U at HU ⊢
  have hUs : w.heap.size + 1 < U.heap.size := HU.out.2.2.1.lt
  rintro e u1 (⟨cd, rfl, hcd, hdec, hch⟩ | ⟨v, F, cs, G, ts, rfl, hsep, hsm, hdec, hch⟩)
  · have HK : Hid (Blk u1 w.heap.size #[.slice none 0 0, .slice none 0 0, .slice none 0 0, .slice none 0 0] 28 ∧ Blk u1 (w.heap.size + 1) #[.nilIface] 49 ∧ Below w.heap.size w u1) := ⟨hch.blk HU.out.2.1 (by omega), hch.blk HU.out.2.2.1 (by omega), HU.out.2.2.2.1.trans (hch.below (by have := HU.out.2.2.2.1.size; omega) (fun k hk e => by omega))⟩
    unfold stopE
    go_wp2
    refine leaves_cons (f := 29) (args := #[.pointer (some ⟨w.heap.size + 1, 0, none⟩)]) (by simp) (by simp [go_sem]) ?_
    refine (catch_panicking ⟨w.heap.size + 1, 0, none⟩ .nilIface cd [] _ (HK.out.2.1.cell 0) (HK.out.2.1.frozen 0)).mono ?_
    rintro e u' w'' ⟨rfl, rfl, rfl⟩
    have HW : Hid (Blk (u1.setCell ⟨w.heap.size + 1, 0, none⟩ (.iface 74 (.int .i64 cd))) w.heap.size #[.slice none 0 0, .slice none 0 0, .slice none 0 0, .slice none 0 0] 28 ∧ (u1.setCell ⟨w.heap.size + 1, 0, none⟩ (.iface 74 (.int .i64 cd))).cell? ⟨w.heap.size + 1, 0, none⟩ = some (.iface 74 (.int .i64 cd)) ∧ Below w.heap.size w (u1.setCell ⟨w.heap.size + 1, 0, none⟩ (.iface 74 (.int .i64 cd)))) := by
      refine ⟨HK.out.1.other (a := ⟨w.heap.size + 1, 0, none⟩) (by simp) _, ?_, HK.out.2.2.setCell (by simp) _⟩
      have := (HK.out.2.1.set 0 (.iface 74 (.int .i64 cd))).cell 0
      simpa using this
    generalize u1.setCell ⟨w.heap.size + 1, 0, none⟩ (.iface 74 (.int .i64 cd)) = WF at HW ⊢
    have r0 : WF.cell? ⟨w.heap.size, 0, none⟩ = some (.slice none 0 0) := HW.out.1.cell 0
    have r1 : WF.cell? ⟨w.heap.size, 1, none⟩ = some (.slice none 0 0) := HW.out.1.cell 1
    have r2 : WF.cell? ⟨w.heap.size, 2, none⟩ = some (.slice none 0 0) := HW.out.1.cell 2
    have r3 : WF.cell? ⟨w.heap.size, 3, none⟩ = some (.slice none 0 0) := HW.out.1.cell 3
    have r4 := HW.out.2.1
    have HR : Hid (RpRes zs w (.returned (.tuple #[.agg #[.slice none 0 0, .slice none 0 0, .slice none 0 0, .slice none 0 0], (.iface 74 (.int .i64 cd))])) WF) := ⟨cd, (⟨.slice none 0 0, .slice none 0 0, .slice none 0 0, .slice none 0 0⟩ : VP), [], [], [], [], by rw [show errOf cd = (.iface 74 (.int .i64 cd)) from if_neg hcd], by rw [if_neg hcd]; exact hdec, sep_nil _ _, small_nil, HW.out.2.2⟩
    simp [Leaves, settle, results, Tryz.results16, go_sem, r0, r1, r2, r3, r4]
    exact HR.out
  · obtain ⟨a1, d1, a2, d2, a3, d3, a4, d4, rfl⟩ := pItems_slices hsep
    have HK : Hid (Blk u1 w.heap.size #[.slice none 0 0, .slice none 0 0, .slice none 0 0, .slice none 0 0] 28 ∧ Blk u1 (w.heap.size + 1) #[.nilIface] 49 ∧ Below w.heap.size w u1) := ⟨hch.blk HU.out.2.1 (by omega), hch.blk HU.out.2.2.1 (by omega), HU.out.2.2.2.1.trans (hch.below (by have := HU.out.2.2.2.1.size; omega) (fun k hk e => by omega))⟩
    have HSP : Hid (Sep u1 U.heap.size (pItems ⟨.slice a1 F.length d1, .slice a2 cs.length d2, .slice a3 G.length d3, .slice a4 ts.length d4⟩ F cs G ts [])) := hsep
    have HDC : Hid (DecIs zs 0 ⟨F.map Prod.fst, cs, G.map Prod.fst, ts⟩ ∧ MP.small ⟨F.map Prod.fst, cs, G.map Prod.fst, ts⟩) := ⟨hdec, hsm⟩
    clear hsep hdec hsm hch HU
    have q0 : u1.cell? ⟨w.heap.size, 0, none⟩ = some (.slice none 0 0) := HK.out.1.cell 0
    have q1 : u1.cell? ⟨w.heap.size, 1, none⟩ = some (.slice none 0 0) := HK.out.1.cell 1
    have q2 : u1.cell? ⟨w.heap.size, 2, none⟩ = some (.slice none 0 0) := HK.out.1.cell 2
    have q3 : u1.cell? ⟨w.heap.size, 3, none⟩ = some (.slice none 0 0) := HK.out.1.cell 3
    have q4 : u1.cell? ⟨w.heap.size + 1, 0, none⟩ = some .nilIface := HK.out.2.1.cell 0
    have f0 := HK.out.1.frozen 0
    have f1 := HK.out.1.frozen 1
    have f2 := HK.out.1.frozen 2
    have f3 := HK.out.1.frozen 3
    have f4 := HK.out.2.1.frozen 0
    go_wp2
    refine leaves_cons (f := 29) (args := #[.pointer (some ⟨w.heap.size + 1, 0, none⟩)]) (by simp) (by simp [go_sem]) ?_
    refine (catch_idle ⟨w.heap.size + 1, 0, none⟩ _).mono ?_
    rintro e u' w'' ⟨rfl, rfl, rfl⟩
    have HW4 : Hid (Blk ((((u1.setCell ⟨w.heap.size, 0, none⟩ (.slice a1 F.length d1)).setCell ⟨w.heap.size, 1, none⟩ (.slice a2 cs.length d2)).setCell ⟨w.heap.size, 2, none⟩ (.slice a3 G.length d3)).setCell ⟨w.heap.size, 3, none⟩ (.slice a4 ts.length d4)) w.heap.size #[.slice a1 F.length d1, .slice a2 cs.length d2, .slice a3 G.length d3, .slice a4 ts.length d4] 28 ∧ Blk ((((u1.setCell ⟨w.heap.size, 0, none⟩ (.slice a1 F.length d1)).setCell ⟨w.heap.size, 1, none⟩ (.slice a2 cs.length d2)).setCell ⟨w.heap.size, 2, none⟩ (.slice a3 G.length d3)).setCell ⟨w.heap.size, 3, none⟩ (.slice a4 ts.length d4)) (w.heap.size + 1) #[.nilIface] 49) := by
      constructor
      · have := (((HK.out.1.set 0 (.slice a1 F.length d1)).set 1 (.slice a2 cs.length d2)).set 2 (.slice a3 G.length d3)).set 3 (.slice a4 ts.length d4)
        simpa using this
      · exact (((HK.out.2.1.other (a := ⟨w.heap.size, 0, none⟩) (by simp) _).other (a := ⟨w.heap.size, 1, none⟩) (by simp) _).other (a := ⟨w.heap.size, 2, none⟩) (by simp) _).other (a := ⟨w.heap.size, 3, none⟩) (by simp) _
    have HW : Hid (Blk (((((u1.setCell ⟨w.heap.size, 0, none⟩ (.slice a1 F.length d1)).setCell ⟨w.heap.size, 1, none⟩ (.slice a2 cs.length d2)).setCell ⟨w.heap.size, 2, none⟩ (.slice a3 G.length d3)).setCell ⟨w.heap.size, 3, none⟩ (.slice a4 ts.length d4)).setCell ⟨w.heap.size + 1, 0, none⟩ .nilIface) w.heap.size #[.slice a1 F.length d1, .slice a2 cs.length d2, .slice a3 G.length d3, .slice a4 ts.length d4] 28 ∧ (((((u1.setCell ⟨w.heap.size, 0, none⟩ (.slice a1 F.length d1)).setCell ⟨w.heap.size, 1, none⟩ (.slice a2 cs.length d2)).setCell ⟨w.heap.size, 2, none⟩ (.slice a3 G.length d3)).setCell ⟨w.heap.size, 3, none⟩ (.slice a4 ts.length d4)).setCell ⟨w.heap.size + 1, 0, none⟩ .nilIface).cell? ⟨w.heap.size + 1, 0, none⟩ = some .nilIface ∧ Below w.heap.size w (((((u1.setCell ⟨w.heap.size, 0, none⟩ (.slice a1 F.length d1)).setCell ⟨w.heap.size, 1, none⟩ (.slice a2 cs.length d2)).setCell ⟨w.heap.size, 2, none⟩ (.slice a3 G.length d3)).setCell ⟨w.heap.size, 3, none⟩ (.slice a4 ts.length d4)).setCell ⟨w.heap.size + 1, 0, none⟩ .nilIface) ∧ Sep (((((u1.setCell ⟨w.heap.size, 0, none⟩ (.slice a1 F.length d1)).setCell ⟨w.heap.size, 1, none⟩ (.slice a2 cs.length d2)).setCell ⟨w.heap.size, 2, none⟩ (.slice a3 G.length d3)).setCell ⟨w.heap.size, 3, none⟩ (.slice a4 ts.length d4)).setCell ⟨w.heap.size + 1, 0, none⟩ .nilIface) U.heap.size (pItems ⟨.slice a1 F.length d1, .slice a2 cs.length d2, .slice a3 G.length d3, .slice a4 ts.length d4⟩ F cs G ts [])) := by
      refine ⟨HW4.out.1.other (a := ⟨w.heap.size + 1, 0, none⟩) (by simp) _, ?_, ((((HK.out.2.2.setCell (Nat.le_refl _) (.slice a1 F.length d1)).setCell (Nat.le_refl _) (.slice a2 cs.length d2)).setCell (Nat.le_refl _) (.slice a3 G.length d3)).setCell (Nat.le_refl _) (.slice a4 ts.length d4)).setCell (Nat.le_succ _) .nilIface, ((((HSP.out.low w.heap.size 0 (by omega) (.slice a1 F.length d1)).low w.heap.size 1 (by omega) (.slice a2 cs.length d2)).low w.heap.size 2 (by omega) (.slice a3 G.length d3)).low w.heap.size 3 (by omega) (.slice a4 ts.length d4)).low (w.heap.size + 1) 0 (by omega) .nilIface⟩
      have := (HW4.out.2.set 0 .nilIface).cell 0
      simpa using this
    clear HW4 q0 q1 q2 q3 q4 f0 f1 f2 f3 f4 HK HSP
    generalize ((((u1.setCell ⟨w.heap.size, 0, none⟩ (.slice a1 F.length d1)).setCell ⟨w.heap.size, 1, none⟩ (.slice a2 cs.length d2)).setCell ⟨w.heap.size, 2, none⟩ (.slice a3 G.length d3)).setCell ⟨w.heap.size, 3, none⟩ (.slice a4 ts.length d4)).setCell ⟨w.heap.size + 1, 0, none⟩ .nilIface = WF at HW ⊢
    have r0 : WF.cell? ⟨w.heap.size, 0, none⟩ = some (.slice a1 F.length d1) := HW.out.1.cell 0
    have r1 : WF.cell? ⟨w.heap.size, 1, none⟩ = some (.slice a2 cs.length d2) := HW.out.1.cell 1
    have r2 : WF.cell? ⟨w.heap.size, 2, none⟩ = some (.slice a3 G.length d3) := HW.out.1.cell 2
    have r3 : WF.cell? ⟨w.heap.size, 3, none⟩ = some (.slice a4 ts.length d4) := HW.out.1.cell 3
    have r4 := HW.out.2.1
    have HR : Hid (RpRes zs w (.returned (.tuple #[.agg #[.slice a1 F.length d1, .slice a2 cs.length d2, .slice a3 G.length d3, .slice a4 ts.length d4], .nilIface])) WF) := ⟨0, ⟨.slice a1 F.length d1, .slice a2 cs.length d2, .slice a3 G.length d3, .slice a4 ts.length d4⟩, F, cs, G, ts, rfl, by rw [if_pos rfl]; exact HDC.out.1, HW.out.2.2.2.base (by omega), HDC.out.2, HW.out.2.2.1⟩
    simp [Leaves, settle, results, Tryz.results16, go_sem, r0, r1, r2, r3, r4]
    exact HR.out
end Go.Proofs.YtnemieeeappgnaaGreatDoor
