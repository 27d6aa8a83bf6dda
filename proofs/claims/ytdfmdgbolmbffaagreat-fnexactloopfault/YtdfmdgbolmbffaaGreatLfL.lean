/- FnExactLoopFault: the walk, the row. -/
import Derived.Test.YtdfmdgbolmbffaaGreatRows
import Derived.Test.YtdfmdgbolmbffaaGreatLf39
import Derived.Test.YtdfmdgbolmbffaaGreatLf48
import Derived.Test.YtdfmdgbolmbffaaGreatLf4
import Derived.Test.YtdfmdgbolmbffaaGreatLf37
import Derived.WalkKit
import Derived.ProofKit
import Derived.OpenShut
import Derived.ShutString
import Derived.ChangeOld
import Derived.Below
namespace Go.Proofs.YtdfmdgbolmbffaaGreat.fnExactLoopFault
open Go.ChangeShapes Go.WideShapes Go.ChangeAt Go.RowKit
set_option linter.unusedVariables false

theorem own : ownKnob Tryz.prog.godebug = none := by kernel_rfl
theorem laidOut : laidOutB Tryz.prog = true := by kernel_rfl

set_option maxRecDepth 100000 in
set_option maxHeartbeats 8000000 in
theorem walk (v0 : VP) (p0 : MP) (p1 : Int) (v2 : VL) (p2 : ML) (w : World) (h0 : RdP w v0 p0) (b0 : p0.fits) (f0 : p0.wf) (f1 : W64 p1) (h2 : RdLv w v2 p2) (b2 : p2.fits) (f2 : p2.wf) :
    Calls Tryz.prog 5 #[.agg #[v0.r, v0.k, v0.f, v0.t], .int .i64 p1, .agg #[.int .i64 p2.head, v2.b, v2.k]] w fun e w' => e = .returned (.bool true) ∧ Below w.heap.size w w' := by
  have E0 := two_new w #[v0.r, v0.k, v0.f, v0.t] #[.int .i64 p2.head, v2.b, v2.k] 27 50
  have HF : Hid (p0.fits ∧ RdP w v0 p0 ∧ p0.wf ∧ W64 p1 ∧ RdLv w v2 p2 ∧ p2.fits) := ⟨b0, h0, f0, f1, h2, b2⟩
  clear b0 f0 f1 h0 h2 b2 f2
  go_enter Tryz.func5, Tryz.ntmps5
  go_upto_region 1 with fail
  refine wp_world (fun u => Hid (Blk u w.heap.size #[v0.r, v0.k, v0.f, v0.t] 27 ∧ Blk u (w.heap.size + 1) #[.int .i64 p2.head, v2.b, v2.k] 50 ∧ Below w.heap.size w u)) E0 ?_
  rintro U0 E1
  clear E0
  obtain ⟨i0, i1, i2, i3⟩ := cel4 E1.out.1
  go_wp2_with fail
  refine (szProgram_any v0 p0 1048576 U0 HF.out.1 (HF.out.2.1.keep E1.out.2.2 (Nat.le_refl _)) (by omega) (by omega)).mono ?_
  rintro e u1 ⟨r1, rfl, hr1, bl1⟩
  have E2 : Hid (Blk u1 w.heap.size #[v0.r, v0.k, v0.f, v0.t] 27 ∧ Blk u1 (w.heap.size + 1) #[.int .i64 p2.head, v2.b, v2.k] 50 ∧ Below w.heap.size w u1) := ⟨E1.out.1.keep bl1, E1.out.2.1.keep bl1, below_on E1.out.2.2 (Nat.le_refl _) bl1⟩
  clear bl1 E1 i0 i1 i2 i3
  rcases hr1 with rfl | ⟨hr0, hr1, hs0⟩
  · go_wp2_with fail
    go_ret
    exact ⟨rfl, E2.out.2.2⟩
  have S0 : Hid p0.small := hs0
  clear hs0
  have hrn : ¬ r1 < 0 := by omega
  obtain ⟨j0, j1, j2⟩ := blk3 E2.out.2.1
  go_wp2_with fail
  refine (szLoop_any v2 p2 r1 u1 HF.out.2.2.2.2.2 (HF.out.2.2.2.2.1.keep E2.out.2.2 (Nat.le_refl _)) hr0 hr1).mono ?_
  rintro e u2 ⟨r2, rfl, hr2, bl2⟩
  have E3 : Hid (Blk u2 w.heap.size #[v0.r, v0.k, v0.f, v0.t] 27 ∧ Blk u2 (w.heap.size + 1) #[.int .i64 p2.head, v2.b, v2.k] 50 ∧ Below w.heap.size w u2) := ⟨E2.out.1.keep bl2, E2.out.2.1.keep bl2, below_on E2.out.2.2 (Nat.le_refl _) bl2⟩
  clear bl2 E2 j0 j1 j2
  rcases hr2 with rfl | ⟨hq0, hq1, hs2⟩
  · clear hr0 hr1 hrn
    go_wp2_with fail
    go_ret
    exact ⟨rfl, E3.out.2.2⟩
  have S2 : Hid p2.small := hs2
  have hrm : ¬ r2 < 0 := by omega
  clear hr0 hr1 hrn hq0 hq1 hs2
  go_upto_region 8 with fail
  have KS : ∀ w', Blk w' w.heap.size #[v0.r, v0.k, v0.f, v0.t] 27 → Blk w' (w.heap.size + 1) #[.int .i64 p2.head, v2.b, v2.k] 50 → w'.cell? ⟨w.heap.size, 0, none⟩ = some (v0.r) ∧ w'.cell? ⟨w.heap.size, 1, none⟩ = some (v0.k) ∧ w'.cell? ⟨w.heap.size, 2, none⟩ = some (v0.f) ∧ w'.cell? ⟨w.heap.size, 3, none⟩ = some (v0.t) ∧ w'.cell? ⟨w.heap.size + 1, 0, none⟩ = some (.int .i64 p2.head) ∧ w'.cell? ⟨w.heap.size + 1, 1, none⟩ = some (v2.b) ∧ w'.cell? ⟨w.heap.size + 1, 2, none⟩ = some (v2.k) := fun w' A B => by
    obtain ⟨q0, q1, q2, q3⟩ := cel4 A
    obtain ⟨l0, l1, l2⟩ := blk3 B
    exact ⟨q0, q1, q2, q3, l0, l1, l2⟩
  have HR : Hid (Blk u2.drew w.heap.size #[v0.r, v0.k, v0.f, v0.t] 27 ∧ Blk u2.drew (w.heap.size + 1) #[.int .i64 p2.head, v2.b, v2.k] 50 ∧ Below w.heap.size w u2.drew) := ⟨E3.out.1.keep (below_drew1 _), E3.out.2.1.keep (below_drew1 _), below_on E3.out.2.2 (Nat.le_refl _) (below_drew1 _)⟩
  clear E3
  refine wp_region_held_drew (S := fun w' => w'.cell? ⟨w.heap.size, 0, none⟩ = some (v0.r) ∧ w'.cell? ⟨w.heap.size, 1, none⟩ = some (v0.k) ∧ w'.cell? ⟨w.heap.size, 2, none⟩ = some (v0.f) ∧ w'.cell? ⟨w.heap.size, 3, none⟩ = some (v0.t) ∧ w'.cell? ⟨w.heap.size + 1, 0, none⟩ = some (.int .i64 p2.head) ∧ w'.cell? ⟨w.heap.size + 1, 1, none⟩ = some (v2.b) ∧ w'.cell? ⟨w.heap.size + 1, 2, none⟩ = some (v2.k)) (by kernel_rfl) (KS _ HR.out.1 HR.out.2.1) (fun hHeld => ?_)
  refine wpAnyH_take (i := 0) (v := ?_) rfl (by kernel_rfl) (by kernel_rfl) (by kernel_rfl) (fun _ _ _ h => h) (Or.inl ⟨by rfl, ?_⟩) (by assumption) ?_
  rotate_left
  · (intro w hSw; (try dsimp only at hSw); go_simp; (try with_reducible rfl))
  refine wpAnyH_take (i := 2) (v := ?_) rfl (by kernel_rfl) (by kernel_rfl) (by kernel_rfl) (fun _ _ _ h => h) (Or.inl ⟨by rfl, ?_⟩) (by assumption) ?_
  rotate_left
  · (intro w hSw; (try dsimp only at hSw); go_simp; (try with_reducible rfl))
  refine wpAnyH_take (i := 3) (v := ?_) rfl (by kernel_rfl) (by kernel_rfl) (by kernel_rfl) (fun _ _ _ h => h) (Or.inl ⟨by rfl, ?_⟩) (by assumption) ?_
  rotate_left
  · (intro w hSw; (try dsimp only at hSw); go_simp; (try with_reducible rfl))
  refine wpAnyH_ready (rs := [1]) (by kernel_rfl) (by simp) ?_
  refine AllReadyH.cons rfl (fun KC hKC => ?_) AllReadyH.nil
  go_simp
  refine (toProgram_any v0 p0 u2.drew S0.out (HF.out.2.1.keep HR.out.2.2 (Nat.le_refl _))).mono ?_
  rintro e u3 ⟨a1, c1, a2, c2, a3, c3, a4, c4, rfl, own3, bl3⟩
  have E4 : Hid ((Blk u3 w.heap.size #[v0.r, v0.k, v0.f, v0.t] 27 ∧ Blk u3 (w.heap.size + 1) #[.int .i64 p2.head, v2.b, v2.k] 50 ∧ Below w.heap.size w u3) ∧ RdP u3 ⟨.slice a1 p0.regions.length c1, .slice a2 p0.consts.length c2, .slice a3 p0.funcs.length c3, .slice a4 p0.certs.length c4⟩ p0) := ⟨⟨HR.out.1.keep bl3, HR.out.2.1.keep bl3, below_on HR.out.2.2 (Nat.le_refl _) bl3⟩, own3.rd⟩
  clear own3 bl3 HR
  go_simp
  refine hKC.out _ _ (KS _ E4.out.1.1 E4.out.1.2.1) (fun hHeld => ?_)
  clear hKC KC
  refine wpAnyH_ready (rs := [4]) (by kernel_rfl) (by simp) ?_
  refine AllReadyH.cons rfl (fun KC hKC => ?_) AllReadyH.nil
  go_simp
  refine (toLoop_any v2 p2 u3 S2.out (HF.out.2.2.2.2.1.keep E4.out.1.2.2 (Nat.le_refl _))).mono ?_
  rintro e u4 ⟨b1, g1, b2, g2, rfl, hl4, bl4⟩
  have E5 : Hid ((Blk u4 w.heap.size #[v0.r, v0.k, v0.f, v0.t] 27 ∧ Blk u4 (w.heap.size + 1) #[.int .i64 p2.head, v2.b, v2.k] 50 ∧ Below w.heap.size w u4) ∧ RdP u4 ⟨.slice a1 p0.regions.length c1, .slice a2 p0.consts.length c2, .slice a3 p0.funcs.length c3, .slice a4 p0.certs.length c4⟩ p0 ∧ RdLv u4 ⟨.slice b1 p2.back.length g1, .slice b2 p2.blocks.length g2⟩ p2) := ⟨⟨E4.out.1.1.keep bl4, E4.out.1.2.1.keep bl4, below_on E4.out.1.2.2 (Nat.le_refl _) bl4⟩, E4.out.2.keep bl4 (Nat.le_refl _), hl4⟩
  clear hl4 bl4 E4
  go_simp
  refine hKC.out _ _ (KS _ E5.out.1.1 E5.out.1.2.1) (fun hHeld => ?_)
  clear hKC KC
  refine wpAnyH_ready (rs := [5]) (by kernel_rfl) (by simp) ?_
  refine AllReadyH.cons rfl (fun KC hKC => ?_) AllReadyH.nil
  go_simp
  refine (specLoop_any ⟨.slice a1 p0.regions.length c1, .slice a2 p0.consts.length c2, .slice a3 p0.funcs.length c3, .slice a4 p0.certs.length c4⟩ p0 p1 ⟨.slice b1 p2.back.length g1, .slice b2 p2.blocks.length g2⟩ p2 u4 S0.out HF.out.2.2.1 HF.out.2.2.2.1 E5.out.2.1 S2.out E5.out.2.2).mono ?_
  rintro e u5 ⟨⟨n5, rfl, hn5⟩, bl5⟩
  have E6 : Hid (Blk u5 w.heap.size #[v0.r, v0.k, v0.f, v0.t] 27 ∧ Blk u5 (w.heap.size + 1) #[.int .i64 p2.head, v2.b, v2.k] 50 ∧ Below w.heap.size w u5) := ⟨E5.out.1.1.keep bl5, E5.out.1.2.1.keep bl5, below_on E5.out.1.2.2 (Nat.le_refl _) bl5⟩
  have HN5 : Hid (LfIs p0 p1 p2 n5) := hn5
  clear hn5 bl5 E5
  go_simp
  refine hKC.out _ _ (KS _ E6.out.1 E6.out.2.1) (fun hHeld => ?_)
  clear hKC KC
  refine wpAnyH_take (i := 6) (v := ?_) rfl (by kernel_rfl) (by kernel_rfl) (by kernel_rfl) (fun _ _ _ h => h) (Or.inl ⟨by rfl, ?_⟩) (by assumption) ?_
  rotate_left
  · (intro w hSw; (try dsimp only at hSw); go_simp; (try with_reducible rfl))
  refine wpAnyH_done (by kernel_rfl) ?_ _
  clear hHeld KS
  obtain ⟨i0, i1, i2, i3⟩ := cel4 E6.out.1
  go_wp2_with fail
  refine (toProgram_any v0 p0 u5 S0.out (HF.out.2.1.keep E6.out.2.2 (Nat.le_refl _))).mono ?_
  rintro e u6 ⟨x1, e1, x2, e2, x3, e3, x4, e4, rfl, own6, bl6⟩
  have E7 : Hid ((Blk u6 w.heap.size #[v0.r, v0.k, v0.f, v0.t] 27 ∧ Blk u6 (w.heap.size + 1) #[.int .i64 p2.head, v2.b, v2.k] 50 ∧ Below w.heap.size w u6) ∧ OwnP u6 u5.heap.size ⟨.slice x1 p0.regions.length e1, .slice x2 p0.consts.length e2, .slice x3 p0.funcs.length e3, .slice x4 p0.certs.length e4⟩ p0) := ⟨⟨E6.out.1.keep bl6, E6.out.2.1.keep bl6, below_on E6.out.2.2 (Nat.le_refl _) bl6⟩, own6⟩
  clear own6 bl6 E6 i0 i1 i2 i3
  go_upto_region 10 with fail
  refine wp_world (fun u => Hid ((Blk u w.heap.size #[v0.r, v0.k, v0.f, v0.t] 27 ∧ Blk u (w.heap.size + 1) #[.int .i64 p2.head, v2.b, v2.k] 50 ∧ Below w.heap.size w u) ∧ OwnP u u5.heap.size ⟨.slice x1 p0.regions.length e1, .slice x2 p0.consts.length e2, .slice x3 p0.funcs.length e3, .slice x4 p0.certs.length e4⟩ p0 ∧ Blk u u6.heap.size #[.slice x1 p0.regions.length e1, .slice x2 p0.consts.length e2, .slice x3 p0.funcs.length e3, .slice x4 p0.certs.length e4] 36)) ⟨⟨E7.out.1.1.keep (below_alloc _ _), E7.out.1.2.1.keep (below_alloc _ _), below_on E7.out.1.2.2 (Nat.le_refl _) (below_alloc _ _)⟩, E7.out.2.keep (below_alloc _ _) (Nat.le_refl _), Blk.new _ _ _⟩ ?_
  rintro U7 E8
  generalize u6.heap.size = X at E8 ⊢
  clear E7
  obtain ⟨j0, j1, j2⟩ := blk3 E8.out.1.2.1
  go_wp2_with fail
  refine (toLoop_any v2 p2 U7 S2.out (HF.out.2.2.2.2.1.keep E8.out.1.2.2 (Nat.le_refl _))).mono ?_
  rintro e u8 ⟨y1, d1, y2, d2, rfl, hl8, bl8⟩
  have E9 : Hid ((Blk u8 w.heap.size #[v0.r, v0.k, v0.f, v0.t] 27 ∧ Blk u8 (w.heap.size + 1) #[.int .i64 p2.head, v2.b, v2.k] 50 ∧ Below w.heap.size w u8) ∧ OwnP u8 u5.heap.size ⟨.slice x1 p0.regions.length e1, .slice x2 p0.consts.length e2, .slice x3 p0.funcs.length e3, .slice x4 p0.certs.length e4⟩ p0 ∧ Blk u8 X #[.slice x1 p0.regions.length e1, .slice x2 p0.consts.length e2, .slice x3 p0.funcs.length e3, .slice x4 p0.certs.length e4] 36 ∧ RdLv u8 ⟨.slice y1 p2.back.length d1, .slice y2 p2.blocks.length d2⟩ p2) := ⟨⟨E8.out.1.1.keep bl8, E8.out.1.2.1.keep bl8, below_on E8.out.1.2.2 (Nat.le_refl _) bl8⟩, E8.out.2.1.keep bl8 (Nat.le_refl _), E8.out.2.2.keep bl8, hl8⟩
  clear hl8 bl8 E8 j0 j1 j2
  go_upto_region 11 with fail
  refine wp_world (fun u => Hid ((Blk u w.heap.size #[v0.r, v0.k, v0.f, v0.t] 27 ∧ Blk u (w.heap.size + 1) #[.int .i64 p2.head, v2.b, v2.k] 50 ∧ Below w.heap.size w u) ∧ OwnP u u5.heap.size ⟨.slice x1 p0.regions.length e1, .slice x2 p0.consts.length e2, .slice x3 p0.funcs.length e3, .slice x4 p0.certs.length e4⟩ p0 ∧ Blk u X #[.slice x1 p0.regions.length e1, .slice x2 p0.consts.length e2, .slice x3 p0.funcs.length e3, .slice x4 p0.certs.length e4] 36 ∧ RdLv u ⟨.slice y1 p2.back.length d1, .slice y2 p2.blocks.length d2⟩ p2 ∧ Blk u u8.heap.size #[.int .i64 p2.head, .slice y1 p2.back.length d1, .slice y2 p2.blocks.length d2] 53)) ⟨⟨E9.out.1.1.keep (below_alloc _ _), E9.out.1.2.1.keep (below_alloc _ _), below_on E9.out.1.2.2 (Nat.le_refl _) (below_alloc _ _)⟩, E9.out.2.1.keep (below_alloc _ _) (Nat.le_refl _), E9.out.2.2.1.keep (below_alloc _ _), E9.out.2.2.2.keep (below_alloc _ _) (Nat.le_refl _), Blk.new _ _ _⟩ ?_
  rintro U9 E10
  generalize u8.heap.size = Y at E10 ⊢
  clear E9
  obtain ⟨i0, i1, i2, i3⟩ := cel4 E10.out.2.2.1
  obtain ⟨j0, j1, j2⟩ := blk3 E10.out.2.2.2.2
  go_wp2_with fail
  refine (implLoop_any ⟨.slice x1 p0.regions.length e1, .slice x2 p0.consts.length e2, .slice x3 p0.funcs.length e3, .slice x4 p0.certs.length e4⟩ p0 p1 ⟨.slice y1 p2.back.length d1, .slice y2 p2.blocks.length d2⟩ p2 U9 S0.out HF.out.2.2.1 E10.out.2.1.rd E10.out.2.1.regions.rdc E10.out.2.1.funcs.rdp E10.out.2.1.funcs.rdk S2.out E10.out.2.2.2.1).mono ?_
  rintro e u10 ⟨⟨n10, rfl, hn10⟩, bl10⟩
  have hnn : n10 = n5 := hn10.one HN5.out
  subst hnn
  have E11 : Hid ((Blk u10 w.heap.size #[v0.r, v0.k, v0.f, v0.t] 27 ∧ Blk u10 (w.heap.size + 1) #[.int .i64 p2.head, v2.b, v2.k] 50 ∧ Below w.heap.size w u10) ∧ RdP u10 ⟨.slice x1 p0.regions.length e1, .slice x2 p0.consts.length e2, .slice x3 p0.funcs.length e3, .slice x4 p0.certs.length e4⟩ p0 ∧ Blk u10 X #[.slice x1 p0.regions.length e1, .slice x2 p0.consts.length e2, .slice x3 p0.funcs.length e3, .slice x4 p0.certs.length e4] 36 ∧ RdLv u10 ⟨.slice y1 p2.back.length d1, .slice y2 p2.blocks.length d2⟩ p2 ∧ Blk u10 Y #[.int .i64 p2.head, .slice y1 p2.back.length d1, .slice y2 p2.blocks.length d2] 53) := ⟨⟨E10.out.1.1.keep bl10, E10.out.1.2.1.keep bl10, below_on E10.out.1.2.2 (Nat.le_refl _) bl10⟩, (E10.out.2.1.keep bl10 (Nat.le_refl _)).rd, E10.out.2.2.1.keep bl10, E10.out.2.2.2.1.keep bl10 (Nat.le_refl _), E10.out.2.2.2.2.keep bl10⟩
  clear hn10 HN5 bl10 E10 i0 i1 i2 i3 j0 j1 j2
  go_upto_region 14 with fail
  have KS : ∀ w', Blk w' w.heap.size #[v0.r, v0.k, v0.f, v0.t] 27 → Blk w' X #[.slice x1 p0.regions.length e1, .slice x2 p0.consts.length e2, .slice x3 p0.funcs.length e3, .slice x4 p0.certs.length e4] 36 → w'.cell? ⟨w.heap.size, 0, none⟩ = some (v0.r) ∧ w'.cell? ⟨w.heap.size, 1, none⟩ = some (v0.k) ∧ w'.cell? ⟨w.heap.size, 2, none⟩ = some (v0.f) ∧ w'.cell? ⟨w.heap.size, 3, none⟩ = some (v0.t) ∧ w'.cell? ⟨X, 0, none⟩ = some (.slice x1 p0.regions.length e1) ∧ w'.cell? ⟨X, 1, none⟩ = some (.slice x2 p0.consts.length e2) ∧ w'.cell? ⟨X, 2, none⟩ = some (.slice x3 p0.funcs.length e3) ∧ w'.cell? ⟨X, 3, none⟩ = some (.slice x4 p0.certs.length e4) := fun w' A B => by
    obtain ⟨q0, q1, q2, q3⟩ := cel4 A
    obtain ⟨l0, l1, l2, l3⟩ := cel4 B
    exact ⟨q0, q1, q2, q3, l0, l1, l2, l3⟩
  have HR : Hid ((Blk u10.drew w.heap.size #[v0.r, v0.k, v0.f, v0.t] 27 ∧ Blk u10.drew (w.heap.size + 1) #[.int .i64 p2.head, v2.b, v2.k] 50 ∧ Below w.heap.size w u10.drew) ∧ RdP u10.drew ⟨.slice x1 p0.regions.length e1, .slice x2 p0.consts.length e2, .slice x3 p0.funcs.length e3, .slice x4 p0.certs.length e4⟩ p0 ∧ Blk u10.drew X #[.slice x1 p0.regions.length e1, .slice x2 p0.consts.length e2, .slice x3 p0.funcs.length e3, .slice x4 p0.certs.length e4] 36 ∧ RdLv u10.drew ⟨.slice y1 p2.back.length d1, .slice y2 p2.blocks.length d2⟩ p2 ∧ Blk u10.drew Y #[.int .i64 p2.head, .slice y1 p2.back.length d1, .slice y2 p2.blocks.length d2] 53) := ⟨⟨E11.out.1.1.keep (below_drew1 _), E11.out.1.2.1.keep (below_drew1 _), below_on E11.out.1.2.2 (Nat.le_refl _) (below_drew1 _)⟩, E11.out.2.1.keep (below_drew1 _) (Nat.le_refl _), E11.out.2.2.1.keep (below_drew1 _), E11.out.2.2.2.1.keep (below_drew1 _) (Nat.le_refl _), E11.out.2.2.2.2.keep (below_drew1 _)⟩
  clear E11
  refine wp_region_held_drew (S := fun w' => w'.cell? ⟨w.heap.size, 0, none⟩ = some (v0.r) ∧ w'.cell? ⟨w.heap.size, 1, none⟩ = some (v0.k) ∧ w'.cell? ⟨w.heap.size, 2, none⟩ = some (v0.f) ∧ w'.cell? ⟨w.heap.size, 3, none⟩ = some (v0.t) ∧ w'.cell? ⟨X, 0, none⟩ = some (.slice x1 p0.regions.length e1) ∧ w'.cell? ⟨X, 1, none⟩ = some (.slice x2 p0.consts.length e2) ∧ w'.cell? ⟨X, 2, none⟩ = some (.slice x3 p0.funcs.length e3) ∧ w'.cell? ⟨X, 3, none⟩ = some (.slice x4 p0.certs.length e4)) (by kernel_rfl) (KS _ HR.out.1.1 HR.out.2.2.1) (fun hHeld => ?_)
  refine wpAnyH_take (i := 0) (v := ?_) rfl (by kernel_rfl) (by kernel_rfl) (by kernel_rfl) (fun _ _ _ h => h) (Or.inl ⟨by rfl, ?_⟩) (by assumption) ?_
  rotate_left
  · (intro w hSw; (try dsimp only at hSw); go_simp; (try with_reducible rfl))
  refine wpAnyH_take (i := 1) (v := ?_) rfl (by kernel_rfl) (by kernel_rfl) (by kernel_rfl) (fun _ _ _ h => h) (Or.inl ⟨by rfl, ?_⟩) (by assumption) ?_
  rotate_left
  · (intro w hSw; (try dsimp only at hSw); go_simp; (try with_reducible rfl))
  refine wpAnyH_ready (rs := [2]) (by kernel_rfl) (by simp) ?_
  refine AllReadyH.cons rfl (fun KC hKC => ?_) AllReadyH.nil
  go_simp
  refine (toProgram_any v0 p0 u10.drew S0.out (HF.out.2.1.keep HR.out.1.2.2 (Nat.le_refl _))).mono ?_
  rintro e u11 ⟨a1, c1, a2, c2, a3, c3, a4, c4, rfl, own11, bl11⟩
  have E12 : Hid ((Blk u11 w.heap.size #[v0.r, v0.k, v0.f, v0.t] 27 ∧ Blk u11 (w.heap.size + 1) #[.int .i64 p2.head, v2.b, v2.k] 50 ∧ Below w.heap.size w u11) ∧ RdP u11 ⟨.slice x1 p0.regions.length e1, .slice x2 p0.consts.length e2, .slice x3 p0.funcs.length e3, .slice x4 p0.certs.length e4⟩ p0 ∧ Blk u11 X #[.slice x1 p0.regions.length e1, .slice x2 p0.consts.length e2, .slice x3 p0.funcs.length e3, .slice x4 p0.certs.length e4] 36 ∧ RdLv u11 ⟨.slice y1 p2.back.length d1, .slice y2 p2.blocks.length d2⟩ p2 ∧ Blk u11 Y #[.int .i64 p2.head, .slice y1 p2.back.length d1, .slice y2 p2.blocks.length d2] 53 ∧ RdP u11 ⟨.slice a1 p0.regions.length c1, .slice a2 p0.consts.length c2, .slice a3 p0.funcs.length c3, .slice a4 p0.certs.length c4⟩ p0) := ⟨⟨HR.out.1.1.keep bl11, HR.out.1.2.1.keep bl11, below_on HR.out.1.2.2 (Nat.le_refl _) bl11⟩, HR.out.2.1.keep bl11 (Nat.le_refl _), HR.out.2.2.1.keep bl11, HR.out.2.2.2.1.keep bl11 (Nat.le_refl _), HR.out.2.2.2.2.keep bl11, own11.rd⟩
  clear own11 bl11 HR
  go_simp
  refine hKC.out _ _ (KS _ E12.out.1.1 E12.out.2.2.1) (fun hHeld => ?_)
  clear hKC KC
  refine wpAnyH_ready (rs := [3]) (by kernel_rfl) (by simp) ?_
  refine AllReadyH.cons rfl (fun KC hKC => ?_) AllReadyH.nil
  go_simp
  refine (eqProgram_same ⟨.slice x1 p0.regions.length e1, .slice x2 p0.consts.length e2, .slice x3 p0.funcs.length e3, .slice x4 p0.certs.length e4⟩ ⟨.slice a1 p0.regions.length c1, .slice a2 p0.consts.length c2, .slice a3 p0.funcs.length c3, .slice a4 p0.certs.length c4⟩ p0 u11 S0.out E12.out.2.1 E12.out.2.2.2.2.2).mono ?_
  rintro e u12 ⟨rfl, bl12⟩
  have E13 : Hid ((Blk u12 w.heap.size #[v0.r, v0.k, v0.f, v0.t] 27 ∧ Blk u12 (w.heap.size + 1) #[.int .i64 p2.head, v2.b, v2.k] 50 ∧ Below w.heap.size w u12) ∧ Blk u12 X #[.slice x1 p0.regions.length e1, .slice x2 p0.consts.length e2, .slice x3 p0.funcs.length e3, .slice x4 p0.certs.length e4] 36 ∧ RdLv u12 ⟨.slice y1 p2.back.length d1, .slice y2 p2.blocks.length d2⟩ p2 ∧ Blk u12 Y #[.int .i64 p2.head, .slice y1 p2.back.length d1, .slice y2 p2.blocks.length d2] 53) := ⟨⟨E12.out.1.1.keep bl12, E12.out.1.2.1.keep bl12, below_on E12.out.1.2.2 (Nat.le_refl _) bl12⟩, E12.out.2.2.1.keep bl12, E12.out.2.2.2.1.keep bl12 (Nat.le_refl _), E12.out.2.2.2.2.1.keep bl12⟩
  clear bl12 E12
  go_simp
  refine hKC.out _ _ (KS _ E13.out.1.1 E13.out.2.1) (fun hHeld => ?_)
  clear hKC KC
  refine wpAnyH_take (i := 4) (v := ?_) rfl (by kernel_rfl) (by kernel_rfl) (by kernel_rfl) (fun _ _ _ h => h) (Or.inl ⟨by rfl, ?_⟩) (by assumption) ?_
  rotate_left
  · (intro w hSw; (try dsimp only at hSw); go_simp; (try with_reducible rfl))
  refine wpAnyH_done (by kernel_rfl) ?_ _
  clear hHeld KS
  go_upto_region 16 with fail
  have KS : ∀ w', Blk w' (w.heap.size + 1) #[.int .i64 p2.head, v2.b, v2.k] 50 → Blk w' Y #[.int .i64 p2.head, .slice y1 p2.back.length d1, .slice y2 p2.blocks.length d2] 53 → w'.cell? ⟨w.heap.size + 1, 0, none⟩ = some (.int .i64 p2.head) ∧ w'.cell? ⟨w.heap.size + 1, 1, none⟩ = some (v2.b) ∧ w'.cell? ⟨w.heap.size + 1, 2, none⟩ = some (v2.k) ∧ w'.cell? ⟨Y, 0, none⟩ = some (.int .i64 p2.head) ∧ w'.cell? ⟨Y, 1, none⟩ = some (.slice y1 p2.back.length d1) ∧ w'.cell? ⟨Y, 2, none⟩ = some (.slice y2 p2.blocks.length d2) := fun w' A B => by
    obtain ⟨q0, q1, q2⟩ := blk3 A
    obtain ⟨l0, l1, l2⟩ := blk3 B
    exact ⟨q0, q1, q2, l0, l1, l2⟩
  have HR : Hid ((Blk u12.drew w.heap.size #[v0.r, v0.k, v0.f, v0.t] 27 ∧ Blk u12.drew (w.heap.size + 1) #[.int .i64 p2.head, v2.b, v2.k] 50 ∧ Below w.heap.size w u12.drew) ∧ RdLv u12.drew ⟨.slice y1 p2.back.length d1, .slice y2 p2.blocks.length d2⟩ p2 ∧ Blk u12.drew Y #[.int .i64 p2.head, .slice y1 p2.back.length d1, .slice y2 p2.blocks.length d2] 53) := ⟨⟨E13.out.1.1.keep (below_drew1 _), E13.out.1.2.1.keep (below_drew1 _), below_on E13.out.1.2.2 (Nat.le_refl _) (below_drew1 _)⟩, E13.out.2.2.1.keep (below_drew1 _) (Nat.le_refl _), E13.out.2.2.2.keep (below_drew1 _)⟩
  clear E13
  refine wp_region_held_drew (S := fun w' => w'.cell? ⟨w.heap.size + 1, 0, none⟩ = some (.int .i64 p2.head) ∧ w'.cell? ⟨w.heap.size + 1, 1, none⟩ = some (v2.b) ∧ w'.cell? ⟨w.heap.size + 1, 2, none⟩ = some (v2.k) ∧ w'.cell? ⟨Y, 0, none⟩ = some (.int .i64 p2.head) ∧ w'.cell? ⟨Y, 1, none⟩ = some (.slice y1 p2.back.length d1) ∧ w'.cell? ⟨Y, 2, none⟩ = some (.slice y2 p2.blocks.length d2)) (by kernel_rfl) (KS _ HR.out.1.2.1 HR.out.2.2) (fun hHeld => ?_)
  refine wpAnyH_take (i := 0) (v := ?_) rfl (by kernel_rfl) (by kernel_rfl) (by kernel_rfl) (fun _ _ _ h => h) (Or.inl ⟨by rfl, ?_⟩) (by assumption) ?_
  rotate_left
  · (intro w hSw; (try dsimp only at hSw); go_simp; (try with_reducible rfl))
  refine wpAnyH_take (i := 1) (v := ?_) rfl (by kernel_rfl) (by kernel_rfl) (by kernel_rfl) (fun _ _ _ h => h) (Or.inl ⟨by rfl, ?_⟩) (by assumption) ?_
  rotate_left
  · (intro w hSw; (try dsimp only at hSw); go_simp; (try with_reducible rfl))
  refine wpAnyH_ready (rs := [2]) (by kernel_rfl) (by simp) ?_
  refine AllReadyH.cons rfl (fun KC hKC => ?_) AllReadyH.nil
  go_simp
  refine (toLoop_any v2 p2 u12.drew S2.out (HF.out.2.2.2.2.1.keep HR.out.1.2.2 (Nat.le_refl _))).mono ?_
  rintro e u13 ⟨b1, g1, b2, g2, rfl, hl13, bl13⟩
  have E14 : Hid ((Blk u13 w.heap.size #[v0.r, v0.k, v0.f, v0.t] 27 ∧ Blk u13 (w.heap.size + 1) #[.int .i64 p2.head, v2.b, v2.k] 50 ∧ Below w.heap.size w u13) ∧ RdLv u13 ⟨.slice y1 p2.back.length d1, .slice y2 p2.blocks.length d2⟩ p2 ∧ Blk u13 Y #[.int .i64 p2.head, .slice y1 p2.back.length d1, .slice y2 p2.blocks.length d2] 53 ∧ RdLv u13 ⟨.slice b1 p2.back.length g1, .slice b2 p2.blocks.length g2⟩ p2) := ⟨⟨HR.out.1.1.keep bl13, HR.out.1.2.1.keep bl13, below_on HR.out.1.2.2 (Nat.le_refl _) bl13⟩, HR.out.2.1.keep bl13 (Nat.le_refl _), HR.out.2.2.keep bl13, hl13⟩
  clear hl13 bl13 HR
  go_simp
  refine hKC.out _ _ (KS _ E14.out.1.2.1 E14.out.2.2.1) (fun hHeld => ?_)
  clear hKC KC
  refine wpAnyH_ready (rs := [3]) (by kernel_rfl) (by simp) ?_
  refine AllReadyH.cons rfl (fun KC hKC => ?_) AllReadyH.nil
  go_simp
  refine (eqLoop_same ⟨.slice y1 p2.back.length d1, .slice y2 p2.blocks.length d2⟩ ⟨.slice b1 p2.back.length g1, .slice b2 p2.blocks.length g2⟩ p2 u13 S2.out E14.out.2.1 E14.out.2.2.2).mono ?_
  rintro e u14 ⟨rfl, bl14⟩
  have E15 : Hid ((Blk u14 w.heap.size #[v0.r, v0.k, v0.f, v0.t] 27 ∧ Blk u14 (w.heap.size + 1) #[.int .i64 p2.head, v2.b, v2.k] 50 ∧ Below w.heap.size w u14) ∧ Blk u14 Y #[.int .i64 p2.head, .slice y1 p2.back.length d1, .slice y2 p2.blocks.length d2] 53) := ⟨⟨E14.out.1.1.keep bl14, E14.out.1.2.1.keep bl14, below_on E14.out.1.2.2 (Nat.le_refl _) bl14⟩, E14.out.2.2.1.keep bl14⟩
  clear bl14 E14
  go_simp
  refine hKC.out _ _ (KS _ E15.out.1.2.1 E15.out.2) (fun hHeld => ?_)
  clear hKC KC
  refine wpAnyH_take (i := 4) (v := ?_) rfl (by kernel_rfl) (by kernel_rfl) (by kernel_rfl) (fun _ _ _ h => h) (Or.inl ⟨by rfl, ?_⟩) (by assumption) ?_
  rotate_left
  · (intro w hSw; (try dsimp only at hSw); go_simp; (try with_reducible rfl))
  refine wpAnyH_done (by kernel_rfl) ?_ _
  clear hHeld KS
  go_wp2_with fail
  go_ret
  exact ⟨rfl, E15.out.1.2.2⟩

set_option maxRecDepth 100000 in
theorem lifted (os : Os) (started : os.Started) (H : Type) (enc : TypeId × Value → H) :
    ReturnsInHanded {} Tryz.checked os 5 .any (Rows.fnExactLoopFaultSpec.pre6 enc Tryz.prog Tryz.f5 Rows.fnExactLoopFaultRow.domain false) (Rows.fnExactLoopFaultSpec.post enc Tryz.prog Tryz.f5 false true false false) := by
  refine returnsInHanded_of_change (C := Tryz.checked) own started (by kernel_rfl) Tryz.func5
    (ChangeSpec.witness6 (enc := enc) (C := Tryz.checked) false ⟨#[], #[.agg #[.slice none 0 0, .slice none 0 0, .slice none 0 0, .slice none 0 0], .int .i64 0, .agg #[.int .i64 0, .slice none 0 0, .slice none 0 0]], []⟩ 8 (by kernel_rfl) (by kernel_rfl) (by kernel_rfl) (by kernel_rfl)) ?_
  intro W base args ds gs before hval0 hW hcnd _
  have hval : ∀ (j : Nat) t v, Tryz.f5.params[j]? = some t → args[j]? = some v → Value.okWide Tryz.prog W .any base t v := hval0
  have hW' := hW
  obtain ⟨p, q, hA0, hV, rfl, hfz, hnd⟩ := hW
  have hA : DataW.TrodAll enc Tryz.prog W 0 (fun _ => true) true Tryz.f5.params.toList args.toList ds p := hA0
  rw [Tryz.params5] at hA hval
  obtain ⟨x0, xs0, d0, ds0, q0, r0, hargs, rfl, rfl, t0, u0⟩ := trodAll_cons hA
  obtain ⟨x1, xs1, d1, ds1, q1, r1, rfl, rfl, rfl, t1, u1⟩ := trodAll_cons u0
  obtain ⟨x2, xs2, d2, ds2, q2, r2, rfl, rfl, rfl, t2, u2⟩ := trodAll_cons u1
  obtain ⟨rfl, rfl, rfl⟩ := trodAll_nil u2
  obtain rfl : args = #[x0, x1, x2] := by cases args; simp_all
  obtain ⟨rfl, rfl⟩ := trodVars_none hV
  obtain ⟨cs0, rfl, _⟩ := okWide_struct Tryz.underlying27 (hval 0 27 x0 rfl rfl)
  have k0 := t0
  have lt0 : ∀ x ∈ q0, x.block < W.heap.size := by obtain ⟨m, hm⟩ := k0; exact DataW.trod_lt m _ _ _ hm
  obtain ⟨p0, v0, e0, h0, b0, f0⟩ : ∃ (p : MP) (v : VP), cs0 = #[v.r, v.k, v.f, v.t] ∧ RdP W v p ∧ p.fits ∧ p.wf := by
    obtain ⟨fuel, hf⟩ := t0
    obtain ⟨p, v, e, h, b, f⟩ := open_program hf
    exact ⟨p, v, by apply Array.toList_inj.1; exact e, h, b, f⟩
  subst e0
  obtain ⟨p1, rfl⟩ := okWide_int Tryz.underlying2 (hval 1 2 x1 rfl rfl)
  have k1 := t1
  have lt1 : ∀ x ∈ q1, x.block < W.heap.size := by obtain ⟨m, hm⟩ := k1; exact DataW.trod_lt m _ _ _ hm
  have f1 : W64 p1 := by
    obtain ⟨fuel, hf⟩ := t1
    obtain ⟨z, e, h⟩ := open_i64 hf
    have e2 : p1 = z := by simpa [intCell, Value.cells] using e
    rw [e2]
    exact h
  obtain ⟨cs2, rfl, _⟩ := okWide_struct Tryz.underlying50 (hval 2 50 x2 rfl rfl)
  have k2 := t2
  have lt2 : ∀ x ∈ q2, x.block < W.heap.size := by obtain ⟨m, hm⟩ := k2; exact DataW.trod_lt m _ _ _ hm
  obtain ⟨p2, v2, e2, h2, b2, f2⟩ : ∃ (p : ML) (v : VL), cs2 = #[.int .i64 p.head, v.b, v.k] ∧ RdLv W v p ∧ p.fits ∧ p.wf := by
    obtain ⟨fuel, hf⟩ := t2
    obtain ⟨p, v, e, h, b, f⟩ := open_loop hf
    exact ⟨p, v, by apply Array.toList_inj.1; exact e, h, b, f⟩
  subst e2
  clear hA0 hval0
  refine (walk v0 p0 p1 v2 p2 W h0 b0 f0 f1 h2 b2 f2).mono fun e W' ⟨he, bel⟩ => ?_
  subst he
  exact ⟨_, rfl, _, _, _, [], _, [], hW', trodAll_mk1 (shut_bool Tryz.underlying4 _), (trodAll_cons_mk (Below.trod laidOut (by kernel_rfl) (of_decide_eq_true (by kernel_rfl)) k0 bel lt0) (trodAll_cons_mk (Below.trod laidOut (by kernel_rfl) (of_decide_eq_true (by kernel_rfl)) k1 bel lt1) (trodAll_cons_mk (Below.trod laidOut (by kernel_rfl) (of_decide_eq_true (by kernel_rfl)) k2 bel lt2) trodAll_mk0))), rfl, bel.frame _, fun h => by cases h⟩

theorem over : Rows.fnExactLoopFaultRow.holds Tryz.pinned (OpenSpec.ofChange Rows.fnExactLoopFaultSpec) :=
  OpenClaim.holds_of_wide 5 Tryz.f5 rfl rfl rfl rfl rfl rfl rfl ⟨rfl, rfl, rfl, rfl, rfl⟩ rfl rfl rfl rfl rfl (by kernel_rfl) Tryz.func5 (by kernel_rfl)
    (of_decide_eq_true (by kernel_rfl)) (by unfold Func.isWrapper; first | (rw [if_pos (by decide +kernel)]; kernel_rfl) | (rw [if_neg (by decide +kernel)]; exact ⟨rfl, rfl⟩))
    (fun os started H enc _ => lifted os started H enc)

theorem proved : Rows.FnExactLoopFaultSaid := over
#print axioms proved
end Go.Proofs.YtdfmdgbolmbffaaGreat.fnExactLoopFault
namespace Go.Proofs.YtdfmdgbolmbffaaGreat
theorem fnExactLoopFault_holds : Rows.FnExactLoopFaultSaid := fnExactLoopFault.proved
end Go.Proofs.YtdfmdgbolmbffaaGreat
