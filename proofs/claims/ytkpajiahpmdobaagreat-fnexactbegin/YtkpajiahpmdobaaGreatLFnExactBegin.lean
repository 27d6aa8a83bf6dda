/- FnExactBegin: the walk, the row. -/
import Derived.Test.YtkpajiahpmdobaaGreatRows
import Derived.Test.YtkpajiahpmdobaaGreatLBeg1
import Derived.WalkKit
import Derived.ProofKit
import Derived.OpenShut
import Derived.ShutString
import Derived.ChangeOld
import Derived.Below
namespace Go.Proofs.YtkpajiahpmdobaaGreat.fnExactBegin
open Go.ChangeShapes Go.WideShapes Go.ChangeAt Go.RowKit
set_option linter.unusedVariables false

theorem own : ownKnob Tryz.prog.godebug = none := by kernel_rfl
theorem laidOut : laidOutB Tryz.prog = true := by kernel_rfl

set_option maxRecDepth 100000 in
set_option maxHeartbeats 8000000 in
theorem walk (v0 : VP) (p0 : MP) (v1 : VM) (p1 : MM) (w : World) (h0 : RdP w v0 p0) (b0 : p0.fits) (f0 : p0.wf) (h1 : RdM w v1 p1) (b1 : p1.fits) (f1 : p1.wf) :
    Calls Tryz.prog 3 #[.agg #[v0.r, v0.k, v0.f, v0.t], .agg #[v1.i, v1.o, v1.k]] w fun e w' => e = .returned (.bool true) ∧ Below w.heap.size w w' := by
  have B0 : Below w.heap.size w ((w.alloc (.cells #[v0.r, v0.k, v0.f, v0.t] 27)).alloc (.cells #[v1.i, v1.o, v1.k] 30)) := below_on (below_alloc _ _) (Nat.le_refl _) (below_alloc _ _)
  have A0 : At4 ((w.alloc (.cells #[v0.r, v0.k, v0.f, v0.t] 27)).alloc (.cells #[v1.i, v1.o, v1.k] 30)) w.heap.size v0.r v0.k v0.f v0.t := (At4.new w _ _ _ _ _).alloc _
  have A1 : At3 ((w.alloc (.cells #[v0.r, v0.k, v0.f, v0.t] 27)).alloc (.cells #[v1.i, v1.o, v1.k] 30)) (w.heap.size + 1) v1.i v1.o v1.k := by
    have := At3.new (w.alloc (.cells #[v0.r, v0.k, v0.f, v0.t] 27)) v1.i v1.o v1.k 30
    simpa using this
  have HF : Hid (p0.fits ∧ p1.fits ∧ RdP w v0 p0 ∧ RdM w v1 p1) := ⟨b0, b1, h0, h1⟩
  have HWF : Hid (p0.wf ∧ p1.wf) := ⟨f0, f1⟩
  clear b0 b1 f0 f1 h0 h1
  go_enter Tryz.func3, Tryz.ntmps3
  go_wp2_with fail
  refine (szProgram_any v0 p0 1048576 _ HF.out.1 (HF.out.2.2.1.keep B0 (Nat.le_refl _)) (by omega) (by omega)).mono ?_
  rintro e u1 ⟨r1, rfl, hr1, bl1⟩
  have B1 : Hid (Below w.heap.size w u1) := below_on B0 (Nat.le_refl _) bl1
  have Q0 : Hid (At4 u1 w.heap.size v0.r v0.k v0.f v0.t) := A0.keep bl1
  have Q1 : Hid (At3 u1 (w.heap.size + 1) v1.i v1.o v1.k) := A1.keep bl1
  clear B0 A0 A1 bl1
  rcases hr1 with rfl | ⟨hr0, hr1, hs0⟩
  · go_wp2
    go_ret
    exact ⟨rfl, B1.out⟩
  have S0 : Hid p0.small := hs0
  clear hs0
  have hrn : ¬ r1 < 0 := by omega
  obtain ⟨i0, i1, i2⟩ := Q1.out
  go_wp2_with fail
  refine (szMemory_any v1 p1 r1 _ HF.out.2.1 (HF.out.2.2.2.keep B1.out (Nat.le_refl _)) hr0 hr1).mono ?_
  rintro e u2 ⟨r2, rfl, hr2, bl2⟩
  have B2 : Hid (Below w.heap.size w u2) := below_on B1.out (Nat.le_refl _) bl2
  have P0 : Hid (At4 u2 w.heap.size v0.r v0.k v0.f v0.t) := Q0.out.keep bl2
  have P1 : Hid (At3 u2 (w.heap.size + 1) v1.i v1.o v1.k) := Q1.out.keep bl2
  clear B1 Q0 Q1 bl2 i0 i1 i2 hr0 hr1 hrn
  rcases hr2 with rfl | ⟨hr0, hr1, hs1⟩
  · go_wp2
    go_ret
    exact ⟨rfl, B2.out⟩
  have S1 : Hid p1.small := hs1
  clear hs1
  have hrn : ¬ r2 < 0 := by omega
  have HL : Hid (L2 w u2 v0 v1) := ⟨P0.out, P1.out, B2.out⟩
  clear P0 P1 B2
  have R0 : Hid (RdP u2 v0 p0) := HF.out.2.2.1.keep HL.out.bel (Nat.le_refl _)
  have R1 : Hid (RdM u2 v1 p1) := HF.out.2.2.2.keep HL.out.bel (Nat.le_refl _)
  have D1 : Hid (Below u2.heap.size u2 u2) := below_same u2
  have D0 : Hid (Below u2.heap.size u2 u2.drew) := below_drew1 _
  have KS := (HL.out.keep (below_drew1 _)).all
  go_upto_region 8 with fail
  go_cut [6] from 14 to 91 (fun s wx => ∃ X, s = .pointer (some ⟨X, 0, none⟩) ∧ Hid (CutS p0 p1 u2 wx X))
  case first =>
    go_region_held3 (fun w' => w'.cell? ⟨w.heap.size, 0, none⟩ = some v0.r ∧ w'.cell? ⟨w.heap.size, 1, none⟩ = some v0.k ∧ w'.cell? ⟨w.heap.size, 2, none⟩ = some v0.f ∧ w'.cell? ⟨w.heap.size, 3, none⟩ = some v0.t ∧ w'.cell? ⟨w.heap.size + 1, 0, none⟩ = some v1.i ∧ w'.cell? ⟨w.heap.size + 1, 1, none⟩ = some v1.o ∧ w'.cell? ⟨w.heap.size + 1, 2, none⟩ = some v1.k) (first | with_reducible exact KS | exact (HL.out.keep (by (repeat' (first | with_reducible exact Hid.out (by assumption) | (with_reducible refine Below.setCell ?_ (by (first | omega | (simp only []; omega) | (simp only [World.size_alloc]; omega) | (simp only [World.size_setCell]; omega) | (simp only [World.size_drew]; omega) | (simp only [World.size_alloc, World.size_setCell]; omega) | (simp only [World.size_alloc, World.size_drew]; omega) | (simp only [World.size_setCell, World.size_drew]; omega) | (simp only [World.size_alloc, World.size_setCell, World.size_drew]; omega))) _) | (with_reducible refine below_on ?_ (Nat.le_refl _) (below_alloc _ _)) | (with_reducible refine below_on ?_ (Nat.le_refl _) (below_drew1 _)))))).all) (first
      | (go_at_call 7; refine (toProgram_any v0 p0 _ S0.out ?_).mono ?_; exact R0.out.keep (B := u2.heap.size) (by (repeat' (first | with_reducible exact Hid.out (by assumption) | (with_reducible refine below_on ?_ (Nat.le_refl _) (below_alloc _ _)) | (with_reducible refine below_on ?_ (Nat.le_refl _) (below_drew1 _))))) (Nat.le_refl _); rintro e k3 ⟨a1, c1, a2, c2, a3, c3, a4, c4, rfl, own3, bb1⟩; have B3 : Hid (Below u2.heap.size u2 k3) := below_on (by (repeat' (first | with_reducible exact Hid.out (by assumption) | (with_reducible refine below_on ?_ (Nat.le_refl _) (below_alloc _ _)) | (with_reducible refine below_on ?_ (Nat.le_refl _) (below_drew1 _))))) (Nat.le_refl _) bb1; have O3 : Hid (RdP k3 ⟨.slice a1 p0.regions.length c1, .slice a2 p0.consts.length c2, .slice a3 p0.funcs.length c3, .slice a4 p0.certs.length c4⟩ p0 ∧ RdRc k3 (.slice a1 p0.regions.length c1) p0.regions ∧ RdFp k3 (.slice a3 p0.funcs.length c3) p0.funcs) := ⟨own3.rd, own3.regions.rdc, own3.funcs.rdp⟩; (try (have NX : Blk k3 _ #[.int .i64 0, .bool false, .int .i64 0, .int .i64 0, .slice none 0 0, .slice none 0 0, .slice none 0 0] 37 := (by first | with_reducible exact (Blk.new _ _ _).keep bb1 | with_reducible exact ((Blk.new _ _ _).keep (below_drew1 _)).keep bb1); have NN : Hid (Blk k3 _ #[.int .i64 0, .bool false, .int .i64 0, .int .i64 0, .slice none 0 0, .slice none 0 0, .slice none 0 0] 37) := NX; clear NX)); (try (have NN : Hid (Blk k3 _ #[.int .i64 0, .bool false, .int .i64 0, .int .i64 0, .slice none 0 0, .slice none 0 0, .slice none 0 0] 37) := NN.out.keep bb1)); have D3 : Hid (Below k3.heap.size k3 k3) := below_same k3; have zB3 := B3.out.size; have KS := (HL.out.keep B3.out).all; clear own3 bb1)
      | (go_at_call 8; have hh := B3; clear hh; refine (toMemory_any v1 p1 _ S1.out ?_).mono ?_; exact R1.out.keep (B := u2.heap.size) (by (repeat' (first | with_reducible exact Hid.out (by assumption) | (with_reducible refine below_on ?_ (Nat.le_refl _) (below_alloc _ _)) | (with_reducible refine below_on ?_ (Nat.le_refl _) (below_drew1 _))))) (Nat.le_refl _); rintro e k4 ⟨d1, f1, d2, f2, d3, f3, rfl, own4, bb1⟩; have B4 : Hid (Below u2.heap.size u2 k4) := below_on (by (repeat' (first | with_reducible exact Hid.out (by assumption) | (with_reducible refine below_on ?_ (Nat.le_refl _) (below_alloc _ _)) | (with_reducible refine below_on ?_ (Nat.le_refl _) (below_drew1 _))))) (Nat.le_refl _) bb1; have C4 : Below k3.heap.size k3 k4 := below_on (by (repeat' (first | with_reducible exact Hid.out (by assumption) | (with_reducible refine below_on ?_ (Nat.le_refl _) (below_alloc _ _)) | (with_reducible refine below_on ?_ (Nat.le_refl _) (below_drew1 _))))) (Nat.le_refl _) bb1; have O4 : Hid ((RdP k4 ⟨.slice a1 p0.regions.length c1, .slice a2 p0.consts.length c2, .slice a3 p0.funcs.length c3, .slice a4 p0.certs.length c4⟩ p0 ∧ RdRc k4 (.slice a1 p0.regions.length c1) p0.regions ∧ RdFp k4 (.slice a3 p0.funcs.length c3) p0.funcs) ∧ RdM k4 ⟨.slice d1 p1.ins.length f1, .slice d2 p1.outs.length f2, .slice d3 p1.keeps.length f3⟩ p1) := ⟨⟨O3.out.1.keep C4 (Nat.le_refl _), O3.out.2.1.keep C4 (Nat.le_refl _), O3.out.2.2.keep C4 (Nat.le_refl _)⟩, own4.rd⟩; (try (have NX : Blk k4 _ #[.int .i64 0, .bool false, .int .i64 0, .int .i64 0, .slice none 0 0, .slice none 0 0, .slice none 0 0] 37 := (by first | with_reducible exact (Blk.new _ _ _).keep bb1 | with_reducible exact ((Blk.new _ _ _).keep (below_drew1 _)).keep bb1); have NN : Hid (Blk k4 _ #[.int .i64 0, .bool false, .int .i64 0, .int .i64 0, .slice none 0 0, .slice none 0 0, .slice none 0 0] 37) := NX; clear NX)); (try (have NN : Hid (Blk k4 _ #[.int .i64 0, .bool false, .int .i64 0, .int .i64 0, .slice none 0 0, .slice none 0 0, .slice none 0 0] 37) := NN.out.keep bb1)); have D4 : Hid (Below k4.heap.size k4 k4) := below_same k4; have zB4 := B4.out.size; have KS := (HL.out.keep B4.out).all; clear own4 bb1 C4)
      | (go_at_call 6; have hh := B4; clear hh; refine (specBegin_sl ⟨.slice a1 p0.regions.length c1, .slice a2 p0.consts.length c2, .slice a3 p0.funcs.length c3, .slice a4 p0.certs.length c4⟩ p0 ⟨.slice d1 p1.ins.length f1, .slice d2 p1.outs.length f2, .slice d3 p1.keeps.length f3⟩ p1 _ S0.out HWF.out.1 S1.out HWF.out.2 ?_ ?_).mono ?_; exact ⟨O4.out.1.1.keep (B := k4.heap.size) (by (repeat' (first | with_reducible exact Hid.out (by assumption) | (with_reducible refine below_on ?_ (Nat.le_refl _) (below_alloc _ _)) | (with_reducible refine below_on ?_ (Nat.le_refl _) (below_drew1 _))))) (Nat.le_refl _), O4.out.1.2.1.keep (B := k4.heap.size) (by (repeat' (first | with_reducible exact Hid.out (by assumption) | (with_reducible refine below_on ?_ (Nat.le_refl _) (below_alloc _ _)) | (with_reducible refine below_on ?_ (Nat.le_refl _) (below_drew1 _))))) (Nat.le_refl _), O4.out.1.2.2.keep (B := k4.heap.size) (by (repeat' (first | with_reducible exact Hid.out (by assumption) | (with_reducible refine below_on ?_ (Nat.le_refl _) (below_alloc _ _)) | (with_reducible refine below_on ?_ (Nat.le_refl _) (below_drew1 _))))) (Nat.le_refl _)⟩; exact O4.out.2.keep (B := k4.heap.size) (by (repeat' (first | with_reducible exact Hid.out (by assumption) | (with_reducible refine below_on ?_ (Nat.le_refl _) (below_alloc _ _)) | (with_reducible refine below_on ?_ (Nat.le_refl _) (below_drew1 _))))) (Nat.le_refl _); rintro e k5 ⟨s, g1, h1, g2, h2, g3, h3, rfl, hbeg, hown, bb1⟩; have B5 : Hid (Below u2.heap.size u2 k5) := below_on (by (repeat' (first | with_reducible exact Hid.out (by assumption) | (with_reducible refine below_on ?_ (Nat.le_refl _) (below_alloc _ _)) | (with_reducible refine below_on ?_ (Nat.le_refl _) (below_drew1 _))))) (Nat.le_refl _) bb1; have O5 : Hid (BegIs p0 p1 s ∧ ∃ B, OwnS k5 B ⟨.slice g1 s.cells.length h1, .slice g2 s.stack.length h2, .slice g3 s.frames.length h3⟩ s) := ⟨hbeg, hown⟩; (try (have NX : Blk k5 _ #[.int .i64 0, .bool false, .int .i64 0, .int .i64 0, .slice none 0 0, .slice none 0 0, .slice none 0 0] 37 := (by first | with_reducible exact (Blk.new _ _ _).keep bb1 | with_reducible exact ((Blk.new _ _ _).keep (below_drew1 _)).keep bb1); have NN : Hid (Blk k5 _ #[.int .i64 0, .bool false, .int .i64 0, .int .i64 0, .slice none 0 0, .slice none 0 0, .slice none 0 0] 37) := NX; clear NX)); (try (have NN : Hid (Blk k5 _ #[.int .i64 0, .bool false, .int .i64 0, .int .i64 0, .slice none 0 0, .slice none 0 0, .slice none 0 0] 37) := NN.out.keep bb1)); (try (obtain ⟨e0, e1, e2, e3, e4, e5, e6⟩ := blk7 NN.out; have n1 := block_lt_of_cell e0; simp only [] at n1; have n2 := Nat.ne_of_lt n1; have n3 := Ne.symm n2; have z0' := NN.out.frozen 0; have z1' := NN.out.frozen 1; have z2' := NN.out.frozen 2; have z3' := NN.out.frozen 3; have z4' := NN.out.frozen 4; have z5' := NN.out.frozen 5; have z6' := NN.out.frozen 6)); have zB5 := B5.out.size; have KS := (HL.out.keep B5.out).all; clear hown hbeg bb1))
    all_goals
      obtain ⟨hbeg, B, hown⟩ := O5.out
      have HE : Hid (BegIs p0 p1 s ∧ OwnS k5 B ⟨.slice g1 s.cells.length h1, .slice g2 s.stack.length h2, .slice g3 s.frames.length h3⟩ s) := ⟨hbeg, hown⟩
      clear hbeg hown
      go_wp2_with fail
      go_meet
      first
        | with_reducible exact ⟨_, rfl, CutS.late HE.out.1 HE.out.2 B5.out⟩
        | with_reducible exact ⟨_, rfl, CutS.early HE.out.1 HE.out.2 B5.out NN.out (by first | exact Nat.le_refl _ | omega)⟩
  case rest =>
  obtain ⟨X, rfl, HC⟩ := hcut
  obtain ⟨Wc, hN⟩ : ∃ W, W = wc := ⟨_, rfl⟩
  subst hN
  obtain ⟨s, a1, c1, a2, c2, a3, c3, hbg, hst, hbw⟩ := HC.out
  have HS : Hid (BegIs p0 p1 s ∧ StB Wc X s a1 a2 a3 c1 c2 c3 ∧ s.small) := ⟨hbg, hst, hbg.small S0.out⟩
  have HLc : Hid (L2 w Wc v0 v1) := HL.out.keep hbw
  clear HC hbg hst hbw HL R0 R1 D0 D1 KS
  obtain ⟨i0, i1, i2, i3⟩ := HLc.out.p
  go_wp2_with fail
  refine (toProgram_any v0 p0 _ S0.out (HF.out.2.2.1.keep HLc.out.bel (Nat.le_refl _))).mono ?_
  rintro e u6 ⟨x1, e1, x2, e2, x3, e3, x4, e4, rfl, own6, bl6⟩
  have W6 : Hid (Below Wc.heap.size Wc u6) := bl6
  have X6 : Hid (OwnP u6 Wc.heap.size ⟨.slice x1 p0.regions.length e1, .slice x2 p0.consts.length e2, .slice x3 p0.funcs.length e3, .slice x4 p0.certs.length e4⟩ p0) := own6
  clear own6 bl6 i0 i1 i2 i3
  have L6 := HLc.out.keep W6.out
  obtain ⟨i0, i1, i2⟩ := L6.m
  have nb : ¬ w.heap.size + 1 = u6.heap.size := Nat.ne_of_lt L6.m.lt
  have mb : w.heap.size + 1 < u6.heap.size := L6.m.lt
  have HL6 : Hid (L2 w u6 v0 v1) := L6
  clear L6
  go_wp2_with fail
  have bA := below_alloc u6 (.cells #[.slice x1 p0.regions.length e1, .slice x2 p0.consts.length e2, .slice x3 p0.funcs.length e3, .slice x4 p0.certs.length e4] 43)
  refine (toMemory_any v1 p1 _ S1.out (HF.out.2.2.2.keep (below_on HL6.out.bel (Nat.le_refl _) bA) (Nat.le_refl _))).mono ?_
  rintro e u7 ⟨y1, g1, y2, g2, y3, g3, rfl, own7, bl7⟩
  have bB : Below u6.heap.size u6 u7 := below_on bA (Nat.le_refl _) bl7
  have V7 : Hid (Below u6.heap.size u6 u7) := bB
  have HZ7 : Hid (u6.heap.size + 1 ≤ u7.heap.size) := by
    have hh := bl7.size
    simp only [World.size_alloc] at hh
    exact hh
  have W7 : Hid (Below Wc.heap.size Wc u7) := below_on W6.out (Nat.le_refl _) bB
  have QX : Hid (At4 u7 u6.heap.size (.slice x1 p0.regions.length e1) (.slice x2 p0.consts.length e2) (.slice x3 p0.funcs.length e3) (.slice x4 p0.certs.length e4)) := (At4.new u6 _ _ _ _ _).keep bl7
  have X7 : Hid (OwnP u7 Wc.heap.size ⟨.slice x1 p0.regions.length e1, .slice x2 p0.consts.length e2, .slice x3 p0.funcs.length e3, .slice x4 p0.certs.length e4⟩ p0) := X6.out.keep bB (Nat.le_refl _)
  have Y7 : Hid (OwnM u7 (u6.heap.size + 1) ⟨.slice y1 p1.ins.length g1, .slice y2 p1.outs.length g2, .slice y3 p1.keeps.length g3⟩ p1) := by
    have := own7
    rw [show (u6.alloc (.cells #[.slice x1 p0.regions.length e1, .slice x2 p0.consts.length e2, .slice x3 p0.funcs.length e3, .slice x4 p0.certs.length e4] 43)).heap.size = u6.heap.size + 1 by simp] at this
    exact this
  clear own7 bl7 bA bB i0 i1 i2 nb mb HL6
  obtain ⟨i0, i1, i2, i3⟩ := QX.out
  have nb : ¬ u6.heap.size = u7.heap.size := Nat.ne_of_lt QX.out.lt
  have mb : u6.heap.size < u7.heap.size := QX.out.lt
  go_wp2_with fail
  have bA := below_alloc u7 (.cells #[.slice y1 p1.ins.length g1, .slice y2 p1.outs.length g2, .slice y3 p1.keeps.length g3] 45)
  have X7' := X7.out.keep bA (Nat.le_refl _)
  refine (implBegin_ex ⟨.slice x1 p0.regions.length e1, .slice x2 p0.consts.length e2, .slice x3 p0.funcs.length e3, .slice x4 p0.certs.length e4⟩ p0 ⟨.slice y1 p1.ins.length g1, .slice y2 p1.outs.length g2, .slice y3 p1.keeps.length g3⟩ p1 _ S0.out HWF.out.1 S1.out HWF.out.2 ⟨X7'.rd, X7'.regions.rdc, X7'.funcs.rdp⟩ (Y7.out.rd.keep bA (Nat.le_refl _))).mono ?_
  rintro e u8 ⟨C, K, F, s', b1, l1, b2, l2, b3, l3, rfl, hb8, hst8, hsm8, own8, bl8⟩
  have es : s = s' := HS.out.1.one hb8
  subst es
  have bB : Below u7.heap.size u7 u8 := below_on bA (Nat.le_refl _) bl8
  have V8 : Hid (Below u7.heap.size u7 u8) := bB
  have HZ8 : Hid (u7.heap.size + 1 ≤ u8.heap.size) := by
    have hh := bl8.size
    simp only [World.size_alloc] at hh
    exact hh
  have W8 : Hid (Below Wc.heap.size Wc u8) := below_on W7.out (Nat.le_refl _) bB
  have PX : Hid (At4 u8 u6.heap.size (.slice x1 p0.regions.length e1) (.slice x2 p0.consts.length e2) (.slice x3 p0.funcs.length e3) (.slice x4 p0.certs.length e4)) := QX.out.keep bB
  have PY : Hid (At3 u8 u7.heap.size (.slice y1 p1.ins.length g1) (.slice y2 p1.outs.length g2) (.slice y3 p1.keeps.length g3)) := (At3.new u7 _ _ _ _).keep bl8
  have HE : Hid (s = stOf s.trap s.done s.cost s.steps C K F ∧ SmallSE C K F) := ⟨hst8, hsm8⟩
  have G8 : Hid (OwnSE u8 (u7.heap.size + 1) ⟨.slice b1 s.cells.length l1, .slice b2 s.stack.length l2, .slice b3 s.frames.length l3⟩ C K F) := by
    have := own8
    rw [show (u7.alloc (.cells #[.slice y1 p1.ins.length g1, .slice y2 p1.outs.length g2, .slice y3 p1.keeps.length g3] 45)).heap.size = u7.heap.size + 1 by simp] at this
    exact this
  clear hb8 hst8 hsm8 own8 bl8 bA bB X7' i0 i1 i2 i3 nb mb QX
  have st8 := HS.out.2.1.keep W8.out
  obtain ⟨i0, i1, i2, i3, i4, i5, i6⟩ := blk7 st8.blk
  have nb : ¬ X = u8.heap.size := Nat.ne_of_lt st8.blk.lt
  have mb : X < u8.heap.size := st8.blk.lt
  have T8 : Hid (StB u8 X s a1 a2 a3 c1 c2 c3) := st8
  clear st8
  go_wp2_with fail
  have bA := below_alloc u8 (.cells #[.int .i64 s.trap, .bool s.done, .int .i64 s.cost, .int .i64 s.steps, .slice b1 s.cells.length l1, .slice b2 s.stack.length l2, .slice b3 s.frames.length l3] 37)
  refine (eqState_same ⟨.slice b1 s.cells.length l1, .slice b2 s.stack.length l2, .slice b3 s.frames.length l3⟩ ⟨.slice a1 s.cells.length c1, .slice a2 s.stack.length c2, .slice a3 s.frames.length c3⟩ s _ HS.out.2.2 ((G8.out.rdS HE.out.1).keep bA (Nat.le_refl _)) (T8.out.rd.keep bA (Nat.le_refl _))).mono ?_
  rintro e u9 ⟨rfl, bl9⟩
  have bB : Below u8.heap.size u8 u9 := below_on bA (Nat.le_refl _) bl9
  have W9 : Hid (Below Wc.heap.size Wc u9) := below_on W8.out (Nat.le_refl _) bB
  have V9 : Hid (Below u7.heap.size u7 u9) := below_on V8.out (Nat.le_refl _) bB
  have QX : Hid (At4 u9 u6.heap.size (.slice x1 p0.regions.length e1) (.slice x2 p0.consts.length e2) (.slice x3 p0.funcs.length e3) (.slice x4 p0.certs.length e4)) := PX.out.keep bB
  have QY : Hid (At3 u9 u7.heap.size (.slice y1 p1.ins.length g1) (.slice y2 p1.outs.length g2) (.slice y3 p1.keeps.length g3)) := PY.out.keep bB
  have QS : Hid (Blk u9 u8.heap.size #[.int .i64 s.trap, .bool s.done, .int .i64 s.cost, .int .i64 s.steps, .slice b1 s.cells.length l1, .slice b2 s.stack.length l2, .slice b3 s.frames.length l3] 37) := (Blk.new u8 _ _).keep bl9
  have G9 : Hid (OwnSE u9 (u7.heap.size + 1) ⟨.slice b1 s.cells.length l1, .slice b2 s.stack.length l2, .slice b3 s.frames.length l3⟩ C K F) := G8.out.keep bB
  clear bl9 bA bB i0 i1 i2 i3 i4 i5 i6 nb mb T8 G8 PX PY V8 W8 X7
  have X9 : Hid (RdP u9 ⟨.slice x1 p0.regions.length e1, .slice x2 p0.consts.length e2, .slice x3 p0.funcs.length e3, .slice x4 p0.certs.length e4⟩ p0) := (X6.out.keep (below_on V7.out (Nat.le_refl _) V9.out) (Nat.le_refl _)).rd
  have L9 : Hid (L2 w u9 v0 v1) := HLc.out.keep W9.out
  have R0 : Hid (RdP u9 v0 p0) := HF.out.2.2.1.keep L9.out.bel (Nat.le_refl _)
  obtain ⟨i0, i1, i2, i3⟩ := L9.out.p
  obtain ⟨j0, j1, j2, j3⟩ := QX.out
  go_upto_region 14 with fail
  go_cut [44] from 14 to 91 (fun s wx => s = .bool false ∧ Hid (Below u9.heap.size u9 wx))
  case first =>
    go_region_with (first
      | (go_at_call 7; refine (toProgram_any v0 p0 _ S0.out ?_).mono ?_; exact R0.out.keep (below_drew1 _) (Nat.le_refl _); rintro e k9 ⟨m1, n1, m2, n2, m3, n3, m4, n4, rfl, own9, bl9⟩; have B9 : Hid (Below u9.heap.size u9 k9) := below_drew_trans bl9 (Nat.le_refl _); have O9 : Hid (RdP k9 ⟨.slice m1 p0.regions.length n1, .slice m2 p0.consts.length n2, .slice m3 p0.funcs.length n3, .slice m4 p0.certs.length n4⟩ p0) := own9.rd; clear own9 bl9; obtain ⟨k0, k1, k2, k3⟩ := QX.out.keep B9.out)
      | (go_at_call 11; refine (eqProgram_same ⟨.slice x1 p0.regions.length e1, .slice x2 p0.consts.length e2, .slice x3 p0.funcs.length e3, .slice x4 p0.certs.length e4⟩ ⟨.slice m1 p0.regions.length n1, .slice m2 p0.consts.length n2, .slice m3 p0.funcs.length n3, .slice m4 p0.certs.length n4⟩ p0 _ S0.out ?_ ?_).mono ?_; exact X9.out.keep B9.out (Nat.le_refl _); exact O9.out; rintro e k10 ⟨rfl, bl10⟩; have B10 : Hid (Below u9.heap.size u9 k10) := below_on B9.out (Nat.le_refl _) bl10; clear bl10))
    all_goals (go_wp2_with fail; go_meet; exact ⟨rfl, B10⟩)
  case rest =>
  obtain ⟨rfl, HC⟩ := hcut
  obtain ⟨u10, hN⟩ : ∃ W, W = wc := ⟨_, rfl⟩
  subst hN
  have HC9 : Hid (Below u9.heap.size u9 u10) := HC.out
  have L10 : Hid (L2 w u10 v0 v1) := L9.out.keep HC9.out
  have PY : Hid (At3 u10 u7.heap.size (.slice y1 p1.ins.length g1) (.slice y2 p1.outs.length g2) (.slice y3 p1.keeps.length g3)) := QY.out.keep HC9.out
  have Y10 : Hid (RdM u10 ⟨.slice y1 p1.ins.length g1, .slice y2 p1.outs.length g2, .slice y3 p1.keeps.length g3⟩ p1) := Y7.out.rd.keep (below_on V9.out (Nat.le_refl _) HC9.out) (Nat.le_refl _)
  have R1 : Hid (RdM u10 v1 p1) := HF.out.2.2.2.keep L10.out.bel (Nat.le_refl _)
  clear HC i0 i1 i2 i3 j0 j1 j2 j3 X9 R0 L9
  obtain ⟨i0, i1, i2⟩ := L10.out.m
  obtain ⟨j0, j1, j2⟩ := PY.out
  go_upto_region 16 with fail
  go_cut [49] from 14 to 91 (fun s wx => s = .bool false ∧ Hid (Below u10.heap.size u10 wx))
  case first =>
    go_region_with (first
      | (go_at_call 8; refine (toMemory_any v1 p1 _ S1.out ?_).mono ?_; exact R1.out.keep (below_drew1 _) (Nat.le_refl _); rintro e k9 ⟨m1, n1, m2, n2, m3, n3, rfl, own9, bl9⟩; have B19 : Hid (Below u10.heap.size u10 k9) := below_drew_trans bl9 (Nat.le_refl _); have O9 : Hid (RdM k9 ⟨.slice m1 p1.ins.length n1, .slice m2 p1.outs.length n2, .slice m3 p1.keeps.length n3⟩ p1) := own9.rd; clear own9 bl9; obtain ⟨k0, k1, k2⟩ := PY.out.keep B19.out)
      | (go_at_call 12; refine (eqMemory_same ⟨.slice y1 p1.ins.length g1, .slice y2 p1.outs.length g2, .slice y3 p1.keeps.length g3⟩ ⟨.slice m1 p1.ins.length n1, .slice m2 p1.outs.length n2, .slice m3 p1.keeps.length n3⟩ p1 _ S1.out ?_ ?_).mono ?_; exact Y10.out.keep B19.out (Nat.le_refl _); exact O9.out; rintro e k10 ⟨rfl, bl10⟩; have B10 : Hid (Below u10.heap.size u10 k10) := below_on B19.out (Nat.le_refl _) bl10; clear bl10))
    all_goals (go_wp2_with fail; go_meet; exact ⟨rfl, B10⟩)
  case rest =>
  obtain ⟨rfl, HC⟩ := hcut
  obtain ⟨u11, hN⟩ : ∃ W, W = wc := ⟨_, rfl⟩
  subst hN
  have HC11 : Below u9.heap.size u9 u11 := below_on HC9.out (Nat.le_refl _) HC.out
  have W11 : Hid (Below Wc.heap.size Wc u11) := below_on W9.out (Nat.le_refl _) HC11
  have V11 : Hid (Below u7.heap.size u7 u11) := below_on V9.out (Nat.le_refl _) HC11
  have PX : Hid (At4 u11 u6.heap.size (.slice x1 p0.regions.length e1) (.slice x2 p0.consts.length e2) (.slice x3 p0.funcs.length e3) (.slice x4 p0.certs.length e4)) := QX.out.keep HC11
  have PY11 : Hid (At3 u11 u7.heap.size (.slice y1 p1.ins.length g1) (.slice y2 p1.outs.length g2) (.slice y3 p1.keeps.length g3)) := QY.out.keep HC11
  have PS : Hid (Blk u11 u8.heap.size #[.int .i64 s.trap, .bool s.done, .int .i64 s.cost, .int .i64 s.steps, .slice b1 s.cells.length l1, .slice b2 s.stack.length l2, .slice b3 s.frames.length l3] 37) := QS.out.keep HC11
  have G11 : Hid (OwnSE u11 (u7.heap.size + 1) ⟨.slice b1 s.cells.length l1, .slice b2 s.stack.length l2, .slice b3 s.frames.length l3⟩ C K F) := G9.out.keep HC11

  have zz1 : Wc.heap.size ≤ u6.heap.size := W6.out.size
  have zz2 : u6.heap.size < u7.heap.size := Nat.lt_of_lt_of_le (Nat.lt_succ_self _) (by have := HZ7.out; omega)
  have zz3 : u7.heap.size < u8.heap.size := by have := HZ8.out; omega
  have zz4 : u8.heap.size < u11.heap.size := PS.out.lt
  have HZ : Hid (Wc.heap.size ≤ u6.heap.size ∧ u6.heap.size < u7.heap.size ∧ u7.heap.size < u8.heap.size ∧ u8.heap.size < u11.heap.size) := ⟨zz1, zz2, zz3, zz4⟩
  clear HC HC9 HC11 zz1 zz2 zz3 zz4 QX QY QS G9 L10 PY Y10 R1 W9 V9 i0 i1 i2 j0 j1 j2
  obtain ⟨i0, i1, i2, i3⟩ := PX.out
  go_wp2_with fail
  refine (markProgram_any u6 Wc.heap.size ⟨.slice x1 p0.regions.length e1, .slice x2 p0.consts.length e2, .slice x3 p0.funcs.length e3, .slice x4 p0.certs.length e4⟩ p0 u11 S0.out X6.out (below_on V7.out (Nat.le_refl _) V11.out)).mono ?_
  rintro e u12 ⟨⟨k1, rfl, hk0, hk1⟩, mg⟩
  have W12 : Hid (Below Wc.heap.size Wc u12) := W11.out.trans (mg.below W11.out.size)
  have PY : Hid (At3 u12 u7.heap.size (.slice y1 p1.ins.length g1) (.slice y2 p1.outs.length g2) (.slice y3 p1.keeps.length g3)) := by
    have zz := HZ.out
    exact ⟨mg.cell PY11.out.c0 (.inr (by simp only []; omega)), mg.cell PY11.out.c1 (.inr (by simp only []; omega)), mg.cell PY11.out.c2 (.inr (by simp only []; omega))⟩
  have QS : Hid (Blk u12 u8.heap.size #[.int .i64 s.trap, .bool s.done, .int .i64 s.cost, .int .i64 s.steps, .slice b1 s.cells.length l1, .slice b2 s.stack.length l2, .slice b3 s.frames.length l3] 37) := PS.out.marks mg (by have := HZ.out; omega)
  have G12 : Hid (OwnSE u12 (u7.heap.size + 1) ⟨.slice b1 s.cells.length l1, .slice b2 s.stack.length l2, .slice b3 s.frames.length l3⟩ C K F) := G11.out.marks mg (by have := HZ.out; omega)
  have SH : Hid (Shaped u7 u12) := (Shaped.of_below V11.out).trans mg.shaped
  have z12 : Hid (u11.heap.size ≤ u12.heap.size) := mg.size
  clear mg i0 i1 i2 i3 W11 PY11 PS G11 V11 PX
  obtain ⟨i0, i1, i2⟩ := PY.out
  go_wp2_with fail
  refine (markMemArg_any u7 (u6.heap.size + 1) ⟨.slice y1 p1.ins.length g1, .slice y2 p1.outs.length g2, .slice y3 p1.keeps.length g3⟩ p1 k1 u12 S1.out hk0 (by omega) Y7.out SH.out).mono ?_
  rintro e u13 ⟨⟨k2, rfl, hk2⟩, mg⟩
  have W13 : Hid (Below Wc.heap.size Wc u13) := W12.out.trans ((mg.below (by have := HZ.out; have := z12.out; omega)).mono (by have := HZ.out; omega))
  have PS : Hid (Blk u13 u8.heap.size #[.int .i64 s.trap, .bool s.done, .int .i64 s.cost, .int .i64 s.steps, .slice b1 s.cells.length l1, .slice b2 s.stack.length l2, .slice b3 s.frames.length l3] 37) := QS.out.marks mg (by have := HZ.out; omega)
  have G13 : Hid (OwnSE u13 (u7.heap.size + 1) ⟨.slice b1 s.cells.length l1, .slice b2 s.stack.length l2, .slice b3 s.frames.length l3⟩ C K F) := G12.out.marks mg (by omega)
  have z13 : Hid (u12.heap.size ≤ u13.heap.size) := mg.size
  clear mg i0 i1 i2 W12 PY QS G12 SH hk0 hk1
  have hk2' : ¬ k2 < 0 := by omega
  have hkd : decide (k2 < 0) = false := by simp; omega
  have T13 : Hid (StB u13 X s a1 a2 a3 c1 c2 c3) := HS.out.2.1.keep W13.out
  obtain ⟨i0, i1, i2, i3, i4, i5, i6⟩ := blk7 T13.out.blk
  obtain ⟨j0, j1, j2, j3, j4, j5, j6⟩ := blk7 PS.out
  go_wp2_with fail
  refine (eqState_same ⟨.slice b1 s.cells.length l1, .slice b2 s.stack.length l2, .slice b3 s.frames.length l3⟩ ⟨.slice a1 s.cells.length c1, .slice a2 s.stack.length c2, .slice a3 s.frames.length c3⟩ s _ HS.out.2.2 (G13.out.rdS HE.out.1) T13.out.rd).mono ?_
  rintro e u14 ⟨rfl, bl⟩
  have W14 : Hid (Below Wc.heap.size Wc u14) := below_on W13.out (Nat.le_refl _) bl
  have QS : Hid (Blk u14 u8.heap.size #[.int .i64 s.trap, .bool s.done, .int .i64 s.cost, .int .i64 s.steps, .slice b1 s.cells.length l1, .slice b2 s.stack.length l2, .slice b3 s.frames.length l3] 37) := PS.out.keep bl
  have G14 : Hid (OwnSE u14 (u7.heap.size + 1) ⟨.slice b1 s.cells.length l1, .slice b2 s.stack.length l2, .slice b3 s.frames.length l3⟩ C K F) := G13.out.keep bl
  clear bl W13 PS G13 T13 i0 i1 i2 i3 i4 i5 i6 j0 j1 j2 j3 j4 j5 j6 hk2 hk2' hkd
  obtain ⟨j0, j1, j2, j3, j4, j5, j6⟩ := blk7 QS.out
  go_wp2_with fail
  refine (markState_ex (u7.heap.size + 1) ⟨.slice b1 s.cells.length l1, .slice b2 s.stack.length l2, .slice b3 s.frames.length l3⟩ C K F s.trap s.done s.cost s.steps u14 (by have := QS.out.lt; have := HZ.out; omega) HE.out.2 G14.out).mono ?_
  rintro e u15 ⟨rfl, own15, wf15⟩
  have W15 : Hid (Below Wc.heap.size Wc u15) := W14.out.trans (wf15.bel.mono (by have := HZ.out; omega))
  have PS : Hid (Blk u15 u8.heap.size #[.int .i64 s.trap, .bool s.done, .int .i64 s.cost, .int .i64 s.steps, .slice b1 s.cells.length l1, .slice b2 s.stack.length l2, .slice b3 s.frames.length l3] 37) := wf15.blk _ _ _ QS.out (by decide) (by decide)
  have G15 : Hid (OwnSE u15 (u7.heap.size + 1) ⟨.slice b1 s.cells.length l1, .slice b2 s.stack.length l2, .slice b3 s.frames.length l3⟩ (markRows 1 C) (markVs (kOf C) K.length) (markFs (kOf' C K) F)) := own15
  clear own15 wf15 W14 QS G14 j0 j1 j2 j3 j4 j5 j6
  obtain ⟨j0, j1, j2, j3, j4, j5, j6⟩ := blk7 PS.out
  go_wp2_with fail
  refine (heldState_ex (u7.heap.size + 1) ⟨.slice b1 s.cells.length l1, .slice b2 s.stack.length l2, .slice b3 s.frames.length l3⟩ C K F s.trap s.done s.cost s.steps u15 HE.out.2 G15.out).mono ?_
  rintro e u16 ⟨rfl, bl⟩
  have W16 : Hid (Below Wc.heap.size Wc u16) := below_on W15.out (Nat.le_refl _) bl
  have QS : Hid (Blk u16 u8.heap.size #[.int .i64 s.trap, .bool s.done, .int .i64 s.cost, .int .i64 s.steps, .slice b1 s.cells.length l1, .slice b2 s.stack.length l2, .slice b3 s.frames.length l3] 37) := PS.out.keep bl
  have G16 : Hid (OwnSE u16 (u7.heap.size + 1) ⟨.slice b1 s.cells.length l1, .slice b2 s.stack.length l2, .slice b3 s.frames.length l3⟩ (markRows 1 C) (markVs (kOf C) K.length) (markFs (kOf' C K) F)) := G15.out.keep bl
  clear bl W15 PS G15 j0 j1 j2 j3 j4 j5 j6
  have hT0 := endS_pos HE.out.2
  generalize hT : endF (kOf' C K) F = T at hT0 ⊢
  have HT : Hid (endF (kOf' C K) F = T) := hT
  clear hT
  have HL : Hid (L2 w u16 v0 v1) := HLc.out.keep W16.out
  have R0 : Hid (RdP u16 v0 p0) := HF.out.2.2.1.keep HL.out.bel (Nat.le_refl _)
  have R1 : Hid (RdM u16 v1 p1) := HF.out.2.2.2.keep HL.out.bel (Nat.le_refl _)
  have D1 : Hid (Below u16.heap.size u16 u16) := below_same u16
  have D0 : Hid (Below u16.heap.size u16 u16.drew) := below_drew1 _
  have KS := (HL.out.keep (below_drew1 _)).all
  go_upto_region 31 with fail
  go_cut [13] from 14 to 91 (fun s wx => ∃ X, s = .pointer (some ⟨X, 0, none⟩) ∧ Hid (CutS p0 p1 u16 wx X))
  case first =>
    go_region_held3 (fun w' => w'.cell? ⟨w.heap.size, 0, none⟩ = some v0.r ∧ w'.cell? ⟨w.heap.size, 1, none⟩ = some v0.k ∧ w'.cell? ⟨w.heap.size, 2, none⟩ = some v0.f ∧ w'.cell? ⟨w.heap.size, 3, none⟩ = some v0.t ∧ w'.cell? ⟨w.heap.size + 1, 0, none⟩ = some v1.i ∧ w'.cell? ⟨w.heap.size + 1, 1, none⟩ = some v1.o ∧ w'.cell? ⟨w.heap.size + 1, 2, none⟩ = some v1.k) (first | with_reducible exact KS | exact (HL.out.keep (by (repeat' (first | with_reducible exact Hid.out (by assumption) | (with_reducible refine Below.setCell ?_ (by (first | omega | (simp only []; omega) | (simp only [World.size_alloc]; omega) | (simp only [World.size_setCell]; omega) | (simp only [World.size_drew]; omega) | (simp only [World.size_alloc, World.size_setCell]; omega) | (simp only [World.size_alloc, World.size_drew]; omega) | (simp only [World.size_setCell, World.size_drew]; omega) | (simp only [World.size_alloc, World.size_setCell, World.size_drew]; omega))) _) | (with_reducible refine below_on ?_ (Nat.le_refl _) (below_alloc _ _)) | (with_reducible refine below_on ?_ (Nat.le_refl _) (below_drew1 _)))))).all) (first
      | (go_at_call 7; refine (toProgram_any v0 p0 _ S0.out ?_).mono ?_; exact R0.out.keep (B := u16.heap.size) (by (repeat' (first | with_reducible exact Hid.out (by assumption) | (with_reducible refine below_on ?_ (Nat.le_refl _) (below_alloc _ _)) | (with_reducible refine below_on ?_ (Nat.le_refl _) (below_drew1 _))))) (Nat.le_refl _); rintro e k3 ⟨a1, c1, a2, c2, a3, c3, a4, c4, rfl, own3, bb1⟩; have B3 : Hid (Below u16.heap.size u16 k3) := below_on (by (repeat' (first | with_reducible exact Hid.out (by assumption) | (with_reducible refine below_on ?_ (Nat.le_refl _) (below_alloc _ _)) | (with_reducible refine below_on ?_ (Nat.le_refl _) (below_drew1 _))))) (Nat.le_refl _) bb1; have O3 : Hid (RdP k3 ⟨.slice a1 p0.regions.length c1, .slice a2 p0.consts.length c2, .slice a3 p0.funcs.length c3, .slice a4 p0.certs.length c4⟩ p0 ∧ RdRc k3 (.slice a1 p0.regions.length c1) p0.regions ∧ RdFp k3 (.slice a3 p0.funcs.length c3) p0.funcs) := ⟨own3.rd, own3.regions.rdc, own3.funcs.rdp⟩; (try (have NX : Blk k3 _ #[.int .i64 0, .bool false, .int .i64 0, .int .i64 0, .slice none 0 0, .slice none 0 0, .slice none 0 0] 37 := (by first | with_reducible exact (Blk.new _ _ _).keep bb1 | with_reducible exact ((Blk.new _ _ _).keep (below_drew1 _)).keep bb1); have NN : Hid (Blk k3 _ #[.int .i64 0, .bool false, .int .i64 0, .int .i64 0, .slice none 0 0, .slice none 0 0, .slice none 0 0] 37) := NX; clear NX)); (try (have NN : Hid (Blk k3 _ #[.int .i64 0, .bool false, .int .i64 0, .int .i64 0, .slice none 0 0, .slice none 0 0, .slice none 0 0] 37) := NN.out.keep bb1)); have D3 : Hid (Below k3.heap.size k3 k3) := below_same k3; have zB3 := B3.out.size; have KS := (HL.out.keep B3.out).all; clear own3 bb1)
      | (go_at_call 8; have hh := B3; clear hh; refine (toMemory_any v1 p1 _ S1.out ?_).mono ?_; exact R1.out.keep (B := u16.heap.size) (by (repeat' (first | with_reducible exact Hid.out (by assumption) | (with_reducible refine below_on ?_ (Nat.le_refl _) (below_alloc _ _)) | (with_reducible refine below_on ?_ (Nat.le_refl _) (below_drew1 _))))) (Nat.le_refl _); rintro e k4 ⟨d1, f1, d2, f2, d3, f3, rfl, own4, bb1⟩; have B4 : Hid (Below u16.heap.size u16 k4) := below_on (by (repeat' (first | with_reducible exact Hid.out (by assumption) | (with_reducible refine below_on ?_ (Nat.le_refl _) (below_alloc _ _)) | (with_reducible refine below_on ?_ (Nat.le_refl _) (below_drew1 _))))) (Nat.le_refl _) bb1; have C4 : Below k3.heap.size k3 k4 := below_on (by (repeat' (first | with_reducible exact Hid.out (by assumption) | (with_reducible refine below_on ?_ (Nat.le_refl _) (below_alloc _ _)) | (with_reducible refine below_on ?_ (Nat.le_refl _) (below_drew1 _))))) (Nat.le_refl _) bb1; have O4 : Hid ((RdP k4 ⟨.slice a1 p0.regions.length c1, .slice a2 p0.consts.length c2, .slice a3 p0.funcs.length c3, .slice a4 p0.certs.length c4⟩ p0 ∧ RdRc k4 (.slice a1 p0.regions.length c1) p0.regions ∧ RdFp k4 (.slice a3 p0.funcs.length c3) p0.funcs) ∧ RdM k4 ⟨.slice d1 p1.ins.length f1, .slice d2 p1.outs.length f2, .slice d3 p1.keeps.length f3⟩ p1) := ⟨⟨O3.out.1.keep C4 (Nat.le_refl _), O3.out.2.1.keep C4 (Nat.le_refl _), O3.out.2.2.keep C4 (Nat.le_refl _)⟩, own4.rd⟩; (try (have NX : Blk k4 _ #[.int .i64 0, .bool false, .int .i64 0, .int .i64 0, .slice none 0 0, .slice none 0 0, .slice none 0 0] 37 := (by first | with_reducible exact (Blk.new _ _ _).keep bb1 | with_reducible exact ((Blk.new _ _ _).keep (below_drew1 _)).keep bb1); have NN : Hid (Blk k4 _ #[.int .i64 0, .bool false, .int .i64 0, .int .i64 0, .slice none 0 0, .slice none 0 0, .slice none 0 0] 37) := NX; clear NX)); (try (have NN : Hid (Blk k4 _ #[.int .i64 0, .bool false, .int .i64 0, .int .i64 0, .slice none 0 0, .slice none 0 0, .slice none 0 0] 37) := NN.out.keep bb1)); have D4 : Hid (Below k4.heap.size k4 k4) := below_same k4; have zB4 := B4.out.size; have KS := (HL.out.keep B4.out).all; clear own4 bb1 C4)
      | (go_at_call 9; have hh := B4; clear hh; refine (implBegin_sl ⟨.slice a1 p0.regions.length c1, .slice a2 p0.consts.length c2, .slice a3 p0.funcs.length c3, .slice a4 p0.certs.length c4⟩ p0 ⟨.slice d1 p1.ins.length f1, .slice d2 p1.outs.length f2, .slice d3 p1.keeps.length f3⟩ p1 _ S0.out HWF.out.1 S1.out HWF.out.2 ?_ ?_).mono ?_; exact ⟨O4.out.1.1.keep (B := k4.heap.size) (by (repeat' (first | with_reducible exact Hid.out (by assumption) | (with_reducible refine below_on ?_ (Nat.le_refl _) (below_alloc _ _)) | (with_reducible refine below_on ?_ (Nat.le_refl _) (below_drew1 _))))) (Nat.le_refl _), O4.out.1.2.1.keep (B := k4.heap.size) (by (repeat' (first | with_reducible exact Hid.out (by assumption) | (with_reducible refine below_on ?_ (Nat.le_refl _) (below_alloc _ _)) | (with_reducible refine below_on ?_ (Nat.le_refl _) (below_drew1 _))))) (Nat.le_refl _), O4.out.1.2.2.keep (B := k4.heap.size) (by (repeat' (first | with_reducible exact Hid.out (by assumption) | (with_reducible refine below_on ?_ (Nat.le_refl _) (below_alloc _ _)) | (with_reducible refine below_on ?_ (Nat.le_refl _) (below_drew1 _))))) (Nat.le_refl _)⟩; exact O4.out.2.keep (B := k4.heap.size) (by (repeat' (first | with_reducible exact Hid.out (by assumption) | (with_reducible refine below_on ?_ (Nat.le_refl _) (below_alloc _ _)) | (with_reducible refine below_on ?_ (Nat.le_refl _) (below_drew1 _))))) (Nat.le_refl _); rintro e k5 ⟨s, g1, h1, g2, h2, g3, h3, rfl, hbeg, hown, bb1⟩; have B5 : Hid (Below u16.heap.size u16 k5) := below_on (by (repeat' (first | with_reducible exact Hid.out (by assumption) | (with_reducible refine below_on ?_ (Nat.le_refl _) (below_alloc _ _)) | (with_reducible refine below_on ?_ (Nat.le_refl _) (below_drew1 _))))) (Nat.le_refl _) bb1; have O5 : Hid (BegIs p0 p1 s ∧ ∃ B, OwnS k5 B ⟨.slice g1 s.cells.length h1, .slice g2 s.stack.length h2, .slice g3 s.frames.length h3⟩ s) := ⟨hbeg, hown⟩; (try (have NX : Blk k5 _ #[.int .i64 0, .bool false, .int .i64 0, .int .i64 0, .slice none 0 0, .slice none 0 0, .slice none 0 0] 37 := (by first | with_reducible exact (Blk.new _ _ _).keep bb1 | with_reducible exact ((Blk.new _ _ _).keep (below_drew1 _)).keep bb1); have NN : Hid (Blk k5 _ #[.int .i64 0, .bool false, .int .i64 0, .int .i64 0, .slice none 0 0, .slice none 0 0, .slice none 0 0] 37) := NX; clear NX)); (try (have NN : Hid (Blk k5 _ #[.int .i64 0, .bool false, .int .i64 0, .int .i64 0, .slice none 0 0, .slice none 0 0, .slice none 0 0] 37) := NN.out.keep bb1)); (try (obtain ⟨e0, e1, e2, e3, e4, e5, e6⟩ := blk7 NN.out; have n1 := block_lt_of_cell e0; simp only [] at n1; have n2 := Nat.ne_of_lt n1; have n3 := Ne.symm n2; have z0' := NN.out.frozen 0; have z1' := NN.out.frozen 1; have z2' := NN.out.frozen 2; have z3' := NN.out.frozen 3; have z4' := NN.out.frozen 4; have z5' := NN.out.frozen 5; have z6' := NN.out.frozen 6)); have zB5 := B5.out.size; have KS := (HL.out.keep B5.out).all; clear hown hbeg bb1))
    all_goals
      obtain ⟨hbeg, B, hown⟩ := O5.out
      have HE : Hid (BegIs p0 p1 s ∧ OwnS k5 B ⟨.slice g1 s.cells.length h1, .slice g2 s.stack.length h2, .slice g3 s.frames.length h3⟩ s) := ⟨hbeg, hown⟩
      clear hbeg hown
      go_wp2_with fail
      go_meet
      first
        | with_reducible exact ⟨_, rfl, CutS.late HE.out.1 HE.out.2 B5.out⟩
        | with_reducible exact ⟨_, rfl, CutS.early HE.out.1 HE.out.2 B5.out NN.out (by first | exact Nat.le_refl _ | omega)⟩
  case rest =>
  obtain ⟨X2, rfl, HC⟩ := hcut
  obtain ⟨u17, hN⟩ : ∃ W, W = wc := ⟨_, rfl⟩
  subst hN
  obtain ⟨s', m1, n1, m2, n2, m3, n3, hbg, hst, hbw⟩ := HC.out
  have es : s = s' := HS.out.1.one hbg
  subst es
  have HT2 : Hid (StB u17 X2 s m1 m2 m3 n1 n2 n3) := hst
  have W17 : Hid (Below Wc.heap.size Wc u17) := below_on W16.out (Nat.le_refl _) hbw
  have PS : Hid (Blk u17 u8.heap.size #[.int .i64 s.trap, .bool s.done, .int .i64 s.cost, .int .i64 s.steps, .slice b1 s.cells.length l1, .slice b2 s.stack.length l2, .slice b3 s.frames.length l3] 37) := QS.out.keep hbw
  have G17 : Hid (OwnSE u17 (u7.heap.size + 1) ⟨.slice b1 s.cells.length l1, .slice b2 s.stack.length l2, .slice b3 s.frames.length l3⟩ (markRows 1 C) (markVs (kOf C) K.length) (markFs (kOf' C K) F)) := G16.out.keep hbw
  have T17 : Hid (StB u17 X s a1 a2 a3 c1 c2 c3) := HS.out.2.1.keep W17.out
  clear HC hbg hst hbw QS G16 W16 HL R0 R1 D0 D1 KS
  obtain ⟨i0, i1, i2, i3, i4, i5, i6⟩ := blk7 T17.out.blk
  obtain ⟨j0, j1, j2, j3, j4, j5, j6⟩ := blk7 HT2.out.blk
  go_wp2_with fail
  refine (eqState_same ⟨.slice m1 s.cells.length n1, .slice m2 s.stack.length n2, .slice m3 s.frames.length n3⟩ ⟨.slice a1 s.cells.length c1, .slice a2 s.stack.length c2, .slice a3 s.frames.length c3⟩ s _ HS.out.2.2 HT2.out.rd T17.out.rd).mono ?_
  rintro e u18 ⟨rfl, bl⟩
  have W18 : Hid (Below Wc.heap.size Wc u18) := below_on W17.out (Nat.le_refl _) bl
  have QS : Hid (Blk u18 u8.heap.size #[.int .i64 s.trap, .bool s.done, .int .i64 s.cost, .int .i64 s.steps, .slice b1 s.cells.length l1, .slice b2 s.stack.length l2, .slice b3 s.frames.length l3] 37) := PS.out.keep bl
  have G18 : Hid (OwnSE u18 (u7.heap.size + 1) ⟨.slice b1 s.cells.length l1, .slice b2 s.stack.length l2, .slice b3 s.frames.length l3⟩ (markRows 1 C) (markVs (kOf C) K.length) (markFs (kOf' C K) F)) := G17.out.keep bl
  clear bl W17 PS G17 T17 HT2 i0 i1 i2 i3 i4 i5 i6 j0 j1 j2 j3 j4 j5 j6
  obtain ⟨j0, j1, j2, j3, j4, j5, j6⟩ := blk7 QS.out
  go_wp2_with fail
  refine (heldState_ex (u7.heap.size + 1) ⟨.slice b1 s.cells.length l1, .slice b2 s.stack.length l2, .slice b3 s.frames.length l3⟩ C K F s.trap s.done s.cost s.steps u18 HE.out.2 G18.out).mono ?_
  rw [HT.out]
  rintro e u19 ⟨rfl, bl⟩
  have W19 : Hid (Below w.heap.size w u19) := below_on (HLc.out.keep W18.out).bel (Nat.le_refl _) bl
  clear bl j0 j1 j2 j3 j4 j5 j6
  go_wp2
  go_ret
  exact ⟨rfl, W19.out⟩

set_option maxRecDepth 100000 in
theorem lifted (os : Os) (started : os.Started) (H : Type) (enc : TypeId × Value → H) :
    ReturnsInHanded {} Tryz.checked os 3 .any (Rows.fnExactBeginSpec.pre6 enc Tryz.prog Tryz.f3 Rows.fnExactBeginRow.domain false) (Rows.fnExactBeginSpec.post enc Tryz.prog Tryz.f3 false true false false) := by
  refine returnsInHanded_of_change (C := Tryz.checked) own started (by kernel_rfl) Tryz.func3
    (ChangeSpec.witness6 (enc := enc) (C := Tryz.checked) false ⟨#[], #[.agg #[.slice none 0 0, .slice none 0 0, .slice none 0 0, .slice none 0 0], .agg #[.slice none 0 0, .slice none 0 0, .slice none 0 0]], []⟩ 8 (by kernel_rfl) (by kernel_rfl) (by kernel_rfl) (by kernel_rfl)) ?_
  intro W base args ds gs before hval0 hW hcnd _
  have hval : ∀ (j : Nat) t v, Tryz.f3.params[j]? = some t → args[j]? = some v → Value.okWide Tryz.prog W .any base t v := hval0
  have hW' := hW
  obtain ⟨p, q, hA0, hV, rfl, hfz, hnd⟩ := hW
  have hA : DataW.TrodAll enc Tryz.prog W 0 (fun _ => true) true Tryz.f3.params.toList args.toList ds p := hA0
  rw [Tryz.params3] at hA hval
  obtain ⟨x0, xs0, d0, ds0, q0, r0, hargs, rfl, rfl, t0, u0⟩ := trodAll_cons hA
  obtain ⟨x1, xs1, d1, ds1, q1, r1, rfl, rfl, rfl, t1, u1⟩ := trodAll_cons u0
  obtain ⟨rfl, rfl, rfl⟩ := trodAll_nil u1
  obtain rfl : args = #[x0, x1] := by cases args; simp_all
  obtain ⟨rfl, rfl⟩ := trodVars_none hV
  obtain ⟨cs0, rfl, _⟩ := okWide_struct Tryz.underlying27 (hval 0 27 x0 rfl rfl)
  have k0 := t0
  have lt0 : ∀ x ∈ q0, x.block < W.heap.size := by obtain ⟨m, hm⟩ := k0; exact DataW.trod_lt m _ _ _ hm
  obtain ⟨p0, v0, e0, h0, b0, f0⟩ : ∃ (p : MP) (v : VP), cs0 = #[v.r, v.k, v.f, v.t] ∧ RdP W v p ∧ p.fits ∧ p.wf := by
    obtain ⟨fuel, hf⟩ := t0
    obtain ⟨p, v, e, h, b, f⟩ := open_program hf
    exact ⟨p, v, by apply Array.toList_inj.1; exact e, h, b, f⟩
  subst e0
  obtain ⟨cs1, rfl, _⟩ := okWide_struct Tryz.underlying30 (hval 1 30 x1 rfl rfl)
  have k1 := t1
  have lt1 : ∀ x ∈ q1, x.block < W.heap.size := by obtain ⟨m, hm⟩ := k1; exact DataW.trod_lt m _ _ _ hm
  obtain ⟨p1, v1, e1, h1, b1, f1⟩ : ∃ (p : MM) (v : VM), cs1 = #[v.i, v.o, v.k] ∧ RdM W v p ∧ p.fits ∧ p.wf := by
    obtain ⟨fuel, hf⟩ := t1
    obtain ⟨p, v, e, h, b, f⟩ := open_memory hf
    exact ⟨p, v, by apply Array.toList_inj.1; exact e, h, b, f⟩
  subst e1
  clear hA0 hval0
  refine (walk v0 p0 v1 p1 W h0 b0 f0 h1 b1 f1).mono fun e W' ⟨he, bel⟩ => ?_
  subst he
  exact ⟨_, rfl, _, _, _, [], _, [], hW', trodAll_mk1 (shut_bool Tryz.underlying4 _), (trodAll_cons_mk (Below.trod laidOut (by kernel_rfl) (of_decide_eq_true (by kernel_rfl)) k0 bel lt0) (trodAll_cons_mk (Below.trod laidOut (by kernel_rfl) (of_decide_eq_true (by kernel_rfl)) k1 bel lt1) trodAll_mk0)), rfl, bel.frame _, fun h => by cases h⟩

theorem over : Rows.fnExactBeginRow.holds Tryz.pinned (OpenSpec.ofChange Rows.fnExactBeginSpec) :=
  OpenClaim.holds_of_wide 3 Tryz.f3 rfl rfl rfl rfl rfl rfl rfl ⟨rfl, rfl, rfl, rfl, rfl⟩ rfl rfl rfl rfl rfl (by kernel_rfl) Tryz.func3 (by kernel_rfl)
    (of_decide_eq_true (by kernel_rfl)) (by unfold Func.isWrapper; first | (rw [if_pos (by decide +kernel)]; kernel_rfl) | (rw [if_neg (by decide +kernel)]; exact ⟨rfl, rfl⟩))
    (fun os started H enc _ => lifted os started H enc)

theorem proved : Rows.FnExactBeginSaid := over
#print axioms proved
end Go.Proofs.YtkpajiahpmdobaaGreat.fnExactBegin
namespace Go.Proofs.YtkpajiahpmdobaaGreat
theorem fnExactBegin_holds : Rows.FnExactBeginSaid := fnExactBegin.proved
end Go.Proofs.YtkpajiahpmdobaaGreat
