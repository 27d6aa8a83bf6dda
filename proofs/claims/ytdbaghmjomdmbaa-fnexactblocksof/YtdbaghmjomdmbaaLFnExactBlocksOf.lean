/- FnExactBlocksOf: the walk, the row. -/
import Derived.Test.YtdbaghmjomdmbaaRows
import Derived.Test.YtdbaghmjomdmbaaLBlk1
import Derived.WalkKit
import Derived.ProofKit
import Derived.OpenShut
import Derived.ShutString
import Derived.ChangeOld
import Derived.Below
namespace Go.Proofs.Ytdbaghmjomdmbaa.fnExactBlocksOf
open Go.ChangeShapes Go.WideShapes Go.ChangeAt Go.RowKit
set_option linter.unusedVariables false

theorem own : ownKnob Try.prog.godebug = none := by kernel_rfl
theorem laidOut : laidOutB Try.prog = true := by kernel_rfl

set_option maxRecDepth 100000 in
set_option maxHeartbeats 8000000 in
theorem walk (s0 : Value) (p0 : List MI) (w : World) (h0 : Rd w 4 s0 p0.length (p0.flatMap MI.cells)) (b0 : p0.length ≤ 9223372036854775807) :
    Calls Try.prog 3 #[s0] w fun e w' => e = .returned (.bool true) ∧ Below w.heap.size w w' := by
  have H : Hid (Rd w 4 s0 p0.length (p0.flatMap MI.cells)) := h0
  obtain ⟨a0, c0, rfl⟩ := h0.is_slice
  clear h0
  go_enter Try.func3, Try.ntmps3
  go_wp2_with fail
  refine (szInstrS_any a0 p0.length c0 1048576 _ b0 (by omega) (by omega)).mono ?_
  rintro e u ⟨rfl, rfl⟩
  by_cases hb : (1048576 : Int) - (p0.length : Int) < 0
  · rw [show szv 1048576 (p0.length : Int) = -1 from if_pos hb]
    go_wp2
    go_ret
    exact ⟨rfl, Below.refl _ _⟩
  rw [show szv 1048576 (p0.length : Int) = 1048576 - (p0.length : Int) from if_neg hb]
  have hl : p0.length ≤ 1048576 := by omega
  have hnn : ¬ (1048576 - (p0.length : Int)) < 0 := hb
  obtain ⟨w0, hw0⟩ : ∃ W, W = u := ⟨_, rfl⟩
  subst hw0
  go_wp2_with fail
  refine (toInstrS_any (.slice a0 p0.length c0) p0.length p0 _ hl H.out rfl).mono ?_
  rintro e u1 ⟨rfl, own1, b1⟩
  have B1 : Hid (Below w0.heap.size w0 u1) := b1
  have R1 : Hid (Rd u1 4 (.slice (some ⟨w0.heap.size, 0, none⟩) p0.length p0.length) p0.length (p0.flatMap MI.cells)) := Rd.of_own own1
  clear own1 b1
  go_wp2_with fail
  refine (specBlocks_any (.slice (some ⟨w0.heap.size, 0, none⟩) p0.length p0.length) p0 _ hl R1.out).mono ?_
  rintro e u2 ⟨V1, bs, rfl, hrd, his, b2⟩
  have HS : Hid (BlkIs p0 bs ∧ RdBs u2 V1 bs) := ⟨his, hrd⟩
  have B2 : Hid (Below w0.heap.size w0 u2) := below_on B1.out (Nat.le_refl _) b2
  clear his hrd b2 B1 R1
  go_wp2_with fail
  refine (toInstrS_any (.slice a0 p0.length c0) p0.length p0 _ hl (H.out.keep B2.out (Nat.le_refl _)) rfl).mono ?_
  rintro e u3 ⟨rfl, own3, b3⟩
  have X3 : Hid (u3.ownsRow u2.heap.size 44 4 (.slice (some ⟨u2.heap.size, 0, none⟩) p0.length p0.length) p0.length (p0.flatMap MI.cells) ∧ Below u2.heap.size u2 u3) := ⟨own3, b3⟩
  have B3 : Hid (Below w0.heap.size w0 u3) := below_on B2.out (Nat.le_refl _) b3
  clear own3 b3
  go_wp2_with fail
  refine (implBlocks_any (.slice (some ⟨u2.heap.size, 0, none⟩) p0.length p0.length) p0 _ hl (Rd.of_own X3.out.1)).mono ?_
  rintro e u4 ⟨V2, F, rfl, hown, his, b4⟩
  have HI : BlkIs p0 (F.map Prod.fst) := by
    rcases his with ⟨h1, rfl⟩ | ⟨h1, h2⟩
    · exact .inl ⟨h1, rfl⟩
    · exact .inr ⟨h1, h2⟩
  have hfb : F.map Prod.fst = bs := HI.one HS.out.1
  have HF : Hid (F.map Prod.fst = bs ∧ F.length ≤ 1048576 ∧ ∀ x ∈ F, x.1.next.length ≤ 1048576) := by
    have hs := HI.small
    refine ⟨hfb, by simpa using hs.1, fun x hx => hs.2 x.1 (List.mem_map_of_mem hx)⟩
  have HSM : Hid (bs.length ≤ 1048576 ∧ ∀ f ∈ bs, f.small) := HS.out.1.small
  have G4 : Hid (OwnBE u4 u3.heap.size V2 F ∧ Below u2.heap.size u2 u4 ∧ Below u3.heap.size u3 u4) := ⟨hown, below_on X3.out.2 (Nat.le_refl _) b4, b4⟩
  clear HI hfb hown his b4
  go_wp2_with fail
  refine (eqBlockS_same V2 V1 bs _ HSM.out.1 HSM.out.2 (by have := G4.out.1.rd; rw [HF.out.1] at this; exact this) (HS.out.2.keep G4.out.2.1 (Nat.le_refl _))).mono ?_
  rintro e u5 ⟨rfl, b5⟩
  have G5 : Hid (OwnBE u5 u3.heap.size V2 F ∧ Below u2.heap.size u2 u5 ∧ Below u3.heap.size u3 u5) := ⟨G4.out.1.keep b5, below_on G4.out.2.1 (Nat.le_refl _) b5, below_on G4.out.2.2 (Nat.le_refl _) b5⟩
  clear b5 G4
  go_wp2_with fail
  refine (toInstrS_any (.slice a0 p0.length c0) p0.length p0 _ hl (H.out.keep (below_on B2.out (Nat.le_refl _) G5.out.2.1) (Nat.le_refl _)) rfl).mono ?_
  rintro e u6 ⟨rfl, own6, b6⟩
  have G6 : Hid (OwnBE u6 u3.heap.size V2 F ∧ Below u2.heap.size u2 u6 ∧ Below u3.heap.size u3 u6) := ⟨G5.out.1.keep b6, below_on G5.out.2.1 (Nat.le_refl _) b6, below_on G5.out.2.2 (Nat.le_refl _) b6⟩
  have R6 : Hid (Rd u6 4 (.slice (some ⟨u5.heap.size, 0, none⟩) p0.length p0.length) p0.length (p0.flatMap MI.cells)) := Rd.of_own own6
  clear own6 b6 G5
  go_wp2_with fail
  refine (eqInstrS_same (.slice (some ⟨u2.heap.size, 0, none⟩) p0.length p0.length) (.slice (some ⟨u5.heap.size, 0, none⟩) p0.length p0.length) p0 _ hl (Rd.of_own (own_keep X3.out.1 G6.out.2.2 (Nat.le_refl _))) R6.out).mono ?_
  rintro e u7 ⟨rfl, b7⟩
  have G7 : Hid (OwnBE u7 u3.heap.size V2 F ∧ Below u2.heap.size u2 u7 ∧ Below u3.heap.size u3 u7) := ⟨G6.out.1.keep b7, below_on G6.out.2.1 (Nat.le_refl _) b7, below_on G6.out.2.2 (Nat.le_refl _) b7⟩
  clear b7 G6 R6
  go_wp2_with fail
  refine (markInstrS_any u3 u2.heap.size (.slice (some ⟨u2.heap.size, 0, none⟩) p0.length p0.length) p0 1 u7 hl (by omega) (by omega) X3.out.1 (Shaped.of_below G7.out.2.2)).mono ?_
  rintro e u8 ⟨rfl, mk⟩
  have G8 : Hid (OwnBE u8 u3.heap.size V2 F ∧ Below u2.heap.size u2 u8 ∧ u3.heap.size ≤ u8.heap.size) := ⟨G7.out.1.marks mk (Nat.le_refl _), G7.out.2.1.trans mk.below, by have := G7.out.2.2.size; have := mk.size; omega⟩
  clear mk G7
  have hk0 : ¬ (1 + 4 * (p0.length : Int)) < 0 := by omega
  have hkd : decide ((1 + 4 * (p0.length : Int)) < 0) = false := by simp; omega
  go_wp2_with fail
  refine (eqBlockS_same V2 V1 bs _ HSM.out.1 HSM.out.2 (by have := G8.out.1.rd; rw [HF.out.1] at this; exact this) (HS.out.2.keep G8.out.2.1 (Nat.le_refl _))).mono ?_
  rintro e u9 ⟨rfl, b9⟩
  have G9 : Hid (OwnBE u9 u3.heap.size V2 F ∧ Below u2.heap.size u2 u9 ∧ u3.heap.size ≤ u9.heap.size) := ⟨G8.out.1.keep b9, below_on G8.out.2.1 (Nat.le_refl _) b9, Nat.le_trans G8.out.2.2 b9.size⟩
  clear b9 G8 hk0 hkd
  go_wp2_with fail
  refine (markBlockS_ex u3.heap.size V2 [] [] F 1 u9 G9.out.2.2 HF.out.2.1 HF.out.2.2 (by omega) (by omega) G9.out.1.row (by simpa using G9.out.1.fam)).mono ?_
  rintro e u10 ⟨rfl, row10, fam10, wb10⟩
  have hB : Below u2.heap.size u9 u10 := wb10.bel.mono X3.out.2.size
  have M10 : Hid (u10.ownsRow u3.heap.size 46 3 V2 F.length ((markBs 1 F).flatMap bCells) ∧ Fam u10 u3.heap.size (nrows (markBs 1 F)) ∧ Below u2.heap.size u2 u10) := ⟨row10, by simpa using fam10, G9.out.2.1.trans hB⟩
  clear row10 fam10 wb10 hB G9
  have hd := OwnBE.held M10.out.1 M10.out.2.1
  go_wp2_with fail
  refine (heldBlockS_ex V2 F 1 u10 HF.out.2.1 HF.out.2.2 (by omega) (by omega) hd.1 hd.2).mono ?_
  rintro e u11 ⟨rfl, hu⟩
  have hu2 := hu.symm
  clear hu hd
  subst hu2
  have hEN := endB_le 1 F HF.out.2.2
  have hE0 : ¬ endB 1 F < 0 := by omega
  clear hEN
  go_wp2_with fail
  refine (toInstrS_any (.slice a0 p0.length c0) p0.length p0 _ hl (H.out.keep (below_on B2.out (Nat.le_refl _) M10.out.2.2) (Nat.le_refl _)) rfl).mono ?_
  rintro e u12 ⟨rfl, own12, b12⟩
  have M12 : Hid (u12.ownsRow u3.heap.size 46 3 V2 F.length ((markBs 1 F).flatMap bCells) ∧ Fam u12 u3.heap.size (nrows (markBs 1 F)) ∧ Below u2.heap.size u2 u12) := ⟨own_keep M10.out.1 b12 (Nat.le_refl _), M10.out.2.1.keep b12, below_on M10.out.2.2 (Nat.le_refl _) b12⟩
  have R12 : Hid (Rd u12 4 (.slice (some ⟨u10.heap.size, 0, none⟩) p0.length p0.length) p0.length (p0.flatMap MI.cells)) := Rd.of_own own12
  clear own12 b12 M10
  go_wp2_with fail
  refine (implBlocks_any (.slice (some ⟨u10.heap.size, 0, none⟩) p0.length p0.length) p0 _ hl R12.out).mono ?_
  rintro e u13 ⟨V3, F3, rfl, hown, his, b13⟩
  have hfb : F3.map Prod.fst = bs := by
    refine BlkIs.one (xs := p0) ?_ HS.out.1
    rcases his with ⟨h1, rfl⟩ | ⟨h1, h2⟩
    · exact .inl ⟨h1, rfl⟩
    · exact .inr ⟨h1, h2⟩
  have M13 : Hid (u13.ownsRow u3.heap.size 46 3 V2 F.length ((markBs 1 F).flatMap bCells) ∧ Fam u13 u3.heap.size (nrows (markBs 1 F)) ∧ Below u2.heap.size u2 u13) := ⟨own_keep M12.out.1 b13 (Nat.le_refl _), M12.out.2.1.keep b13, below_on M12.out.2.2 (Nat.le_refl _) b13⟩
  have R13 : Hid (RdBs u13 V3 bs) := by
    have := hown.rd
    rw [hfb] at this
    exact this
  clear hown his b13 hfb M12 R12
  go_wp2_with fail
  refine (eqBlockS_same V3 V1 bs _ HSM.out.1 HSM.out.2 R13.out (HS.out.2.keep M13.out.2.2 (Nat.le_refl _))).mono ?_
  rintro e u14 ⟨rfl, b14⟩
  have M14 : Hid (u14.ownsRow u3.heap.size 46 3 V2 F.length ((markBs 1 F).flatMap bCells) ∧ Fam u14 u3.heap.size (nrows (markBs 1 F)) ∧ Below u2.heap.size u2 u14) := ⟨own_keep M13.out.1 b14 (Nat.le_refl _), M13.out.2.1.keep b14, below_on M13.out.2.2 (Nat.le_refl _) b14⟩
  clear b14 M13 R13
  have hd := OwnBE.held M14.out.1 M14.out.2.1
  go_wp2_with fail
  refine (heldBlockS_ex V2 F 1 u14 HF.out.2.1 HF.out.2.2 (by omega) (by omega) hd.1 hd.2).mono ?_
  rintro e u15 ⟨rfl, hu⟩
  have hu2 := hu.symm
  clear hu hd
  subst hu2
  have BE : Hid (Below w0.heap.size w0 u14) := below_on B2.out (Nat.le_refl _) M14.out.2.2
  go_wp2
  go_ret
  exact ⟨rfl, BE.out⟩

set_option maxRecDepth 100000 in
theorem lifted (os : Os) (started : os.Started) (H : Type) (enc : TypeId × Value → H) :
    ReturnsInHanded {} Try.checked os 3 .any (Rows.fnExactBlocksOfSpec.pre6 enc Try.prog Try.f3 Rows.fnExactBlocksOfRow.domain false) (Rows.fnExactBlocksOfSpec.post enc Try.prog Try.f3 false true false false) := by
  refine returnsInHanded_of_change (C := Try.checked) own started (by kernel_rfl) Try.func3
    (ChangeSpec.witness6 (enc := enc) (C := Try.checked) false ⟨#[], #[.slice none 0 0], []⟩ 8 (by kernel_rfl) (by kernel_rfl) (by kernel_rfl) (by kernel_rfl)) ?_
  intro W base args ds gs before hval0 hW hcnd _
  have hval : ∀ (j : Nat) t v, Try.f3.params[j]? = some t → args[j]? = some v → Value.okWide Try.prog W .any base t v := hval0
  have hW' := hW
  obtain ⟨p, q, hA0, hV, rfl, hfz, hnd⟩ := hW
  have hA : DataW.TrodAll enc Try.prog W 0 (fun _ => true) true Try.f3.params.toList args.toList ds p := hA0
  rw [Try.params3] at hA hval
  obtain ⟨x0, xs0, d0, ds0, q0, r0, hargs, rfl, rfl, t0, u0⟩ := trodAll_cons hA
  obtain ⟨rfl, rfl, rfl⟩ := trodAll_nil u0
  obtain rfl : args = #[x0] := by cases args; simp_all
  obtain ⟨rfl, rfl⟩ := trodVars_none hV
  obtain ⟨ax, nx, cx, rfl⟩ := okWide_slice Try.underlying22 (hval 0 22 x0 rfl rfl)
  have k0 := t0
  have lt0 : ∀ x ∈ q0, x.block < W.heap.size := by obtain ⟨m, hm⟩ := k0; exact DataW.trod_lt m _ _ _ hm
  obtain ⟨p0, h0, b0⟩ : ∃ p : List MI, Rd W 4 (.slice ax nx cx) p.length (p.flatMap MI.cells) ∧ p.length ≤ 9223372036854775807 := by
    obtain ⟨fuel, hf⟩ := t0
    obtain ⟨s, ys, e, h, b, f⟩ := open_code hf
    have es : s = .slice ax nx cx := by
      have e2 : [(.slice ax nx cx : Value)] = [s] := e
      exact (List.cons.inj e2).1.symm
    subst es
    exact ⟨ys, h, b⟩
  clear hA0 hval0
  refine (walk (.slice ax nx cx) p0 W h0 b0).mono fun e W' ⟨he, bel⟩ => ?_
  subst he
  exact ⟨_, rfl, _, _, _, [], _, [], hW', trodAll_mk1 (shut_bool Try.underlying4 _), (trodAll_cons_mk (Below.trod laidOut (by kernel_rfl) (of_decide_eq_true (by kernel_rfl)) k0 bel lt0) trodAll_mk0), rfl, bel.frame _, fun h => by cases h⟩

theorem over : Rows.fnExactBlocksOfRow.holds Try.pinned (OpenSpec.ofChange Rows.fnExactBlocksOfSpec) :=
  OpenClaim.holds_of_wide 3 Try.f3 rfl rfl rfl rfl rfl rfl rfl ⟨rfl, rfl, rfl, rfl, rfl⟩ rfl rfl rfl rfl rfl (by kernel_rfl) Try.func3 (by kernel_rfl)
    (of_decide_eq_true (by kernel_rfl)) (by unfold Func.isWrapper; first | (rw [if_pos (by decide +kernel)]; kernel_rfl) | (rw [if_neg (by decide +kernel)]; exact ⟨rfl, rfl⟩))
    (fun os started H enc _ => lifted os started H enc)

theorem proved : Rows.FnExactBlocksOfSaid := over
#print axioms proved
end Go.Proofs.Ytdbaghmjomdmbaa.fnExactBlocksOf
namespace Go.Proofs.Ytdbaghmjomdmbaa
theorem fnExactBlocksOf_holds : Rows.FnExactBlocksOfSaid := fnExactBlocksOf.proved
end Go.Proofs.Ytdbaghmjomdmbaa
