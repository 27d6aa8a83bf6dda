/- IEnc5: the writer's first number, behind the magic. -/
import Derived.Test.YtmhggeljphfjfaaGreatDoorMIEnc4
import Derived.Test.YtmhggeljphfjfaaGreatDoorEnc3
import Derived.Deep.RegionLawGrows
namespace Go.Proofs.YtmhggeljphfjfaaGreatDoor
open Go.ChangeShapes Go.WideShapes Go.ChangeAt Go.RowKit
set_option linter.unusedVariables false
set_option maxHeartbeats 2000000 in
set_option maxRecDepth 100000 in
theorem wnumber_first (B wb mb : Nat) (w : World) (hB : B ≤ w.heap.size) (hw : B ≤ wb) (hblk : Blk w wb #[.slice (some ⟨mb, 0, none⟩) 4 4] 77) (hm : ∀ j u, magicL[j]? = some u → w.cell? ((⟨mb, 0, none⟩ : Addr).add j) = some u) :
    Calls Tryz.prog 33 #[.pointer (some ⟨wb, 0, none⟩), .int .i64 1, .int .i64 2] w fun e w' => e = .returned (.tuple #[]) ∧ WAt B w' wb (magicL ++ numL 1 2) ∧ Wg B w w' := by
  obtain ⟨i0, hi, hz0, hz1, hz2⟩ := info_parts infoB
  have H : Hid (Blk w wb #[.slice (some ⟨mb, 0, none⟩) 4 4] 77 ∧ ∀ j u, magicL[j]? = some u → w.cell? ((⟨mb, 0, none⟩ : Addr).add j) = some u) := ⟨hblk, hm⟩
  have PN : Hid (∀ u : World, Calls Tryz.prog 72 #[.int .i64 1, .int .i64 2] u fun e w' => ∃ r, e = .returned r ∧ w'.ownsRow u.heap.size 5 1 r 2 (numL 1 2) ∧ Below u.heap.size u w') := fun u => by
    have := PutNumber_any 1 2 u
    rw [show numN 2 = 2 from rfl] at this
    exact this
  clear hblk hm
  have KS' : w.drew.cell? ⟨wb, 0, none⟩ = some (.slice (some ⟨mb, 0, none⟩) 4 4) := (H.out.1.keep (below_drew1 w)).cell 0
  go_enter Tryz.func33, Tryz.ntmps33
  go_wp2_with fail
  go_region_law (first
    | (refine step_append_grows rfl (.tmp 10) (.tmp 13) 29 rfl 5 i0 (.int .u8 0) 1 1 Tryz.underlying29 hi hz0 hz1 hz2 rfl (by decide) (some ⟨mb, 0, none⟩) 4 4 magicL (by simp [Act.eval]) (fun e => by cases e) rfl O1.out.2.2 ⟨g1, 0, none⟩ 2 c1 (numL 1 2) (by simp [Act.eval]) rfl (own_cells O1.out.1) (numL_oneCell 1 2) (by omega) (by unfold maxLen; omega) (by omega) ?_; intro V u2 hown hgrow; have O2 : Hid (u2.ownsRow u1.heap.size 5 1 V (4 + 2) (magicL ++ numL 1 2) ∧ Below u1.heap.size u1 u2) := ⟨hown, ⟨hgrow.os, hgrow.tape, hgrow.output, hgrow.size, fun k hk => hgrow.block k hk (by simp)⟩⟩; obtain ⟨g, cap, rfl, _, _⟩ := hown.form (by omega); have KS' : u2.cell? ⟨wb, 0, none⟩ = some (.slice (some ⟨mb, 0, none⟩) 4 4) := (O1.out.2.1.keep O2.out.2).cell 0; have Z := (O1.out.2.1.keep O2.out.2).frozen 0; clear hown hgrow)
    | (go_simp; go_at_call 72; refine (PN.out _).mono ?_; rintro e u1 ⟨r, rfl, own1, b1⟩; obtain ⟨g1, c1, rfl, _, _⟩ := own1.form (by omega); have B1 : Hid (Below w.heap.size w u1) := below_drew_trans b1 (Nat.le_refl _); have O1 : Hid (u1.ownsRow w.heap.size 5 1 (.slice (some ⟨g1, 0, none⟩) 2 c1) 2 (numL 1 2) ∧ Blk u1 wb #[.slice (some ⟨mb, 0, none⟩) 4 4] 77 ∧ (∀ b, some (⟨mb, 0, none⟩ : Addr) = some b → ∀ j u, magicL[j]? = some u → u1.cell? (b.add j) = some u)) := ⟨own1, H.out.1.keep B1.out, fun b hb j u hj => by cases hb; rw [B1.out.cell (block_lt_of_cell (H.out.2 j u hj))]; exact H.out.2 j u hj⟩; have KS' : u1.cell? ⟨wb, 0, none⟩ = some (.slice (some ⟨mb, 0, none⟩) 4 4) := O1.out.2.1.cell 0; clear own1 b1))
  all_goals
    have hB2 := O1.out.2.1.keep O2.out.2
    have HE : Hid (WAt B (u2.setCell ⟨wb, 0, none⟩ (.slice (some ⟨g, 0, none⟩) (4 + 2) cap)) wb (magicL ++ numL 1 2) ∧ Wg B w (u2.setCell ⟨wb, 0, none⟩ (.slice (some ⟨g, 0, none⟩) (4 + 2) cap))) := by
      refine ⟨⟨.slice (some ⟨g, 0, none⟩) (4 + 2) cap, hB2.set 0 _, ?_⟩, ((Wg.of_below B1.out hB).trans (Wg.of_below O2.out.2 (Nat.le_trans hB B1.out.size))).trans (Wg.of_set hB2 hw 0 _)⟩
      have hg : ¬ g = wb := fun e => by
        have h1 := hB2.lt
        have h2 := O1.out.2.1.lt
        have h3 := (O2.out.1.lt g rfl).1
        omega
      have := ownsRow_setCell_other (own_base O2.out.1 (Nat.le_trans hB B1.out.size)) (a := ⟨wb, 0, none⟩) (by simp only [Value.ownBlock]; intro e; exact hg (Option.some.inj e)) (.slice (some ⟨g, 0, none⟩) (4 + 2) cap)
      exact this
    go_end0
    exact ⟨rfl, HE.out.1, HE.out.2⟩
end Go.Proofs.YtmhggeljphfjfaaGreatDoor
