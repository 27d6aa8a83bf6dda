/- Val4: spec.ValidMemory. -/
import Derived.Test.YtkpajiahpmdobaaGreatVal3
import Derived.Test.YtkpajiahpmdobaaGreatSFault9
import Derived.Test.YtkpajiahpmdobaaGreatAt3
namespace Go.Proofs.YtkpajiahpmdobaaGreat
open Go.ChangeShapes Go.WideShapes Go.ChangeAt Go.RowKit
set_option linter.unusedVariables false
theorem FaultIs.ok {p : MP} (h : FaultIs p 0) : RegionsOk p.regions ∧ ConstsOk p.consts ∧ FuncsOk p.funcs ∧ CodeOk p ∧ CertsOk p := by
  rcases h with h | h | h | h | h | h
  · exact absurd h.1 (by decide)
  · exact absurd h.1 (by decide)
  · exact absurd h.1 (by decide)
  · exact absurd h.1 (by decide)
  · exact absurd h.1 (by decide)
  · exact h.2
theorem FaultIs.some (p : MP) : ∃ n, FaultIs p n := by
  by_cases h1 : RegionsOk p.regions
  · by_cases h2 : ConstsOk p.consts
    · by_cases h3 : FuncsOk p.funcs
      · by_cases h4 : CodeOk p
        · by_cases h5 : CertsOk p
          · exact ⟨0, .inr (.inr (.inr (.inr (.inr ⟨rfl, h1, h2, h3, h4, h5⟩))))⟩
          · exact ⟨5, .inr (.inr (.inr (.inr (.inl ⟨rfl, h1, h2, h3, h4, h5⟩))))⟩
        · exact ⟨4, .inr (.inr (.inr (.inl ⟨rfl, h1, h2, h3, h4⟩)))⟩
      · exact ⟨3, .inr (.inr (.inl ⟨rfl, h1, h2, h3⟩))⟩
    · exact ⟨2, .inr (.inl ⟨rfl, h1, h2⟩)⟩
  · exact ⟨1, .inl ⟨rfl, h1⟩⟩
theorem SaysFault.is {e : Ending} {p : MP} {n : Int} (h : SaysFault e p) (hn : FaultIs p n) : e = .returned (.int .i64 n) := by
  obtain ⟨m, rfl, hm⟩ := h
  rw [FaultIs.one hm hn]
/-- A memory of a program. -/
def ValidM (p : MP) (m : MM) : Prop := FaultIs p 0 ∧ ∃ r0 r1 r2, p.regions = [r0, r1, r2] ∧ m.ins.length = r0.length ∧ WordsOk m.outs r1 ∧ WordsOk m.keeps r2
theorem ValidM.iff {p : MP} {m : MM} (hf : FaultIs p 0) {r0 r1 r2 : List Int} (h : p.regions = [r0, r1, r2]) : ValidM p m ↔ m.ins.length = r0.length ∧ WordsOk m.outs r1 ∧ WordsOk m.keeps r2 := by
  constructor
  · rintro ⟨_, s0, s1, s2, e, k⟩
    rw [h] at e
    simp only [List.cons.injEq, and_true] at e
    obtain ⟨rfl, rfl, rfl⟩ := e
    exact k
  · exact fun k => ⟨hf, r0, r1, r2, h, k⟩
/-- The three regions of a program without a fault. -/
structure Reg3 (w : World) (vr : Value) (p : MP) (g o c : Nat) (r0 r1 r2 : List Int) (y0 y1 y2 : Value) : Prop where
  rows : vr = .slice (some ⟨g, o, none⟩) 3 c
  eq : p.regions = [r0, r1, r2]
  i0 : w.cell? ⟨g, o, none⟩ = some y0
  i1 : w.cell? ⟨g, o + 1, none⟩ = some y1
  i2 : w.cell? ⟨g, o + 2, none⟩ = some y2
  k0 : Rd w 1 y0 r0.length (r0.flatMap intCell)
  k1 : Rd w 1 y1 r1.length (r1.flatMap intCell)
  k2 : Rd w 1 y2 r2.length (r2.flatMap intCell)
theorem Reg3.of {w : World} {v : VP} {p : MP} (h : RdP w v p) (h3 : p.regions.length = 3) : ∃ g o c r0 r1 r2 y0 y1 y2, Reg3 w v.r p g o c r0 r1 r2 y0 y1 y2 := by
  obtain ⟨xs, hxs, hrd, hel⟩ := h.regions
  have hxl : xs.length = 3 := by rw [← h3, ← hxs]; simp
  obtain ⟨⟨r0, y0⟩, ⟨r1, y1⟩, ⟨r2, y2⟩, rfl⟩ : ∃ a b c, xs = [a, b, c] := by
    match xs, hxl with
    | [a, b, c], _ => exact ⟨a, b, c, rfl⟩
  rcases hrd.2 with ⟨e0, _⟩ | ⟨g, o, c, e1, hc⟩
  · omega
  · rw [h3] at e1
    exact ⟨g, o, c, r0, r1, r2, y0, y1, y2, e1, by rw [← hxs]; rfl, by simpa using hc 0 y0 rfl, hc 1 y1 rfl, hc 2 y2 rfl, hel (r0, y0) (by simp), hel (r1, y1) (by simp), hel (r2, y2) (by simp)⟩
theorem Reg3.keep {w w' : World} {vr : Value} {p : MP} {g o c : Nat} {r0 r1 r2 : List Int} {y0 y1 y2 : Value} (h : Reg3 w vr p g o c r0 r1 r2 y0 y1 y2) (hb : Below w.heap.size w w') : Reg3 w' vr p g o c r0 r1 r2 y0 y1 y2 :=
  ⟨h.rows, h.eq, by rw [hb.cell (block_lt_of_cell h.i0)]; exact h.i0, by rw [hb.cell (block_lt_of_cell h.i1)]; exact h.i1, by rw [hb.cell (block_lt_of_cell h.i2)]; exact h.i2, h.k0.keep hb (Nat.le_refl _), h.k1.keep hb (Nat.le_refl _), h.k2.keep hb (Nat.le_refl _)⟩
set_option maxHeartbeats 4000000 in
set_option maxRecDepth 100000 in
theorem specValid_any (v : VP) (p : MP) (vm : VM) (m : MM) (w : World) (hs : p.small) (hw : p.wf) (h : RdP w v p) (ms : m.small) (hm : RdM w vm m) :
    Calls Tryz.prog 22 #[.agg #[v.r, v.k, v.f, v.t], .agg #[vm.i, vm.o, vm.k]] w fun e w' => SaysIff e (ValidM p m) ∧ Below w.heap.size w w' := by
  have H : Hid (p.small ∧ p.wf ∧ RdP w v p ∧ m.small ∧ RdM w vm m) := ⟨hs, hw, h, ms, hm⟩
  have HI : Hid (In1 w ((w.alloc (.cells #[v.r, v.k, v.f, v.t] 43)).alloc (.cells #[vm.i, vm.o, vm.k] 45)) v.r v.k v.f v.t ∧ At3 ((w.alloc (.cells #[v.r, v.k, v.f, v.t] 43)).alloc (.cells #[vm.i, vm.o, vm.k] 45)) (w.heap.size + 1) vm.i vm.o vm.k) := by
    refine ⟨(In1.of w v.r v.k v.f v.t _).keep (below_alloc _ _), ?_⟩
    have := At3.new (w.alloc (.cells #[v.r, v.k, v.f, v.t] 43)) vm.i vm.o vm.k 45
    simpa using this
  clear hs hw h ms hm
  obtain ⟨n, hn⟩ := FaultIs.some p
  obtain ⟨vr, vk, vf, vt⟩ := v
  obtain ⟨vi, vo, vkk⟩ := vm
  simp only [] at HI
  go_enter Tryz.func22, Tryz.ntmps22
  go_wp2_with fail
  generalize ((w.alloc (.cells #[vr, vk, vf, vt] 43)).alloc (.cells #[vi, vo, vkk] 45)) = W1 at HI ⊢
  have HJ : Hid (In1 w W1 vr vk vf vt ∧ At3 W1 (w.heap.size + 1) vi vo vkk) := HI
  have HB : Hid (Below w.heap.size w W1) := HI.out.1.bel
  clear HI
  have inst := Grown.some W1
  obtain ⟨p0, p1, p2, p3⟩ := HJ.out.1.prog
  obtain ⟨m0, m1, m2⟩ := HJ.out.2
  have P0 := fun n : Grown W1 => Grown.cell p0 n
  have P1 := fun n : Grown W1 => Grown.cell p1 n
  have P2 := fun n : Grown W1 => Grown.cell p2 n
  have P3 := fun n : Grown W1 => Grown.cell p3 n
  have M0 := fun n : Grown W1 => Grown.cell m0 n
  have M1 := fun n : Grown W1 => Grown.cell m1 n
  have M2 := fun n : Grown W1 => Grown.cell m2 n
  have HF : Hid (FaultIs p n) := hn
  clear hn
  by_cases q0 : n = 0
  · subst q0
    obtain ⟨g, o, c, r0, r1, r2, y0, y1, y2, hR⟩ := Reg3.of (H.out.2.2.1.keep HB.out (Nat.le_refl _)) HF.out.ok.1.1
    have HR : Hid (Reg3 W1 vr p g o c r0 r1 r2 y0 y1 y2) := hR
    have HV : Hid (ValidM p m ↔ m.ins.length = r0.length ∧ WordsOk m.outs r1 ∧ WordsOk m.keeps r2) := ValidM.iff HF.out hR.eq
    have HS : Hid (r0.length ≤ 1048576 ∧ r1.length ≤ 1048576 ∧ r2.length ≤ 1048576) := by
      have := H.out.1.region
      rw [hR.eq] at this
      exact ⟨this r0 (by simp), this r1 (by simp), this r2 (by simp)⟩
    obtain ⟨b1, d1, e1⟩ := HR.out.k0.is_slice
    obtain ⟨am, cm, em⟩ := H.out.2.2.2.2.ins.is_slice
    have hrows := hR.rows
    simp only [] at hrows em
    subst hrows em
    subst e1
    clear hR
    have i0 := HR.out.i0
    have i1 := HR.out.i1
    have i2 := HR.out.i2
    have I0 := fun n : Grown W1 => Grown.cell i0 n
    have I1 := fun n : Grown W1 => Grown.cell i1 n
    have I2 := fun n : Grown W1 => Grown.cell i2 n
    have HM : Hid (m.small ∧ Rd W1 1 vo m.outs.length (m.outs.flatMap wCell) ∧ Rd W1 1 vkk m.keeps.length (m.keeps.flatMap wCell)) := ⟨H.out.2.2.2.1, H.out.2.2.2.2.outs.keep HB.out (Nat.le_refl _), H.out.2.2.2.2.keeps.keep HB.out (Nat.le_refl _)⟩
    by_cases q1 : m.ins.length = r0.length
    · have HQ : Hid (m.ins.length = r0.length) := q1
      have q1' : ((m.ins.length : Int) == (r0.length : Int)) = true := by simp; omega
      clear q1
      by_cases q2 : WordsOk m.outs r1
      · have HO : Hid (WordsOk m.outs r1) := q2
        clear q2
        by_cases q3 : WordsOk m.keeps r2
        · have HK : Hid (WordsOk m.keeps r2) := q3
          have HY : Hid (ValidM p m) := HV.out.2 ⟨HQ.out, HO.out, q3⟩
          clear q3
          refine wp_region_grown (by kernel_rfl) (by kernel_rfl) ?_
          repeat (go_big_quiet_step ((first | (go_at_call 56; rename_i n'; exact (specFault_any ⟨.slice (some ⟨g, o, none⟩) 3 c, vk, vf, vt⟩ p n'.u H.out.1 H.out.2.1 (H.out.2.2.1.keep (below_on HB.out (Nat.le_refl _) n'.h) (Nat.le_refl _))).mono fun e w'' h => ⟨h.1.is HF.out, ⟨⟨w'', below_on n'.h (Nat.le_refl _) h.2⟩, rfl⟩⟩) | (go_at_call_of 57 y1; rename_i n'; exact (l4Words_any vo y1 m.outs r1 n'.u HM.out.1.outs HS.out.2.1 (HM.out.2.1.keep n'.h (Nat.le_refl _)) (HR.out.k1.keep n'.h (Nat.le_refl _))).mono fun e w'' h => ⟨h.1.true HO.out, ⟨⟨w'', h.2 ▸ n'.h⟩, rfl⟩⟩) | (go_at_call_of 57 y2; rename_i n'; exact (l4Words_any vkk y2 m.keeps r2 n'.u HM.out.1.keeps HS.out.2.2 (HM.out.2.2.keep n'.h (Nat.le_refl _)) (HR.out.k2.keep n'.h (Nat.le_refl _))).mono fun e w'' h => ⟨h.1.true HK.out, ⟨⟨w'', h.2 ▸ n'.h⟩, rfl⟩⟩))))
          refine wpQuiet_nil ?_
          rintro w'' ⟨n', rfl⟩
          have HE : Hid (Below w.heap.size w n'.u) := below_on HB.out (Nat.le_refl _) n'.h
          go_wp2
          go_ret
          exact ⟨.yes HY.out, HE.out⟩
        · have HK : Hid (¬ WordsOk m.keeps r2) := q3
          have HN : Hid (¬ ValidM p m) := fun e => q3 (HV.out.1 e).2.2
          clear q3
          refine wp_region_grown (by kernel_rfl) (by kernel_rfl) ?_
          repeat (go_big_quiet_step ((first | (go_at_call 56; rename_i n'; exact (specFault_any ⟨.slice (some ⟨g, o, none⟩) 3 c, vk, vf, vt⟩ p n'.u H.out.1 H.out.2.1 (H.out.2.2.1.keep (below_on HB.out (Nat.le_refl _) n'.h) (Nat.le_refl _))).mono fun e w'' h => ⟨h.1.is HF.out, ⟨⟨w'', below_on n'.h (Nat.le_refl _) h.2⟩, rfl⟩⟩) | (go_at_call_of 57 y1; rename_i n'; exact (l4Words_any vo y1 m.outs r1 n'.u HM.out.1.outs HS.out.2.1 (HM.out.2.1.keep n'.h (Nat.le_refl _)) (HR.out.k1.keep n'.h (Nat.le_refl _))).mono fun e w'' h => ⟨h.1.true HO.out, ⟨⟨w'', h.2 ▸ n'.h⟩, rfl⟩⟩) | (go_at_call_of 57 y2; rename_i n'; exact (l4Words_any vkk y2 m.keeps r2 n'.u HM.out.1.keeps HS.out.2.2 (HM.out.2.2.keep n'.h (Nat.le_refl _)) (HR.out.k2.keep n'.h (Nat.le_refl _))).mono fun e w'' h => ⟨h.1.false HK.out, ⟨⟨w'', h.2 ▸ n'.h⟩, rfl⟩⟩))))
          refine wpQuiet_nil ?_
          rintro w'' ⟨n', rfl⟩
          have HE : Hid (Below w.heap.size w n'.u) := below_on HB.out (Nat.le_refl _) n'.h
          go_wp2
          go_ret
          exact ⟨.no HN.out, HE.out⟩
      · have HO : Hid (¬ WordsOk m.outs r1) := q2
        have HN : Hid (¬ ValidM p m) := fun e => q2 (HV.out.1 e).2.1
        clear q2
        refine wp_region_grown (by kernel_rfl) (by kernel_rfl) ?_
        repeat (go_big_quiet_step ((first | (go_at_call 56; rename_i n'; exact (specFault_any ⟨.slice (some ⟨g, o, none⟩) 3 c, vk, vf, vt⟩ p n'.u H.out.1 H.out.2.1 (H.out.2.2.1.keep (below_on HB.out (Nat.le_refl _) n'.h) (Nat.le_refl _))).mono fun e w'' h => ⟨h.1.is HF.out, ⟨⟨w'', below_on n'.h (Nat.le_refl _) h.2⟩, rfl⟩⟩) | (go_at_call_of 57 y1; rename_i n'; exact (l4Words_any vo y1 m.outs r1 n'.u HM.out.1.outs HS.out.2.1 (HM.out.2.1.keep n'.h (Nat.le_refl _)) (HR.out.k1.keep n'.h (Nat.le_refl _))).mono fun e w'' h => ⟨h.1.false HO.out, ⟨⟨w'', h.2 ▸ n'.h⟩, rfl⟩⟩))))
        refine wpQuiet_nil ?_
        rintro w'' ⟨n', rfl⟩
        have HE : Hid (Below w.heap.size w n'.u) := below_on HB.out (Nat.le_refl _) n'.h
        go_wp2
        go_ret
        exact ⟨.no HN.out, HE.out⟩
    · have q1' : ((m.ins.length : Int) == (r0.length : Int)) = false := by simp; omega
      have HN : Hid (¬ ValidM p m) := fun e => q1 (HV.out.1 e).1
      clear q1
      refine wp_region_grown (by kernel_rfl) (by kernel_rfl) ?_
      repeat (go_big_quiet_step ((first | (go_at_call 56; rename_i n'; exact (specFault_any ⟨.slice (some ⟨g, o, none⟩) 3 c, vk, vf, vt⟩ p n'.u H.out.1 H.out.2.1 (H.out.2.2.1.keep (below_on HB.out (Nat.le_refl _) n'.h) (Nat.le_refl _))).mono fun e w'' h => ⟨h.1.is HF.out, ⟨⟨w'', below_on n'.h (Nat.le_refl _) h.2⟩, rfl⟩⟩))))
      refine wpQuiet_nil ?_
      rintro w'' ⟨n', rfl⟩
      have HE : Hid (Below w.heap.size w n'.u) := below_on HB.out (Nat.le_refl _) n'.h
      go_wp2
      go_ret
      exact ⟨.no HN.out, HE.out⟩
  · have HN : Hid (¬ ValidM p m) := fun e => q0 (FaultIs.one HF.out e.1)
    have q0' : (n == 0) = false := by simpa using q0
    clear q0
    refine wp_region_grown (by kernel_rfl) (by kernel_rfl) ?_
    repeat (go_big_quiet_step ((first | (go_at_call 56; rename_i n'; exact (specFault_any ⟨vr, vk, vf, vt⟩ p n'.u H.out.1 H.out.2.1 (H.out.2.2.1.keep (below_on HB.out (Nat.le_refl _) n'.h) (Nat.le_refl _))).mono fun e w'' h => ⟨h.1.is HF.out, ⟨⟨w'', below_on n'.h (Nat.le_refl _) h.2⟩, rfl⟩⟩))))
    refine wpQuiet_nil ?_
    rintro w'' ⟨n', rfl⟩
    have HE : Hid (Below w.heap.size w n'.u) := below_on HB.out (Nat.le_refl _) n'.h
    go_wp2
    go_ret
    exact ⟨.no HN.out, HE.out⟩
end Go.Proofs.YtkpajiahpmdobaaGreat
