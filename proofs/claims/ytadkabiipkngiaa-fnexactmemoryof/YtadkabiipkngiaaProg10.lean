/- Prog10: the size of a program. -/
import Derived.Test.YtadkabiipkngiaaProg9
namespace Go.Proofs.Ytadkabiipkngiaa
open Go.ChangeShapes Go.WideShapes Go.ChangeAt Go.RowKit
set_option linter.unusedVariables false
structure MP.fits (p : MP) : Prop where
  regions : p.regions.length ≤ 9223372036854775807
  region : ∀ r ∈ p.regions, r.length ≤ 9223372036854775807
  consts : p.consts.length ≤ 9223372036854775807
  funcs : p.funcs.length ≤ 9223372036854775807
  func : ∀ f ∈ p.funcs, f.fits
  certs : p.certs.length ≤ 9223372036854775807
theorem szv_cases {left : Int} {n : Nat} (h0 : 0 ≤ left) (h1 : left ≤ 1048576) : szv left n = -1 ∨ 0 ≤ szv left n ∧ szv left n ≤ left ∧ (n : Int) ≤ left := by
  unfold szv
  by_cases h : left - n < 0
  · rw [if_pos h]; exact .inl rfl
  · rw [if_neg h]; exact .inr ⟨by omega, by omega, by omega⟩
/-- A call's one argument of four cells. -/
structure Fr1 (w u : World) (tp : TypeId) (p : List Value) : Prop where
  par : u.ownsRow w.heap.size tp 4 (.slice (some ⟨w.heap.size, 0, none⟩) 1 1) 1 p
  bel : Below w.heap.size w u
theorem Fr1.of (w : World) (tp : TypeId) (p : Array Value) (hp : p.size = 4) : Fr1 w (w.alloc (.cells p tp)) tp p.toList :=
  ⟨World.ownsRow_lit (base := w.heap.size) (e := tp) (size := 4) w p 1 (Nat.le_refl _) (by unfold maxLen; omega) (by omega), (Below.refl _ _).alloc (Nat.le_refl _) _⟩
theorem Fr1.keep {w u u' : World} {tp : TypeId} {p : List Value} (h : Fr1 w u tp p) (hb : Below u.heap.size u u') : Fr1 w u' tp p :=
  ⟨own_keep h.par hb (Nat.le_refl _), h.bel.trans (hb.mono h.bel.size)⟩

set_option maxHeartbeats 2000000 in
set_option maxRecDepth 100000 in
theorem szProgram_any (v : VP) (p : MP) (left : Int) (w : World) (hf : p.fits) (h : RdP w v p) (h0 : 0 ≤ left) (h1 : left ≤ 1048576) :
    Calls Try.prog 14 #[.agg #[v.r, v.k, v.f, v.t], .int .i64 left] w fun e w' => ∃ r : Int, e = .returned (.int .i64 r) ∧ (r = -1 ∨ 0 ≤ r ∧ r ≤ left ∧ p.small) ∧ Below w.heap.size w w' := by
  obtain ⟨a2, c2, e2⟩ := h.consts.is_slice
  obtain ⟨a4, c4, e4⟩ := h.certs.is_slice
  obtain ⟨vr, vk, vf, vt⟩ := v
  simp only [] at e2 e4
  subst e2
  subst e4
  have F0 := Fr1.of w 48 #[vr, .slice a2 p.consts.length c2, vf, .slice a4 p.certs.length c4] rfl
  have HF : Hid p.fits := hf
  clear hf
  go_enter Try.func14, Try.ntmps14
  go_wp2_with fail
  refine (szInt64SS_any vr p.regions left _ HF.out.regions HF.out.region (h.regions.keep F0.bel (Nat.le_refl _)) h0 h1).mono ?_
  rintro e u1 ⟨r1, rfl, hr, rfl⟩
  rcases hr with rfl | ⟨r10, r11, r12, r13⟩
  · go_wp2
    go_ret
    exact ⟨-1, rfl, .inl rfl, F0.bel⟩
  have HR : Hid (∀ f ∈ p.regions, (f.length : Int) ≤ left) := r13
  clear r13
  obtain ⟨p0, p1, p2, p3, _⟩ := row4 F0.par
  go_wp2_with fail
  refine (szConstS_any a2 p.consts.length c2 r1 _ HF.out.consts r10 (by omega)).mono ?_
  rintro e u2 ⟨rfl, rfl⟩
  have hz := szv_cases (n := p.consts.length) r10 (by omega)
  generalize szv r1 p.consts.length = r2 at hz
  rcases hz with rfl | ⟨r20, r21, r22⟩
  · go_wp2
    go_ret
    exact ⟨-1, rfl, .inl rfl, F0.bel⟩
  go_wp2_with fail
  refine (szFuncS_any vf p.funcs r2 _ HF.out.funcs HF.out.func (h.funcs.keep F0.bel (Nat.le_refl _)) r20 (by omega)).mono ?_
  rintro e u3 ⟨r3, rfl, hr, b3⟩
  have F3 := F0.keep b3
  clear b3 p0 p1 p2 p3
  rcases hr with rfl | ⟨r30, r31, r32, r33⟩
  · go_wp2
    go_ret
    exact ⟨-1, rfl, .inl rfl, F3.bel⟩
  have HS : Hid (∀ f ∈ p.funcs, f.small) := r33
  clear r33
  obtain ⟨p0, p1, p2, p3, _⟩ := row4 F3.par
  go_wp2_with fail
  refine (szCertS_any a4 p.certs.length c4 r3 _ HF.out.certs r30 (by omega)).mono ?_
  rintro e u4 ⟨rfl, rfl⟩
  have hz := szv_cases (n := p.certs.length) r30 (by omega)
  generalize szv r3 p.certs.length = r4 at hz
  rcases hz with rfl | ⟨r40, r41, r42⟩
  · go_wp2
    go_ret
    exact ⟨-1, rfl, .inl rfl, F3.bel⟩
  go_wp2
  go_ret
  refine ⟨r4, rfl, .inr ⟨r40, by omega, ⟨by omega, fun f hf => ?_, by omega, by omega, HS.out, by omega⟩⟩, F3.bel⟩
  have := HR.out f hf
  omega
end Go.Proofs.Ytadkabiipkngiaa
