/- FnExactCompile: the row. -/
import Derived.Test.YtalkpddhpmjgcaaGreatRows
import Derived.Test.YtalkpddhpmjgcaaGreatCm12
import Derived.Test.YtalkpddhpmjgcaaGreatCm49
import Derived.WalkKit
import Derived.ProofKit
import Derived.OpenShut
import Derived.ShutString
import Derived.ChangeOld
import Derived.Below
namespace Go.Proofs.YtalkpddhpmjgcaaGreat.fnExactCompile
open Go.ChangeShapes Go.WideShapes Go.ChangeAt Go.RowKit
set_option linter.unusedVariables false

theorem own : ownKnob Tryz.prog.godebug = none := by kernel_rfl
theorem laidOut : laidOutB Tryz.prog = true := by kernel_rfl
section
variable {H : Type} {enc : TypeId × Value → H} {w : World} {spare : Nat → Bool} {held : Bool}
def vCell {n : Nat} (y : TL n × Value) : List Value := [y.2]
theorem flat_v {n : Nat} (ys : List (TL n × Value)) : ys.flatMap vCell = ys.map Prod.snd := by
  induction ys with
  | nil => rfl
  | cons y ys ih => rw [List.flatMap_cons, ih]; rfl
/-- Lists of lists of statements that came in. -/
theorem open_lists (fuel : Nat) (cs : List Value) (x : DataW H × List MemPlace) (h : DataW.trod enc Tryz.prog w 0 spare held fuel 23 cs = some x) : ∃ (s : Value) (n : Nat) (hs : List (TL n)), cs = [s] ∧ RdHs w n s hs ∧ (∀ t ∈ hs, fitT n t) ∧ hs.length ≤ 9223372036854775807 := by
  cases fuel with
  | zero =>
    rcases DataW.trod_slice Tryz.underlying23 h with ⟨rfl, _⟩ | ⟨a, len, cap, elems, rest, n, hn, _⟩
    · exact ⟨_, 0, [], rfl, ⟨[], rfl, ⟨rfl, .inl ⟨rfl, _, _, rfl⟩⟩, fun x hx => (by cases hx)⟩, fun t ht => (by cases ht), by simp⟩
    · omega
  | succ n =>
    obtain ⟨s, ys, e, h1, h2, h3⟩ := open_rowsK (P := Tryz.prog) ((noT n, Value.bool true) : TL n × Value) vCell (fun y => RdT w n y.2 y.1 ∧ fitT n y.1) 1 (fun _ => rfl) (by omega) Tryz.underlying23 cellsSS (fun cs x hx => by
      obtain ⟨s, t, e, r, f⟩ := open_stmts n cs x hx
      exact ⟨(t, s), e, r, f⟩) h
    refine ⟨s, n, ys.map Prod.fst, e, ⟨ys, rfl, ?_, fun y hy => (h3 y hy).1⟩, fun t ht => ?_, by simp [maxLen] at h2; simpa using h2⟩
    · rw [List.length_map, ← flat_v]
      exact h1
    · obtain ⟨y, hy, rfl⟩ := List.mem_map.1 ht
      exact (h3 y hy).2
end
set_option maxRecDepth 100000 in
theorem lifted (os : Os) (started : os.Started) (H : Type) (enc : TypeId × Value → H) :
    ReturnsInHanded {} Tryz.checked os 3 .any (Rows.fnExactCompileSpec.pre6 enc Tryz.prog Tryz.f3 Rows.fnExactCompileRow.domain false) (Rows.fnExactCompileSpec.post enc Tryz.prog Tryz.f3 false true false false) := by
  refine returnsInHanded_of_change (C := Tryz.checked) own started (by kernel_rfl) Tryz.func3
    (ChangeSpec.witness6 (enc := enc) (C := Tryz.checked) false ⟨#[], #[.slice none 0 0, .slice none 0 0], []⟩ 8 (by kernel_rfl) (by kernel_rfl) (by kernel_rfl) (by kernel_rfl)) ?_
  intro W base args ds gs before hval0 hW hcnd _
  have hval : ∀ (j : Nat) t v, Tryz.f3.params[j]? = some t → args[j]? = some v → Value.okWide Tryz.prog W .any base t v := hval0
  have hW' := hW
  obtain ⟨p, q, hA0, hV, rfl, hfz, hnd⟩ := hW
  have hA : DataW.TrodAll enc Tryz.prog W 0 (fun _ => true) true Tryz.f3.params.toList args.toList ds p := hA0
  rw [Tryz.params3] at hA hval
  obtain ⟨x0, xs0, d0, ds0, q0, r0, hargs, rfl, rfl, t0, u0⟩ := trodAll_cons hA
  obtain ⟨x1, xs1, d1, ds1, q1, r1, rfl, rfl, rfl, t1, u1⟩ := trodAll_cons u0
  obtain ⟨rfl, rfl, rfl⟩ := trodAll_nil u1
  obtain rfl : args = #[x0, x1] := by cases args; simp_all
  obtain ⟨rfl, rfl⟩ := trodVars_none hV
  obtain ⟨ax, nx, cx, rfl⟩ := okWide_slice Tryz.underlying22 (hval 0 22 x0 rfl rfl)
  obtain ⟨ay, ny, cy, rfl⟩ := okWide_slice Tryz.underlying23 (hval 1 23 x1 rfl rfl)
  have k0 := t0
  have k1 := t1
  have lt0 : ∀ x ∈ q0, x.block < W.heap.size := by obtain ⟨m, hm⟩ := k0; exact DataW.trod_lt m _ _ _ hm
  have lt1 : ∀ x ∈ q1, x.block < W.heap.size := by obtain ⟨m, hm⟩ := k1; exact DataW.trod_lt m _ _ _ hm
  obtain ⟨n0, p0, h0, b0⟩ : ∃ (n : Nat) (t : TL n), RdT W n (.slice ax nx cx) t ∧ fitT n t := by
    obtain ⟨fuel, hf⟩ := t0
    obtain ⟨s, t, e, h, b⟩ := open_stmts fuel _ _ hf
    have es : s = .slice ax nx cx := by
      have e2 : [(.slice ax nx cx : Value)] = [s] := e
      exact (List.cons.inj e2).1.symm
    subst es
    exact ⟨fuel, t, h, b⟩
  obtain ⟨n1, p1, h1, b1, l1⟩ : ∃ (n : Nat) (hs : List (TL n)), RdHs W n (.slice ay ny cy) hs ∧ (∀ t ∈ hs, fitT n t) ∧ hs.length ≤ 9223372036854775807 := by
    obtain ⟨fuel, hf⟩ := t1
    obtain ⟨s, n, hs, e, h, b, l⟩ := open_lists fuel _ _ hf
    have es : s = .slice ay ny cy := by
      have e2 : [(.slice ay ny cy : Value)] = [s] := e
      exact (List.cons.inj e2).1.symm
    subst es
    exact ⟨n, hs, h, b, l⟩
  clear hA0 hval0
  refine (compile_walk n0 p0 n1 p1 (.slice ax nx cx) (.slice ay ny cy) W h0 b0 h1 b1 l1).mono fun e W' ⟨he, bel⟩ => ?_
  subst he
  exact ⟨_, rfl, _, _, _, [], _, [], hW', trodAll_mk1 (shut_bool Tryz.underlying4 _), (trodAll_cons_mk (Below.trod laidOut (by kernel_rfl) (of_decide_eq_true (by kernel_rfl)) k0 bel lt0) (trodAll_cons_mk (Below.trod laidOut (by kernel_rfl) (of_decide_eq_true (by kernel_rfl)) k1 bel lt1) trodAll_mk0)), rfl, bel.frame _, fun h => by cases h⟩

theorem over : Rows.fnExactCompileRow.holds Tryz.pinned (OpenSpec.ofChange Rows.fnExactCompileSpec) :=
  OpenClaim.holds_of_wide 3 Tryz.f3 rfl rfl rfl rfl rfl rfl rfl ⟨rfl, rfl, rfl, rfl, rfl⟩ rfl rfl rfl rfl rfl (by kernel_rfl) Tryz.func3 (by kernel_rfl)
    (of_decide_eq_true (by kernel_rfl)) (by unfold Func.isWrapper; first | (rw [if_pos (by decide +kernel)]; kernel_rfl) | (rw [if_neg (by decide +kernel)]; exact ⟨rfl, rfl⟩))
    (fun os started H enc _ => lifted os started H enc)

theorem proved : Rows.FnExactCompileSaid := over
#print axioms proved
end Go.Proofs.YtalkpddhpmjgcaaGreat.fnExactCompile
namespace Go.Proofs.YtalkpddhpmjgcaaGreat
theorem fnExactCompile_holds : Rows.FnExactCompileSaid := fnExactCompile.proved
end Go.Proofs.YtalkpddhpmjgcaaGreat
