/- KOpen: a list of statements that came in. -/
import Derived.Test.YtjlnglgfehefdaaKLaw
namespace Go.Proofs.Ytjlnglgfehefdaa
open Go.ChangeShapes Go.WideShapes Go.ChangeAt Go.RowKit
set_option linter.unusedVariables false
section
variable {H : Type} {enc : TypeId × Value → H} {w : World} {spare : Nat → Bool} {held : Bool}
theorem add_at (b off : Nat) (i : Nat) : (⟨b, off, none⟩ : Addr).add i = ⟨b, off + i, none⟩ := by unfold Addr.add; split <;> simp_all
/-- A slice whose elements read each as one of a family. -/
theorem open_rows {P : Program} {α : Type} (dflt : α) (f : α → List Value) (G : α → Prop) (m : Nat) (hf : ∀ y, (f y).length = m) (h0 : 0 < m) {t e : TypeId} (ht : P.underlying t = some (.slice e)) (hm : P.cellsOf e = m) {n : Nat}
    (hel : ∀ cs x, DataW.trod enc P w 0 spare held n e cs = some x → ∃ y, cs = f y ∧ G y) {cs : List Value} {x : DataW H × List MemPlace} (h : DataW.trod enc P w 0 spare held (n + 1) t cs = some x) :
    ∃ (s : Value) (ys : List α), cs = [s] ∧ Rd w m s ys.length (ys.flatMap f) ∧ ys.length ≤ maxLen ∧ ∀ y ∈ ys, G y := by
  rcases DataW.trod_slice ht h with ⟨rfl, _⟩ | ⟨a, len, cap, elems, rest, n', hn', rfl, _, _, hl, hmx, hlen, hE, _, _⟩
  · exact ⟨_, [], rfl, ⟨by simp, .inl ⟨rfl, _, _, rfl⟩⟩, by simp, fun y hy => by cases hy⟩
  · have hn : n' = n := by omega
    subst hn
    rw [hm] at hE
    have hy : ∀ i, i < len → ∃ y, w.cells? 0 (a.add (i * m)) m = some (f y) ∧ G y := by
      intro i hi
      have h1 := hE i hi
      rw [List.getElem?_eq_getElem (by omega)] at h1
      obtain ⟨cs', hc, hx⟩ := Option.bind_eq_some_iff.1 h1
      obtain ⟨y, rfl, hg⟩ := hel _ _ hx
      exact ⟨y, hc, hg⟩
    obtain ⟨F, hF⟩ := @Go.Deep.choose_lt _ ⟨dflt⟩ _ _ hy
    refine ⟨_, (List.range len).map F, rfl, ⟨?_, ?_⟩, by simp; omega, ?_⟩
    · rw [flat_length f m hf]
    · by_cases hz : len = 0
      · subst hz
        exact .inl ⟨by simp, _, _, rfl⟩
      · obtain ⟨b, off, spot⟩ := a
        have hc0 := (World.cells?_some (hF 0 (by omega)).1).2.2 0 h0
        have hfl : 0 < (f (F 0)).length := by rw [hf]; exact h0
        rw [List.getElem?_eq_getElem hfl] at hc0
        have hspot : spot = none := by simpa [Addr.add] using World.cell?_spot hc0
        subst hspot
        refine .inr ⟨b, off, cap, by simp, fun j u hj => ?_⟩
        have hjl : j < len * m := by
          have := (List.getElem?_eq_some_iff.1 hj).1
          rw [flat_length f m hf] at this
          simpa using this
        have hq : j / m < len := (Nat.div_lt_iff_lt_mul h0).2 hjl
        have hr := Nat.mod_lt j h0
        have ej : j = j / m * m + j % m := by rw [Nat.mul_comm]; exact (Nat.div_add_mod j m).symm
        have hk : ((List.range len).map F)[j / m]? = some (F (j / m)) := by simp [hq]
        have hcell := (World.cells?_some (hF (j / m) hq).1).2.2 (j % m) hr
        have hat := flat_at f m hf _ (j / m) (j % m) _ hk hr
        rw [← ej, hj] at hat
        rw [add_at, add_at, Nat.add_assoc, ← ej] at hcell
        rw [hcell, ← hat]
    · intro y hy'
      obtain ⟨i, hi, rfl⟩ := List.mem_map.1 hy'
      exact (hF i (List.mem_range.1 hi)).2
theorem trod_struct5 {P : Program} {t : TypeId} {f0 f1 f2 f3 f4 : Field} {fuel : Nat} {cs : List Value} {x : DataW H × List MemPlace} (ht : P.underlying t = some (.struct #[f0, f1, f2, f3, f4])) (h : DataW.trod enc P w 0 spare held fuel t cs = some x) :
    ∃ y0 y1 y2 y3 y4 n, fuel = n + 1 ∧ cs.length = P.cellsOf t ∧ DataW.trod enc P w 0 spare held n f0.type ((cs.drop f0.offset).take (P.cellsOf f0.type)) = some y0 ∧
      DataW.trod enc P w 0 spare held n f1.type ((cs.drop f1.offset).take (P.cellsOf f1.type)) = some y1 ∧ DataW.trod enc P w 0 spare held n f2.type ((cs.drop f2.offset).take (P.cellsOf f2.type)) = some y2 ∧
      DataW.trod enc P w 0 spare held n f3.type ((cs.drop f3.offset).take (P.cellsOf f3.type)) = some y3 ∧ DataW.trod enc P w 0 spare held n f4.type ((cs.drop f4.offset).take (P.cellsOf f4.type)) = some y4 := by
  obtain ⟨xs, n, hn, rfl, hl, hlen, hf⟩ := DataW.trod_struct ht h
  match xs, hlen with
  | [y0, y1, y2, y3, y4], _ => exact ⟨y0, y1, y2, y3, y4, n, hn, hl, by simpa using hf 0 f0 rfl, by simpa using hf 1 f1 rfl, by simpa using hf 2 f2 rfl, by simpa using hf 3 f3 rfl, by simpa using hf 4 f4 rfl⟩
theorem cells64 : Try.prog.cellsOf 2 = 1 := by kernel_rfl
theorem cellsLS : Try.prog.cellsOf 31 = 5 := by kernel_rfl
theorem cellsSS : Try.prog.cellsOf 22 = 1 := by kernel_rfl
theorem five {cs : List Value} (h : cs.length = 5) : ∃ a b c d e, cs = [a, b, c, d, e] := by
  match cs, h with
  | [a, b, c, d, e], _ => exact ⟨a, b, c, d, e, rfl⟩
theorem open_i64 {fuel : Nat} {cs : List Value} {x : DataW H × List MemPlace} (h : DataW.trod enc Try.prog w 0 spare held fuel 2 cs = some x) : ∃ z, cs = [.int .i64 z] := by
  obtain ⟨n, h1, _, h2⟩ := DataW.trod_int Try.underlying2 h
  exact ⟨n, h1⟩
/-- No statements. -/
def noT : (n : Nat) → TL n
  | 0 => ()
  | _ + 1 => ([] : List _)
theorem open_stmts (fuel : Nat) : ∀ (cs : List Value) (x : DataW H × List MemPlace), DataW.trod enc Try.prog w 0 spare held fuel 22 cs = some x → ∃ (s : Value) (t : TL fuel), cs = [s] ∧ RdT w fuel s t ∧ fitT fuel t := by
  induction fuel with
  | zero =>
    intro cs x h
    rcases DataW.trod_slice Try.underlying22 h with ⟨rfl, _⟩ | ⟨a, len, cap, elems, rest, n, hn, _⟩
    · exact ⟨_, noT 0, rfl, ⟨_, _, rfl⟩, trivial⟩
    · omega
  | succ n ih =>
    intro cs x h
    obtain ⟨s, ys, e, h1, h2, h3⟩ := open_rows (P := Try.prog) ((⟨0, 0, 0, noT n, noT n⟩ : SS (TL n)), Value.bool true, Value.bool true) sCells (fun y => (RdT w n y.2.1 y.1.body ∧ RdT w n y.2.2 y.1.els) ∧ fitT n y.1.body ∧ fitT n y.1.els) 5 sCells_length (by omega) Try.underlying22 cellsLS (fun cs x hx => by
      obtain ⟨y0, y1, y2, y3, y4, m, hm, hl, g0, g1, g2, g3, g4⟩ := trod_struct5 Try.underlying31 hx
      rw [cellsLS] at hl
      obtain ⟨a, b, c, d, e, rfl⟩ := five hl
      simp only [cells64, cellsSS, List.drop_zero, List.drop_succ_cons, List.take_succ_cons, List.take_zero] at g0 g1 g2 g3 g4
      obtain ⟨z0, e0⟩ := open_i64 g0
      obtain ⟨z1, e1⟩ := open_i64 g1
      obtain ⟨z2, e2⟩ := open_i64 g2
      obtain ⟨s3, t3, e3, r3, k3⟩ := ih _ _ (DataW.trod_le (show m ≤ n by omega) g3)
      obtain ⟨s4, t4, e4, r4, k4⟩ := ih _ _ (DataW.trod_le (show m ≤ n by omega) g4)
      simp only [List.cons.injEq, and_true] at e0 e1 e2 e3 e4
      subst e0 e1 e2 e3 e4
      exact ⟨(⟨z0, z1, z2, t3, t4⟩, d, e), rfl, ⟨r3, r4⟩, k3, k4⟩) h
    refine ⟨s, (ys.map Prod.fst : List (SS (TL n))), e, ⟨ys, rfl, by rw [List.length_map]; exact h1, fun y hy => (h3 y hy).1⟩, ?_, fun q hq => ?_⟩
    · rw [List.length_map]
      simp [maxLen] at h2
      exact h2
    · obtain ⟨y, hy, rfl⟩ := List.mem_map.1 hq
      exact (h3 y hy).2
end
end Go.Proofs.Ytjlnglgfehefdaa
