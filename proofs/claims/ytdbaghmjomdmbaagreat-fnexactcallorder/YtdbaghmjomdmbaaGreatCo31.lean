import Derived.Test.YtdbaghmjomdmbaaGreatCo30
namespace Go.Proofs.YtdbaghmjomdmbaaGreat
open Go.ChangeShapes Go.WideShapes Go.ChangeAt Go.RowKit
set_option linter.unusedVariables false
/-- The set holds just whom the first k instructions call. -/
def CallsTo (D : DataW Unit) (code : List MI) (k : Nat) : Prop := ∀ z : Int, Go.Maps.has D (.int .i64 z) = (code.take k).any fun x => decide (x.op = 28) && decide (x.a = z)
theorem has_putC (D : DataW Unit) (hD : Go.Maps.IsMap D) (z y : Int) (u : DataW Unit) : Go.Maps.has (D.put (.int .i64 z) u) (.int .i64 y) = (Go.Maps.has D (.int .i64 y) || decide (z = y)) := by
  by_cases h : y = z
  · subst h
    rw [Go.Maps.has_put_same hD (show WideAt.IsKeyLit (Lit.int .i64 y) from trivial)]
    simp
  · rw [Go.Maps.has_put_other (fun e => h (by cases e; rfl))]
    have : ¬ z = y := fun e => h e.symm
    simp [this]
theorem CallsTo.start (code : List MI) : CallsTo (.map []) code 0 := fun z => rfl
theorem CallsTo.yes {D : DataW Unit} {code : List MI} {k : Nat} {x : MI} {u : DataW Unit} (h : CallsTo D code k) (hD : Go.Maps.IsMap D) (hx : code[k]? = some x) (hc : x.op = 28) : CallsTo (D.put (.int .i64 x.a) u) code (k + 1) := fun z => by
  obtain ⟨hlt, rfl⟩ := List.getElem?_eq_some_iff.1 hx
  rw [has_putC D hD, h z, List.take_succ_eq_append_getElem hlt, List.any_append]
  simp [hc]
theorem CallsTo.no {D : DataW Unit} {code : List MI} {k : Nat} {x : MI} (h : CallsTo D code k) (hx : code[k]? = some x) (hc : ¬ x.op = 28) : CallsTo D code (k + 1) := fun z => by
  obtain ⟨hlt, rfl⟩ := List.getElem?_eq_some_iff.1 hx
  rw [h z, List.take_succ_eq_append_getElem hlt, List.any_append]
  simp [hc]
theorem grown_of_below {w w' : World} (h : Below w.heap.size w w') : w.grownBy w' none := ⟨h.os, h.tape, h.output, h.size, fun k hk _ => h.block k hk⟩
theorem SetAt.keep {w w' : World} {b cnt : Nat} {D : DataW Unit} (h : SetAt w b cnt D) (hb : Below w.heap.size w w') : SetAt w' b cnt D := World.ownsMap.kept h (grown_of_below hb) (by simp)
theorem w64_of {x : MI} (h : x.wf) : W64 x.a := h.2.1
theorem blk4 {u : World} {X : Nat} {x0 x1 x2 x3 : Value} {t : TypeId} (h : Blk u X #[x0, x1, x2, x3] t) : u.cell? ⟨X, 0, none⟩ = some x0 ∧ u.cell? ⟨X, 1, none⟩ = some x1 ∧ u.cell? ⟨X, 2, none⟩ = some x2 ∧ u.cell? ⟨X, 3, none⟩ = some x3 := ⟨h.cell 0, h.cell 1, h.cell 2, h.cell 3⟩
set_option maxHeartbeats 4000000 in
set_option maxRecDepth 100000 in
theorem calleesOf_any (s : Value) (code : List MI) (w : World) (hn : code.length ≤ 1048576) (hwf : ∀ x ∈ code, x.wf) (h : Rd w 4 s code.length (code.flatMap MI.cells)) :
    Calls Tryz.prog 23 #[s] w fun e w' => e = .returned (.map (some w.heap.size)) ∧ (∃ cnt D, cnt ≤ code.length ∧ SetAt w' w.heap.size cnt D ∧ CallsTo D code code.length) ∧ Below w.heap.size w w' := by
  have H : Hid (Rd w 4 s code.length (code.flatMap MI.cells) ∧ ∀ x ∈ code, x.wf) := ⟨h, hwf⟩
  obtain ⟨a1, c1, rfl⟩ := h.is_slice
  clear h hwf
  generalize hLL : code.length = n at hn H
  have HL : Hid (code.length = n) := hLL
  clear hLL
  have hmm := @run_makeMap Tryz.prog
  have HS : Hid (∃ cnt D, cnt ≤ 0 ∧ SetAt (w.alloc (.map #[] 0)) w.heap.size cnt D ∧ CallsTo D code 0 ∧ Below w.heap.size w (w.alloc (.map #[] 0))) := ⟨0, .map [], Nat.le_refl _, World.ownsMap_made _ _ _ _, CallsTo.start code, below_alloc _ _⟩
  go_enter Tryz.func23, Tryz.ntmps23
  go_wp2
  go_loopw [9] (fun i wr => ∃ k : Nat, k ≤ n ∧ i = .int .i64 k ∧ Hid (∃ cnt D, cnt ≤ k ∧ SetAt wr w.heap.size cnt D ∧ CallsTo D code k ∧ Below w.heap.size w wr)) (fun i _ => n - (intOf i).toNat)
  case atStart => exact ⟨0, by omega, rfl, HS⟩
  case round =>
    clear HS
    obtain ⟨k, hk, rfl, HS⟩ := hrel
    obtain ⟨cnt, D, hcn, hset, hhas, hbel⟩ := HS.out
    have HB : Hid (CallsTo D code k ∧ Below w.heap.size w wr ∧ SetAt wr w.heap.size cnt D ∧ Go.Maps.IsMap D) := ⟨hhas, hbel, hset, World.ownsMap.isMap hset⟩
    clear hset hhas hbel HS
    by_cases hlt : k < n
    · obtain ⟨x, hx⟩ : ∃ x, code[k]? = some x := ⟨_, List.getElem?_eq_getElem (by rw [HL.out]; exact hlt)⟩
      have HX : Hid (code[k]? = some x ∧ x.wf) := ⟨hx, H.out.2 x (List.mem_of_getElem? hx)⟩
      rcases H.out.1.2 with ⟨e0, _⟩ | ⟨g, o, c, e1, hc1⟩
      · omega
      simp only [Value.slice.injEq, true_and] at e1
      obtain ⟨rfl, rfl⟩ := e1
      have x0 := Rd.elem MI.cells_length hc1 k _ hx 0 _ rfl
      have x1 := Rd.elem MI.cells_length hc1 k _ hx 1 _ rfl
      have x2 := Rd.elem MI.cells_length hc1 k _ hx 2 _ rfl
      have x3 := Rd.elem MI.cells_length hc1 k _ hx 3 _ rfl
      rw [← HB.out.2.1.cell (block_lt_of_cell x0), Nat.add_zero] at x0
      rw [← HB.out.2.1.cell (block_lt_of_cell x1)] at x1
      rw [← HB.out.2.1.cell (block_lt_of_cell x2)] at x2
      rw [← HB.out.2.1.cell (block_lt_of_cell x3)] at x3
      clear hc1 hx
      have hkL : (k : Int) < (n : Int) := by omega
      go_upto_region 5 with fail
      refine wp_world (fun u => Hid (SetAt u w.heap.size cnt D ∧ Blk u wr.heap.size #[.int .i64 x.op, .int .i64 x.a, .int .i64 x.b, .int .i64 x.c] 52 ∧ Below w.heap.size w u)) ⟨HB.out.2.2.1.keep (below_alloc _ _), Blk.new _ _ _, below_on HB.out.2.1 (Nat.le_refl _) (below_alloc _ _)⟩ ?_
      intro U1 HU1
      clear x0 x1 x2 x3
      obtain ⟨a0, a1', a2, a3⟩ := blk4 HU1.out.2.1
      by_cases hc : x.op = 28
      · rw [hc] at a0
        have HCE : Hid ((U1.alloc (.cells #[.int .i64 x.a] 2)).cell? ⟨U1.heap.size, 0, none⟩ = some (.int .i64 x.a) ∧ SetAt (U1.alloc (.cells #[.int .i64 x.a] 2)) w.heap.size cnt D ∧ Below w.heap.size w (U1.alloc (.cells #[.int .i64 x.a] 2)) ∧ ¬ U1.heap.size = w.heap.size) := ⟨(Blk.new U1 #[.int .i64 x.a] 2).cell 0, HU1.out.1.keep (below_alloc _ _), below_on HU1.out.2.2 (Nat.le_refl _) (below_alloc _ _), by have := World.ownsMap.lt HU1.out.1; omega⟩
        go_wp2_with fail
        refine (add_one w.heap.size cnt U1.heap.size 1 D x.a _ (w64_of HX.out.2) (by omega) HCE.out.1 HCE.out.2.2.2 HCE.out.2.1).mono ?_
        rintro e u4 ⟨rfl, s4, g4⟩
        have HN : Hid (∃ cnt D, cnt ≤ k + 1 ∧ SetAt u4 w.heap.size cnt D ∧ CallsTo D code (k + 1) ∧ Below w.heap.size w u4) := ⟨_, _, by omega, s4, HB.out.1.yes HB.out.2.2.2 HX.out.1 hc, HCE.out.2.2.1.grown g4 HCE.out.2.2.1.size (fun j hj => by cases hj; exact Nat.le_refl _)⟩
        clear s4 g4 a0 a1' a2 a3
        go_wp2
        go_roundw
        case rel => exact ⟨k + 1, by omega, by go_num, HN⟩
        case measure => simp [intOf]; omega
      · have hc' : (x.op == 28) = false := by simpa using hc
        have HN : Hid (∃ cnt D, cnt ≤ k + 1 ∧ SetAt U1 w.heap.size cnt D ∧ CallsTo D code (k + 1) ∧ Below w.heap.size w U1) := ⟨_, _, by omega, HU1.out.1, HB.out.1.no HX.out.1 hc, HU1.out.2.2⟩
        go_wp2
        go_roundw
        case rel => exact ⟨k + 1, by omega, by go_num, HN⟩
        case measure => simp [intOf]; omega
    · obtain rfl : k = n := by omega
      have HN : Hid ((∃ cnt D, cnt ≤ k ∧ SetAt wr w.heap.size cnt D ∧ CallsTo D code k) ∧ Below w.heap.size w wr) := ⟨⟨cnt, D, hcn, HB.out.2.2.1, HB.out.1⟩, HB.out.2.1⟩
      go_wp2
      go_ret
      exact ⟨rfl, HN.out.1, HN.out.2⟩
end Go.Proofs.YtdbaghmjomdmbaaGreat
