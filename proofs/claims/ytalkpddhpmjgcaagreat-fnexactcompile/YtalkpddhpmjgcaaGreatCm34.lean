import Derived.Test.YtalkpddhpmjgcaaGreatCm33
import Derived.Test.YtalkpddhpmjgcaaGreatCm3
namespace Go.Proofs.YtalkpddhpmjgcaaGreat
open Go.ChangeShapes Go.WideShapes Go.ChangeAt Go.RowKit
set_option linter.unusedVariables false
def FuncsOk (fs : List MF) : Prop := ¬ fs.length = 0 ∧ fs.length ≤ 32 ∧ (∀ j, j < fs.length → ∀ f, fs[j]? = some f → FuncOk f) ∧ ∀ f, fs[0]? = some f → MainOk f
set_option maxHeartbeats 2000000 in
set_option maxRecDepth 100000 in
theorem funcsHold_any (s : Value) (fs : List MF) (w : World) (hL : fs.length ≤ 1048576) (hs : ∀ f ∈ fs, f.small) (h : RdFs w s fs) :
    Calls Tryz.prog 58 #[s] w fun e w' => SaysIff e (FuncsOk fs) ∧ Below w.heap.size w w' := by
  obtain ⟨xs, hxs, hrd, hel⟩ := h
  have hxl : xs.length = fs.length := by rw [← hxs]; simp
  have H1 : Hid (Rd w 4 s fs.length (xs.flatMap fCells) ∧ xs.map Prod.fst = fs ∧ (∀ x ∈ xs, RdF w x.2 x.1) ∧ (∀ f ∈ fs, f.small) ∧ xs.length = fs.length) := ⟨hrd, hxs, hel, hs, hxl⟩
  obtain ⟨a1, c1, rfl⟩ := hrd.is_slice
  clear hrd hxs hel hs hxl
  generalize hLL : fs.length = n at hL H1
  have HL : Hid (fs.length = n) := hLL
  clear hLL
  by_cases q0 : n = 0
  · subst q0
    have HN : Hid (¬ FuncsOk fs) := fun e => e.1 HL.out
    clear H1
    go_enter Tryz.func58, Tryz.ntmps58
    go_wp2
    go_ret
    exact ⟨.no HN.out, Below.refl _ _⟩
  have q0' : ((n : Int) == 0) = false := by simpa using q0
  by_cases q1 : 32 < n
  · have HN : Hid (¬ FuncsOk fs) := fun e => absurd e.2.1 (by rw [HL.out]; omega)
    have q1' : (32 : Int) < (n : Int) := by omega
    clear H1
    go_enter Tryz.func58, Tryz.ntmps58
    go_wp2
    go_ret
    exact ⟨.no HN.out, Below.refl _ _⟩
  have q1' : ¬ (32 : Int) < (n : Int) := by omega
  go_enter Tryz.func58, Tryz.ntmps58
  go_wp2
  go_loopw [15] (fun i wr => ∃ k : Nat, k ≤ n ∧ i = .int .i64 k ∧ Hid (∀ j, j < k → ∀ f, fs[j]? = some f → FuncOk f) ∧ Hid (Below w.heap.size w wr)) (fun i _ => n - (intOf i).toNat)
  case atStart => exact ⟨0, by omega, rfl, fun j hj => by omega, Below.refl _ _⟩
  case round =>
    obtain ⟨k, hk, rfl, HT, HB⟩ := hrel
    by_cases hlt : k < n
    · obtain ⟨⟨f, v⟩, hx⟩ : ∃ x, xs[k]? = some x := ⟨_, List.getElem?_eq_getElem (by rw [H1.out.2.2.2.2]; exact hlt)⟩
      have e1 := fst_at H1.out.2.1 hx
      have HX : Hid (RdF wr v f ∧ f.small ∧ fs[k]? = some f) := ⟨(H1.out.2.2.1 _ (List.mem_of_getElem? hx)).keep HB.out (Nat.le_refl _), H1.out.2.2.2.1 _ (List.mem_of_getElem? e1), e1⟩
      clear e1
      rcases H1.out.1.2 with ⟨e0, _⟩ | ⟨b, o, c, e1, hc1⟩
      · omega
      · simp only [Value.slice.injEq, true_and] at e1
        obtain ⟨rfl, rfl⟩ := e1
        have i0 := Rd.elem fCells_length hc1 k _ hx 0 _ rfl
        have i1 := Rd.elem fCells_length hc1 k _ hx 1 _ rfl
        have i2 := Rd.elem fCells_length hc1 k _ hx 2 _ rfl
        have i3 := Rd.elem fCells_length hc1 k _ hx 3 _ rfl
        rw [← HB.out.cell (block_lt_of_cell i0), Nat.add_zero] at i0
        rw [← HB.out.cell (block_lt_of_cell i1)] at i1
        rw [← HB.out.cell (block_lt_of_cell i2)] at i2
        rw [← HB.out.cell (block_lt_of_cell i3)] at i3
        clear hc1 hx
        simp only [] at i0 i1 i2 i3
        obtain ⟨ap, cp, ep⟩ := HX.out.1.1.is_slice
        obtain ⟨al, cl, el⟩ := HX.out.1.2.1.is_slice
        obtain ⟨ac, cc, ec⟩ := HX.out.1.2.2.is_slice
        obtain ⟨vp, vl, vc⟩ := v
        simp only [] at ep el ec i0 i1 i2 i3
        subst ep el ec
        have nb : ¬ b = wr.heap.size := Nat.ne_of_lt (block_lt_of_cell i0)
        have mb : b < wr.heap.size := block_lt_of_cell i0
        go_wp2_with fail
        have A1 := fun W (hW : Below wr.heap.size wr W) => funcHolds_any ⟨.slice ap f.params.length cp, .slice al f.locals.length cl, .slice ac f.code.length cc⟩ f W HX.out.2.1 (HX.out.1.keep hW (Nat.le_refl _))
        refine (A1 _ (below_alloc _ _)).mono ?_
        rintro e u ⟨⟨b0, rfl, hb0⟩, hbu⟩
        have HB2 : Hid (Below w.heap.size w u) := below_on HB.out (Nat.le_refl _) (below_on (below_alloc _ _) (Nat.le_refl _) hbu)
        clear hbu HB i0 i1 i2 i3 A1 nb mb
        cases b0
        · have HN : Hid (¬ FuncsOk fs) := fun e => by have := e.2.2.1 k (by rw [HL.out]; exact hlt) f HX.out.2.2; simp [this] at hb0
          clear hb0
          go_wp2
          go_ret
          exact ⟨.no HN.out, HB2.out⟩
        · have HC : Hid (FuncOk f) := hb0.1 rfl
          clear hb0
          go_wp2
          go_roundw
          case rel => exact ⟨k + 1, by omega, by go_num, upto_next HX.out.2.2 HC.out HT.out, HB2⟩
          case measure => simp [intOf]; omega
    · have hkn : n = k := by omega
      subst hkn
      obtain ⟨⟨f, v⟩, hx⟩ : ∃ x, xs[0]? = some x := ⟨_, List.getElem?_eq_getElem (by rw [H1.out.2.2.2.2]; omega)⟩
      have e1 := fst_at H1.out.2.1 hx
      have HX : Hid (RdF wr v f ∧ f.small ∧ fs[0]? = some f) := ⟨(H1.out.2.2.1 _ (List.mem_of_getElem? hx)).keep HB.out (Nat.le_refl _), H1.out.2.2.2.1 _ (List.mem_of_getElem? e1), e1⟩
      clear e1
      rcases H1.out.1.2 with ⟨e0, _⟩ | ⟨b, o, c, e1, hc1⟩
      · omega
      · simp only [Value.slice.injEq, true_and] at e1
        obtain ⟨rfl, rfl⟩ := e1
        have i0 := Rd.elem fCells_length hc1 0 _ hx 0 _ rfl
        have i1 := Rd.elem fCells_length hc1 0 _ hx 1 _ rfl
        rw [← HB.out.cell (block_lt_of_cell i0)] at i0
        simp only [Nat.zero_mul, Nat.add_zero] at i0
        rw [← HB.out.cell (block_lt_of_cell i1), Nat.zero_mul, Nat.add_zero] at i1
        clear hc1 hx
        obtain ⟨ap, cp, ep⟩ := HX.out.1.1.is_slice
        obtain ⟨vp, vl, vc⟩ := v
        simp only [] at ep i0 i1
        subst ep
        have HM : Hid (FuncsOk fs ↔ MainOk f) := by
          show _ ↔ _
          refine ⟨fun e => e.2.2.2 f HX.out.2.2, fun e => ⟨by rw [HL.out]; exact q0, by rw [HL.out]; omega, by rw [HL.out]; exact HT.out, fun g hg => ?_⟩⟩
          rw [HX.out.2.2] at hg
          exact (Option.some.inj hg) ▸ e
        have hn1 := HX.out.2.1.1
        generalize hN1 : f.params.length = n1 at *
        generalize hN2 : f.result = R at *
        have HE : Hid (f.params.length = n1 ∧ f.result = R) := ⟨hN1, hN2⟩
        clear hN1 hN2
        have hl0 : (0 : Int) < (n : Int) := by omega
        by_cases z1 : n1 = 0
        · subst z1
          have HY : Hid ((R == 0) = true ↔ FuncsOk fs) := by
            show _ ↔ _
            rw [HM.out, beq_iff_eq]
            exact ⟨fun e => ⟨HE.out.1, HE.out.2.trans e⟩, fun e => HE.out.2.symm.trans e.2⟩
          go_wp2
          go_ret
          exact ⟨.of HY.out, HB.out⟩
        · have z1' : ((n1 : Int) == 0) = false := by simpa using z1
          have HN : Hid (¬ FuncsOk fs) := fun e => z1 (HE.out.1.symm.trans (HM.out.1 e).1)
          go_wp2
          go_ret
          exact ⟨.no HN.out, HB.out⟩
end Go.Proofs.YtalkpddhpmjgcaaGreat
namespace Go.Proofs.YtalkpddhpmjgcaaGreat
open Go.ChangeShapes Go.WideShapes Go.ChangeAt Go.RowKit
set_option linter.unusedVariables false
/-- A world that has come of w by growth alone. -/
structure Grown (w : World) where
  u : World
  h : Below w.heap.size w u
theorem Grown.some (w : World) : Nonempty (Grown w) := ⟨⟨w, Below.refl _ _⟩⟩
theorem wp_region_grown {P : Program} {id : Nat} {Q : Exit → Act → World → Prop} {a : Act} {w : World} {l : List Oper} (hm : P.follows .mixedOrders = true) (hB : Region.lexB .any l.toArray = true)
    (h : wpQuiet P l.toArray (fun w' => ∃ n : Grown w, w' = n.u) (fun a' => ∀ w', (∃ n : Grown w, w' = n.u) → Q .normal a' w') l a) : (Code.region id l.toArray true).wp P Q a w :=
  wp_region_quiet (C := fun w' => ∃ n : Grown w, w' = n.u) hm hB ⟨⟨_, below_drew1 w⟩, rfl⟩ (by simpa using h)
theorem SaysIff.true {e : Ending} {q : Prop} (h : SaysIff e q) (hq : q) : e = .returned (.bool true) := by
  obtain ⟨b, rfl, hb⟩ := h
  rw [hb.2 hq]
theorem SaysIff.false {e : Ending} {q : Prop} (h : SaysIff e q) (hq : ¬ q) : e = .returned (.bool false) := by
  obtain ⟨b, rfl, hb⟩ := h
  cases b
  · rfl
  · exact absurd (hb.1 rfl) hq
theorem Grown.cell {w : World} {a : Addr} {x : Value} (h : w.cell? a = Option.some x) (n : Grown w) : n.u.cell? a = Option.some x := by rw [n.h.cell (block_lt_of_cell h)]; exact h
end Go.Proofs.YtalkpddhpmjgcaaGreat
