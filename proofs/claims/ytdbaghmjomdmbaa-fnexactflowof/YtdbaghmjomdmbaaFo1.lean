import Derived.Test.YtdbaghmjomdmbaaFo0
import Derived.Deep.RegionWith
import Derived.Deep.Slices
import Derived.Lib.SmallJoins
namespace Go.Proofs.Ytdbaghmjomdmbaa
open Go.ChangeShapes Go.WideShapes Go.ChangeAt Go.RowKit
set_option linter.unusedVariables false
/-- An instruction. -/
structure MI where
  op : Int
  a : Int
  b : Int
  c : Int
def MI.cells (x : MI) : List Value := [.int .i64 x.op, .int .i64 x.a, .int .i64 x.b, .int .i64 x.c]
theorem MI.cells_length (x : MI) : x.cells.length = 4 := rfl
def intCell (z : Int) : List Value := [.int .i64 z]
theorem intCell_length (z : Int) : (intCell z).length = 1 := rfl
theorem info64 : (Try.prog.info? 2).map (fun i => (i.zero, i.size, i.bytes)) = some (some (.int .i64 0), 1, 8) := by kernel_rfl
theorem infoI : (Try.prog.info? 44).map (fun i => (i.zero, i.size, i.bytes)) = some (some (.agg #[.int .i64 0, .int .i64 0, .int .i64 0, .int .i64 0]), 4, 32) := by kernel_rfl
set_option maxHeartbeats 1000000 in
theorem toInstr_any (x : MI) (w : World) :
    Calls Try.prog 21 #[.agg #[.int .i64 x.op, .int .i64 x.a, .int .i64 x.b, .int .i64 x.c]] w fun e w' => e = .returned (.agg #[.int .i64 x.op, .int .i64 x.a, .int .i64 x.b, .int .i64 x.c]) ∧ Below w.heap.size w w' := by
  go_enter Try.func21, Try.ntmps21
  go_wp2
  exact bodyPost_ret (v := .agg #[.int .i64 x.op, .int .i64 x.a, .int .i64 x.b, .int .i64 x.c]) (by simp [results, Try.results21, go_sem]) rfl ⟨rfl, (((Below.refl _ _).alloc (Nat.le_refl _) _).alloc (by simp) _).alloc (by simp; omega) _⟩
set_option maxHeartbeats 2000000 in
set_option maxRecDepth 100000 in
theorem toInstrS_any (s : Value) (L : Nat) (ys : List MI) (w : World) (hL : L ≤ 1048576) (h : Rd w 4 s L (ys.flatMap MI.cells)) (hlen : ys.length = L) :
    Calls Try.prog 7 #[s] w fun e w' => e = .returned (.slice (some ⟨w.heap.size, 0, none⟩) L L) ∧ w'.ownsRow w.heap.size 44 4 (.slice (some ⟨w.heap.size, 0, none⟩) L L) L (ys.flatMap MI.cells) ∧ Below w.heap.size w w' := by
  obtain ⟨i0, hi, hz0, hz1, hz2⟩ := info_parts infoI
  have H1 : Hid (Rd w 4 s L (ys.flatMap MI.cells) ∧ ys.length = L) := ⟨h, hlen⟩
  obtain ⟨a1, c1, rfl⟩ := h.is_slice
  clear h hlen
  go_enter Try.func7, Try.ntmps7
  go_wp2_with (at_make; refine wpList_make_full _ rfl _ _ 26 rfl w.heap.size 44 i0 (.agg #[.int .i64 0, .int .i64 0, .int .i64 0, .int .i64 0]) 4 Try.underlying26 hi hz0 hz1 .i64 .i64 _ _ L rfl rfl rfl rfl (by rw [hz2]; omega) (by unfold maxLen; omega) (Nat.le_refl _) ?_; intro w1 hown hgrow)
  rw [flatTo_zero MI.cells [.int .i64 0, .int .i64 0, .int .i64 0, .int .i64 0] ys L (.agg #[.int .i64 0, .int .i64 0, .int .i64 0, .int .i64 0]) 4 rfl rfl (by omega)] at hown
  have hB : Below w.heap.size w w1 := (Below.refl _ _).grown hgrow (Nat.le_refl _) (fun k hk => by cases hk)
  clear hgrow
  go_loopw [4] (fun i wr => ∃ k : Nat, k ≤ L ∧ i = .int .i64 k ∧ wr.ownsRow w.heap.size 44 4 (.slice (some ⟨w.heap.size, 0, none⟩) L L) L (flatTo MI.cells [.int .i64 0, .int .i64 0, .int .i64 0, .int .i64 0] ys k L) ∧ Below w.heap.size w wr) (fun i _ => L - (intOf i).toNat)
  case atStart => exact ⟨0, by omega, rfl, hown, hB⟩
  case round =>
    clear hown hB
    obtain ⟨k, hk, rfl, hown, hbel⟩ := hrel
    by_cases hlt : k < L
    · obtain ⟨x, hx⟩ : ∃ x, ys[k]? = some x := ⟨_, List.getElem?_eq_getElem (by rw [H1.out.2]; exact hlt)⟩
      have hnext := flatTo_next MI.cells [.int .i64 0, .int .i64 0, .int .i64 0, .int .i64 0] ys k L x hx
      rw [flatTo_parts MI.cells [.int .i64 0, .int .i64 0, .int .i64 0, .int .i64 0] ys k L hlt] at hown
      have hA : ((ys.take k).flatMap MI.cells).length = k * 4 := by rw [flat_length MI.cells 4 MI.cells_length, List.length_take, H1.out.2, Nat.min_eq_left hk]
      generalize (ys.take k).flatMap MI.cells = A at hown hnext hA
      generalize (List.replicate (L - (k + 1)) ([.int .i64 0, .int .i64 0, .int .i64 0, .int .i64 0] : List Value)).flatten = R at hown hnext
      rcases H1.out.1.2 with ⟨e0, _⟩ | ⟨g, o, c, e1, hc1⟩
      · omega
      · simp only [Value.slice.injEq, true_and] at e1
        obtain ⟨rfl, rfl⟩ := e1
        have i0 := Rd.elem MI.cells_length hc1 k x hx 0 _ rfl
        have i1 := Rd.elem MI.cells_length hc1 k x hx 1 _ rfl
        have i2 := Rd.elem MI.cells_length hc1 k x hx 2 _ rfl
        have i3 := Rd.elem MI.cells_length hc1 k x hx 3 _ rfl
        rw [← hbel.cell (block_lt_of_cell i0)] at i0
        rw [← hbel.cell (block_lt_of_cell i1)] at i1
        rw [← hbel.cell (block_lt_of_cell i2)] at i2
        rw [← hbel.cell (block_lt_of_cell i3)] at i3
        rw [Nat.add_zero] at i0
        have HO : Hid (wr.ownsRow w.heap.size 44 4 (.slice (some ⟨w.heap.size, 0, none⟩) L L) L (A ++ ([.int .i64 0, .int .i64 0, .int .i64 0, .int .i64 0] ++ R)) ∧ A.length = k * 4 ∧ flatTo MI.cells [.int .i64 0, .int .i64 0, .int .i64 0, .int .i64 0] ys (k + 1) L = A ++ (MI.cells x ++ R)) := ⟨hown, hA, hnext⟩
        clear hown hA hnext hc1 hx
        go_wp2_with fail
        refine (toInstr_any x wr).mono ?_
        rintro e u ⟨rfl, hbu⟩
        have hown := own_keep HO.out.1 hbu (Nat.le_refl _)
        have hA := HO.out.2.1
        have f0 := hown.frozenAt (k * 4)
        have f1 := hown.frozenAt (k * 4 + 1)
        have f2 := hown.frozenAt (k * 4 + 2)
        have f3 := hown.frozenAt (k * 4 + 3)
        have d0 := hown.cellAt (k * 4) (by omega)
        have d1 := hown.cellAt (k * 4 + 1) (by omega)
        have d2 := hown.cellAt (k * 4 + 2) (by omega)
        have d3 := hown.cellAt (k * 4 + 3) (by omega)
        rw [List.getElem?_append_right (by omega), hA] at d0 d1 d2 d3
        rw [Nat.sub_self] at d0
        rw [Nat.add_sub_cancel_left] at d1 d2 d3
        simp only [List.cons_append, List.getElem?_cons_zero, List.getElem?_cons_succ] at d0 d1 d2 d3
        have HB : Hid (Below w.heap.size w u ∧ u.ownsRow w.heap.size 44 4 (.slice (some ⟨w.heap.size, 0, none⟩) L L) L (A ++ ([.int .i64 0, .int .i64 0, .int .i64 0, .int .i64 0] ++ R))) := ⟨hbel.trans (hbu.mono hbel.size), hown⟩
        clear hown hA hbu hbel i0 i1 i2 i3
        go_wp2
        go_roundw
        case rel =>
          refine ⟨k + 1, by omega, by go_num, ?_, (((HB.out.1.setCell (Nat.le_refl _) _).setCell (Nat.le_refl _) _).setCell (Nat.le_refl _) _).setCell (Nat.le_refl _) _⟩
          have s0 := (HB.out.2.stored (k * 4) (.int .i64 x.op)).1
          have s1 := (s0.stored (k * 4 + 1) (.int .i64 x.a)).1
          have s2 := (s1.stored (k * 4 + 2) (.int .i64 x.b)).1
          have s3 := (s2.stored (k * 4 + 3) (.int .i64 x.c)).1
          rw [set4 A R _ _ _ _ _ _ _ _ (k * 4) HO.out.2.1] at s3
          rw [HO.out.2.2]
          exact s3
        case measure => simp [intOf]; omega
    · have hkn : k = L := by omega
      subst hkn
      rw [flatTo_all _ _ _ _ H1.out.2] at hown
      have HO : Hid (wr.ownsRow w.heap.size 44 4 (.slice (some ⟨w.heap.size, 0, none⟩) k k) k (ys.flatMap MI.cells)) := hown
      clear hown
      go_wp2
      go_ret
      exact ⟨rfl, HO.out, hbel⟩
theorem below_drewN (B : Nat) (w : World) (nq : Nat) : Below B w (w.drewN nq) := ⟨rfl, rfl, rfl, Nat.le_refl _, fun _ _ => rfl⟩
theorem below_drew_trans {w u : World} (h : Below w.drew.heap.size w.drew u) {B : Nat} (hB : B ≤ w.heap.size) : Below B w u := ⟨h.os, h.tape, h.output, h.size, fun k hk => h.block k (Nat.lt_of_lt_of_le hk hB)⟩
set_option maxHeartbeats 1000000 in
theorem eqInt64S_quiet (s s' : Value) (ys : List Int) (w : World) (hn : ys.length ≤ 140737488355328) (h : Rd w 1 s ys.length (ys.flatMap intCell)) (h' : Rd w 1 s' ys.length (ys.flatMap intCell)) :
    Calls Try.prog 40 #[s, s'] w fun e w' => e = .returned (.bool true) ∧ ∃ m, w' = w.drewN m := by
  have H1 : Hid (Rd w 1 s ys.length (ys.flatMap intCell)) := h
  have H2 : Hid (Rd w 1 s' ys.length (ys.flatMap intCell)) := h'
  obtain ⟨a1, c1, rfl⟩ := h.is_slice
  obtain ⟨a2, c2, rfl⟩ := h'.is_slice
  clear h h'
  generalize hLL : ys.length = n at hn H1 H2
  have HL : Hid (ys.length = n) := hLL
  clear hLL
  go_enter Try.func40, Try.ntmps40
  go_wp2
  go_loopw [5] (fun i wr => ∃ k : Nat, k ≤ n ∧ i = .int .i64 k ∧ ∃ m, wr = w.drewN m) (fun i _ => n - (intOf i).toNat)
  case atStart => exact ⟨0, by omega, rfl, 0, rfl⟩
  case round =>
    obtain ⟨k, hk, rfl, m, rfl⟩ := hrel
    by_cases hlt : k < n
    · obtain ⟨x, hx⟩ : ∃ x, ys[k]? = some x := ⟨_, List.getElem?_eq_getElem (by rw [HL.out]; exact hlt)⟩
      rcases H1.out.2 with ⟨e0, _⟩ | ⟨g, o, c, e1, hc1⟩
      · omega
      · rcases H2.out.2 with ⟨e0, _⟩ | ⟨g', o', c', e2, hc2⟩
        · omega
        · simp only [Value.slice.injEq, true_and] at e1 e2
          obtain ⟨rfl, rfl⟩ := e1
          obtain ⟨rfl, rfl⟩ := e2
          have i0 := Rd.elem intCell_length hc1 k x hx 0 _ rfl
          have j0 := Rd.elem intCell_length hc2 k x hx 0 _ rfl
          rw [Nat.mul_one, Nat.add_zero] at i0 j0
          clear hc1 hc2 hx
          go_wp2
          go_quiet (fail)
          go_wp2
          go_roundw
          case rel => exact ⟨k + 1, by omega, by go_num, _, rfl⟩
          case measure => simp [intOf]; omega
    · go_wp2
      go_ret
      exact ⟨rfl, _, rfl⟩
theorem eqInt64S_same (s s' : Value) (ys : List Int) (w : World) (hn : ys.length ≤ 140737488355328) (h : Rd w 1 s ys.length (ys.flatMap intCell)) (h' : Rd w 1 s' ys.length (ys.flatMap intCell)) :
    Calls Try.prog 40 #[s, s'] w fun e w' => e = .returned (.bool true) ∧ Below w.heap.size w w' :=
  (eqInt64S_quiet s s' ys w hn h h').mono fun e w' ⟨h1, m, h2⟩ => ⟨h1, h2 ▸ below_drewN _ _ _⟩
set_option maxHeartbeats 1000000 in
theorem eqInstr_same (x : MI) (w : World) :
    Calls Try.prog 27 #[.agg #[.int .i64 x.op, .int .i64 x.a, .int .i64 x.b, .int .i64 x.c], .agg #[.int .i64 x.op, .int .i64 x.a, .int .i64 x.b, .int .i64 x.c]] w fun e w' => e = .returned (.bool true) ∧ Below w.heap.size w w' := by
  go_enter Try.func27, Try.ntmps27
  go_wp2
  go_ret
  exact ⟨rfl, (((Below.refl _ _).alloc (Nat.le_refl _) _).alloc (by simp) _)⟩
set_option maxHeartbeats 1000000 in
theorem eqInstrS_same (s s' : Value) (ys : List MI) (w : World) (hn : ys.length ≤ 1048576) (h : Rd w 4 s ys.length (ys.flatMap MI.cells)) (h' : Rd w 4 s' ys.length (ys.flatMap MI.cells)) :
    Calls Try.prog 10 #[s, s'] w fun e w' => e = .returned (.bool true) ∧ Below w.heap.size w w' := by
  have H1 : Hid (Rd w 4 s ys.length (ys.flatMap MI.cells)) := h
  have H2 : Hid (Rd w 4 s' ys.length (ys.flatMap MI.cells)) := h'
  obtain ⟨a1, c1, rfl⟩ := h.is_slice
  obtain ⟨a2, c2, rfl⟩ := h'.is_slice
  clear h h'
  generalize hLL : ys.length = n at hn H1 H2
  have HL : Hid (ys.length = n) := hLL
  clear hLL
  go_enter Try.func10, Try.ntmps10
  go_wp2
  go_loopw [5] (fun i wr => ∃ k : Nat, k ≤ n ∧ i = .int .i64 k ∧ Below w.heap.size w wr) (fun i _ => n - (intOf i).toNat)
  case atStart => exact ⟨0, by omega, rfl, Below.refl _ _⟩
  case round =>
    obtain ⟨k, hk, rfl, hbel⟩ := hrel
    have HB : Hid (Below w.heap.size w wr) := hbel
    clear hbel
    by_cases hlt : k < n
    · obtain ⟨x, hx⟩ : ∃ x, ys[k]? = some x := ⟨_, List.getElem?_eq_getElem (by rw [HL.out]; exact hlt)⟩
      rcases H1.out.2 with ⟨e0, _⟩ | ⟨g, o, c, e1, hc1⟩
      · omega
      · rcases H2.out.2 with ⟨e0, _⟩ | ⟨g', o', c', e2, hc2⟩
        · omega
        · simp only [Value.slice.injEq, true_and] at e1 e2
          obtain ⟨rfl, rfl⟩ := e1
          obtain ⟨rfl, rfl⟩ := e2
          have i0 := Rd.elem MI.cells_length hc1 k x hx 0 _ rfl
          have i1 := Rd.elem MI.cells_length hc1 k x hx 1 _ rfl
          have i2 := Rd.elem MI.cells_length hc1 k x hx 2 _ rfl
          have i3 := Rd.elem MI.cells_length hc1 k x hx 3 _ rfl
          have j0 := Rd.elem MI.cells_length hc2 k x hx 0 _ rfl
          have j1 := Rd.elem MI.cells_length hc2 k x hx 1 _ rfl
          have j2 := Rd.elem MI.cells_length hc2 k x hx 2 _ rfl
          have j3 := Rd.elem MI.cells_length hc2 k x hx 3 _ rfl
          rw [← HB.out.cell (block_lt_of_cell i0), Nat.add_zero] at i0
          rw [← HB.out.cell (block_lt_of_cell i1)] at i1
          rw [← HB.out.cell (block_lt_of_cell i2)] at i2
          rw [← HB.out.cell (block_lt_of_cell i3)] at i3
          rw [← HB.out.cell (block_lt_of_cell j0), Nat.add_zero] at j0
          rw [← HB.out.cell (block_lt_of_cell j1)] at j1
          rw [← HB.out.cell (block_lt_of_cell j2)] at j2
          rw [← HB.out.cell (block_lt_of_cell j3)] at j3
          clear hc1 hc2 hx
          go_wp2_with fail
          go_region_with (go_at_call 27; refine (eqInstr_same x _).mono ?_; rintro e u ⟨rfl, hbu⟩)
          all_goals
            have HB2 : Hid (Below w.heap.size w u) := HB.out.trans (below_drew_trans hbu HB.out.size)
            clear hbu HB i0 i1 i2 i3 j0 j1 j2 j3
            go_wp2
            go_roundw
            case rel => exact ⟨k + 1, by omega, by go_num, HB2.out⟩
            case measure => simp [intOf]; omega
    · go_wp2
      go_ret
      exact ⟨rfl, HB.out⟩
/-- What is left. -/
def szv (left n : Int) : Int := if left - n < 0 then -1 else left - n
set_option maxHeartbeats 1000000 in
theorem szInstrS_any (a : Option Addr) (n c : Nat) (left : Int) (w : World) (hn : n ≤ 9223372036854775807) (h0 : 0 ≤ left) (h1 : left ≤ 1048576) :
    Calls Try.prog 5 #[.slice a n c, .int .i64 left] w fun e w' => e = .returned (.int .i64 (szv left n)) ∧ w' = w := by
  by_cases hb : left - n < 0
  · have e : szv left n = -1 := if_pos hb
    rw [e]
    go_enter Try.func5, Try.ntmps5
    go_wp2
    go_ret
    exact ⟨rfl, rfl⟩
  · have e : szv left n = left - n := if_neg hb
    rw [e]
    go_enter Try.func5, Try.ntmps5
    go_wp2
    go_ret
    exact ⟨rfl, rfl⟩

section
variable {H : Type} {enc : TypeId × Value → H} {P : Program} {w : World} {spare : Nat → Bool} {held : Bool}
theorem add_at (b off : Nat) (i : Nat) : (⟨b, off, none⟩ : Addr).add i = ⟨b, off + i, none⟩ := by unfold Addr.add; split <;> simp_all
/-- A slice whose elements read each as one of a family. -/
theorem open_rows {α : Type} [Inhabited α] (f : α → List Value) (G : α → Prop) (m : Nat) (hf : ∀ y, (f y).length = m) (h0 : 0 < m) {t e : TypeId} (ht : P.underlying t = some (.slice e)) (hm : P.cellsOf e = m)
    (hel : ∀ fuel cs x, DataW.trod enc P w 0 spare held fuel e cs = some x → ∃ y, cs = f y ∧ G y) {fuel : Nat} {cs : List Value} {x : DataW H × List MemPlace} (h : DataW.trod enc P w 0 spare held fuel t cs = some x) :
    ∃ (s : Value) (ys : List α), cs = [s] ∧ Rd w m s ys.length (ys.flatMap f) ∧ ys.length ≤ maxLen ∧ ∀ y ∈ ys, G y := by
  rcases DataW.trod_slice ht h with ⟨rfl, _⟩ | ⟨a, len, cap, elems, rest, n, _, rfl, _, _, hl, hmx, hlen, hE, _, _⟩
  · exact ⟨_, [], rfl, ⟨by simp, .inl ⟨rfl, _, _, rfl⟩⟩, by simp, fun y hy => by cases hy⟩
  · rw [hm] at hE
    have hy : ∀ i, i < len → ∃ y, w.cells? 0 (a.add (i * m)) m = some (f y) ∧ G y := by
      intro i hi
      have h1 := hE i hi
      rw [List.getElem?_eq_getElem (by omega)] at h1
      obtain ⟨cs', hc, hx⟩ := Option.bind_eq_some_iff.1 h1
      obtain ⟨y, rfl, hg⟩ := hel _ _ _ hx
      exact ⟨y, hc, hg⟩
    obtain ⟨F, hF⟩ := Go.Deep.choose_lt hy
    refine ⟨_, (List.range len).map F, rfl, ⟨?_, ?_⟩, by simp; omega, ?_⟩
    · rw [flat_length f m hf]
    · by_cases hz : len = 0
      · subst hz
        exact .inl ⟨by simp, _, _, rfl⟩
      · obtain ⟨b, off, spot⟩ := a
        have hc0 := (World.cells?_some (hF 0 (by omega)).1).2.2 0 h0
        have hfl : 0 < (f (F 0)).length := by rw [hf]; exact h0
        rw [List.getElem?_eq_getElem hfl] at hc0
        have hspot : spot = none := by simpa [Addr.add] using World.cell?_spot hc0
        subst hspot
        refine .inr ⟨b, off, cap, by simp, fun j u hj => ?_⟩
        have hjl : j < len * m := by
          have := (List.getElem?_eq_some_iff.1 hj).1
          rw [flat_length f m hf] at this
          simpa using this
        have hq : j / m < len := (Nat.div_lt_iff_lt_mul h0).2 hjl
        have hr := Nat.mod_lt j h0
        have ej : j = j / m * m + j % m := by rw [Nat.mul_comm]; exact (Nat.div_add_mod j m).symm
        have hk : ((List.range len).map F)[j / m]? = some (F (j / m)) := by simp [hq]
        have hcell := (World.cells?_some (hF (j / m) hq).1).2.2 (j % m) hr
        have hat := flat_at f m hf _ (j / m) (j % m) _ hk hr
        rw [← ej, hj] at hat
        rw [add_at, add_at, Nat.add_assoc, ← ej] at hcell
        rw [hcell, ← hat]
    · intro y hy'
      obtain ⟨i, hi, rfl⟩ := List.mem_map.1 hy'
      exact (hF i (List.mem_range.1 hi)).2
end
instance : Inhabited MI := ⟨⟨0, 0, 0, 0⟩⟩
def W64 (z : Int) : Prop := (Lit.int .i64 z).wf = true
def MI.wf (x : MI) : Prop := W64 x.op ∧ W64 x.a ∧ W64 x.b ∧ W64 x.c
theorem cells64 : Try.prog.cellsOf 2 = 1 := by kernel_rfl
theorem cellsLI : Try.prog.cellsOf 48 = 4 := by kernel_rfl
theorem cellsSI : Try.prog.cellsOf 22 = 1 := by kernel_rfl
section
variable {H : Type} {enc : TypeId × Value → H} {w : World} {spare : Nat → Bool} {held : Bool} {fuel : Nat} {cs : List Value} {x : DataW H × List MemPlace}
theorem four {cs : List Value} (h : cs.length = 4) : ∃ a b c d, cs = [a, b, c, d] := by
  match cs, h with
  | [a, b, c, d], _ => exact ⟨a, b, c, d, rfl⟩
theorem open_i64 (h : DataW.trod enc Try.prog w 0 spare held fuel 2 cs = some x) : ∃ z, cs = intCell z ∧ W64 z := by
  obtain ⟨n, h1, _, h2⟩ := DataW.trod_int Try.underlying2 h
  exact ⟨n, h1, h2⟩
theorem open_instr (h : DataW.trod enc Try.prog w 0 spare held fuel 48 cs = some x) : ∃ y : MI, cs = y.cells ∧ y.wf := by
  obtain ⟨y0, y1, y2, y3, n, _, hl, g0, g1, g2, g3⟩ := Go.Joins.trod_struct4 Try.underlying48 h
  rw [cellsLI] at hl
  obtain ⟨a, b, c, d, rfl⟩ := four hl
  simp only [cells64, List.drop_zero, List.drop_succ_cons, List.take_succ_cons, List.take_zero] at g0 g1 g2 g3
  obtain ⟨z0, e0, w0⟩ := open_i64 g0
  obtain ⟨z1, e1, w1⟩ := open_i64 g1
  obtain ⟨z2, e2, w2⟩ := open_i64 g2
  obtain ⟨z3, e3, w3⟩ := open_i64 g3
  simp only [intCell, List.cons.injEq, and_true] at e0 e1 e2 e3
  subst e0 e1 e2 e3
  exact ⟨⟨z0, z1, z2, z3⟩, rfl, w0, w1, w2, w3⟩
theorem open_code (h : DataW.trod enc Try.prog w 0 spare held fuel 22 cs = some x) : ∃ (s : Value) (ys : List MI), cs = [s] ∧ Rd w 4 s ys.length (ys.flatMap MI.cells) ∧ ys.length ≤ 9223372036854775807 ∧ ∀ y ∈ ys, y.wf := by
  obtain ⟨s, ys, e, h1, h2, h3⟩ := open_rows MI.cells MI.wf 4 MI.cells_length (by omega) Try.underlying22 cellsLI (fun _ _ _ => open_instr) h
  exact ⟨s, ys, e, h1, by simp [maxLen] at h2; exact h2, h3⟩
end
end Go.Proofs.Ytdbaghmjomdmbaa
