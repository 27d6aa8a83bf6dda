/- St2: lists of lists of values: toValueSS, eqValueSS, szValueSS. -/
import Derived.Test.YtadkabiipkngiaaSt1
namespace Go.Proofs.Ytadkabiipkngiaa
open Go.ChangeShapes Go.WideShapes Go.ChangeAt Go.RowKit
set_option linter.unusedVariables false
theorem infoVV : (Try.prog.info? 33).map (fun i => (i.zero, i.size, i.bytes)) = some (some (.slice none 0 0), 1, 24) := by kernel_rfl
def vCells (x : List MC × Value) : List Value := [x.2]
theorem vCells_length (x : List MC × Value) : (vCells x).length = 1 := rfl
def RdVV (w : World) (s : Value) (rs : List (List MC)) : Prop := ∃ xs : List (List MC × Value), xs.map Prod.fst = rs ∧ Rd w 1 s rs.length (xs.flatMap vCells) ∧ ∀ x ∈ xs, Rd w 2 x.2 x.1.length (x.1.flatMap MC.cells)
def OwnVV (w : World) (base : Nat) (s : Value) (rs : List (List MC)) : Prop := ∃ xs : List (List MC × Value), xs.map Prod.fst = rs ∧ w.ownsRow base 33 1 s rs.length (xs.flatMap vCells) ∧ ∀ x ∈ xs, w.ownsRow base 104 2 x.2 x.1.length (x.1.flatMap MC.cells)
theorem OwnVV.rd {w : World} {base : Nat} {s : Value} {rs : List (List MC)} (h : OwnVV w base s rs) : RdVV w s rs := by
  obtain ⟨xs, h1, h2, h3⟩ := h
  exact ⟨xs, h1, Rd.of_own h2, fun x hx => Rd.of_own (h3 x hx)⟩
theorem RdVV.keep {w w' : World} {s : Value} {rs : List (List MC)} (h : RdVV w s rs) {B : Nat} (hb : Below B w w') (hB : w.heap.size ≤ B) : RdVV w' s rs := by
  obtain ⟨xs, h1, h2, h3⟩ := h
  exact ⟨xs, h1, h2.keep hb hB, fun x hx => (h3 x hx).keep hb hB⟩
theorem OwnVV.keep {w w' : World} {base : Nat} {s : Value} {rs : List (List MC)} (h : OwnVV w base s rs) {B : Nat} (hb : Below B w w') (hB : w.heap.size ≤ B) : OwnVV w' base s rs := by
  obtain ⟨xs, h1, h2, h3⟩ := h
  exact ⟨xs, h1, own_keep h2 hb hB, fun x hx => own_keep (h3 x hx) hb hB⟩
theorem OwnVV.base {w : World} {base base' : Nat} {s : Value} {rs : List (List MC)} (h : OwnVV w base s rs) (hb : base' ≤ base) : OwnVV w base' s rs := by
  obtain ⟨xs, h1, h2, h3⟩ := h
  exact ⟨xs, h1, own_base h2 hb, fun x hx => own_base (h3 x hx) hb⟩
theorem OwnVV.below {w : World} {base : Nat} {s : Value} {rs : List (List MC)} (h : OwnVV w base s rs) {a : Addr} (ha : a.block < base) (u : Value) : OwnVV (w.setCell a u) base s rs := by
  obtain ⟨xs, h1, h2, h3⟩ := h
  exact ⟨xs, h1, ownsRow_setCell_below h2 ha u, fun x hx => ownsRow_setCell_below (h3 x hx) ha u⟩
/-- Where the copying of lists stands. -/
structure VSt (w wr : World) (fs : List (List MC)) (L k : Nat) (ys : List (List MC × Value)) : Prop where
  fst : ys.map Prod.fst = fs.take k
  len : ys.length = k
  row : wr.ownsRow w.heap.size 33 1 (.slice (some ⟨w.heap.size, 0, none⟩) L L) L (newTo vCells [.slice none 0 0] ys L)
  els : ∀ y ∈ ys, wr.ownsRow (w.heap.size + 1) 104 2 y.2 y.1.length (y.1.flatMap MC.cells)
  bel : Below w.heap.size w wr
  siz : w.heap.size + 1 ≤ wr.heap.size
theorem VSt.places {w wr : World} {fs : List (List MC)} {L k : Nat} {ys : List (List MC × Value)} (h : VSt w wr fs L k ys) (hk : k < L) {u : World} (hb : Below wr.heap.size wr u) :
    u.cell? ⟨w.heap.size, k, none⟩ = some (.slice none 0 0) ∧ u.frozen? ⟨w.heap.size, k, none⟩ = false := by
  have hown := own_keep h.row hb (Nat.le_refl _)
  rw [newTo_parts vCells _ ys k L hk h.len] at hown
  have hA : (ys.flatMap vCells).length = k := by rw [flat_length vCells 1 vCells_length, h.len, Nat.mul_one]
  have d0 := hown.cellAt k (by omega)
  rw [List.getElem?_append_right (by omega), hA] at d0
  rw [Nat.sub_self] at d0
  exact ⟨d0, hown.frozenAt _⟩
theorem VSt.next {w wr : World} {fs : List (List MC)} {L k : Nat} {ys : List (List MC × Value)} (h : VSt w wr fs L k ys) (hk : k < L) {u : World} (hb : Below wr.heap.size wr u) {f : List MC} (hf : fs[k]? = some f) {v : Value} (ho : u.ownsRow wr.heap.size 104 2 v f.length (f.flatMap MC.cells)) :
    VSt w (u.setCell ⟨w.heap.size, k, none⟩ v) fs L (k + 1) (ys ++ [(f, v)]) := by
  have hown := own_keep h.row hb (Nat.le_refl _)
  rw [newTo_parts vCells _ ys k L hk h.len] at hown
  have hA : (ys.flatMap vCells).length = k := by rw [flat_length vCells 1 vCells_length, h.len, Nat.mul_one]
  have s0 := (hown.stored k v).1
  rw [set1 _ _ _ _ k hA] at s0
  refine ⟨fst_next h.fst hf v, by simp [h.len], ?_, ?_, ?_, ?_⟩
  · rw [newTo_next vCells _ ys k L (f, v) h.len]
    exact s0
  · intro y hy
    have hy' : u.ownsRow (w.heap.size + 1) 104 2 y.2 y.1.length (y.1.flatMap MC.cells) := by
      rcases List.mem_append.1 hy with hy | hy
      · exact own_keep (h.els y hy) hb (Nat.le_refl _)
      · simp only [List.mem_singleton] at hy
        subst hy
        exact own_base ho h.siz
    exact ownsRow_setCell_below hy' (by simp) _
  · exact (h.bel.trans (hb.mono (by have := h.siz; omega))).setCell (Nat.le_refl _) _
  · have := hb.size
    have := h.siz
    simp
    omega
set_option maxHeartbeats 4000000 in
set_option maxRecDepth 100000 in
theorem toValueSS_any (s : Value) (fs : List (List MC)) (w : World) (hL : fs.length ≤ 1048576) (hs : ∀ f ∈ fs, f.length ≤ 1048576) (h : RdVV w s fs) :
    Calls Try.prog 25 #[s] w fun e w' => ∃ a c, e = .returned (.slice a fs.length c) ∧ OwnVV w' w.heap.size (.slice a fs.length c) fs ∧ Below w.heap.size w w' := by
  obtain ⟨i0, hi, hz0, hz1, hz2⟩ := info_parts infoVV
  obtain ⟨xs, hxs, hrd, hel⟩ := h
  have hxl : xs.length = fs.length := by rw [← hxs]; simp
  have H1 : Hid (Rd w 1 s fs.length (xs.flatMap vCells) ∧ xs.map Prod.fst = fs ∧ (∀ x ∈ xs, Rd w 2 x.2 x.1.length (x.1.flatMap MC.cells)) ∧ (∀ f ∈ fs, f.length ≤ 1048576) ∧ xs.length = fs.length) := ⟨hrd, hxs, hel, hs, hxl⟩
  obtain ⟨a1, c1, rfl⟩ := hrd.is_slice
  clear hrd hxs hel hs hxl
  generalize hLL : fs.length = L at hL H1
  have HL : Hid (fs.length = L) := hLL
  clear hLL
  go_enter Try.func25, Try.ntmps25
  go_wp2_with (at_make; refine wpList_make_full _ rfl _ _ 32 rfl w.heap.size 33 i0 (.slice none 0 0) 1 Try.underlying32 hi hz0 hz1 .i64 .i64 _ _ L rfl rfl rfl rfl (by rw [hz2]; omega) (by unfold maxLen; omega) (Nat.le_refl _) ?_; intro w1 hown hgrow)
  rw [newTo_zero vCells [.slice none 0 0] L (.slice none 0 0) 1 rfl rfl (by omega)] at hown
  have hB : Below w.heap.size w w1 := (Below.refl _ _).grown hgrow (Nat.le_refl _) (fun k hk => by cases hk)
  have hst : VSt w w1 fs L 0 [] := ⟨by simp, rfl, hown, (fun y hy => by cases hy), hB, own_lt hown⟩
  clear hgrow hown hB
  go_loopw [4] (fun i wr => ∃ k : Nat, k ≤ L ∧ i = .int .i64 k ∧ ∃ ys, VSt w wr fs L k ys) (fun i _ => L - (intOf i).toNat)
  case atStart => exact ⟨0, by omega, rfl, _, hst⟩
  case round =>
    clear hst
    obtain ⟨k, hk, rfl, ys, hst⟩ := hrel
    by_cases hlt : k < L
    · obtain ⟨x, hx⟩ : ∃ x, xs[k]? = some x := ⟨_, List.getElem?_eq_getElem (by rw [H1.out.2.2.2.2]; exact hlt)⟩
      have hfx := fst_at H1.out.2.1 hx
      have hrx := H1.out.2.2.1 x (List.mem_of_getElem? hx)
      have hsm := H1.out.2.2.2.1 x.1 (List.mem_of_getElem? hfx)
      rcases H1.out.1.2 with ⟨e0, _⟩ | ⟨g, o, c, e1, hc1⟩
      · omega
      · simp only [Value.slice.injEq, true_and] at e1
        obtain ⟨rfl, rfl⟩ := e1
        have i0 := Rd.elem vCells_length hc1 k x hx 0 _ rfl
        rw [← hst.bel.cell (block_lt_of_cell i0)] at i0
        rw [Nat.mul_one, Nat.add_zero] at i0
        obtain ⟨f, v⟩ := x
        have HX : Hid (fs[k]? = some f ∧ Rd wr 2 v f.length (f.flatMap MC.cells) ∧ f.length ≤ 1048576) := ⟨hfx, hrx.keep hst.bel (Nat.le_refl _), hsm⟩
        clear hfx hrx hsm hx hc1
        simp only [] at i0
        go_wp2_with fail
        refine (toValueS_new v f wr HX.out.2.2 HX.out.2.1).mono ?_
        rintro e u ⟨b1, d1, rfl, hou, hbu⟩
        obtain ⟨q0, f0⟩ := hst.places hlt hbu
        have HN : Hid _ := hst.next hlt hbu HX.out.1 hou
        clear hou hbu i0 hst HX
        go_wp2
        go_roundw
        case rel => exact ⟨k + 1, by omega, by go_num, _, HN.out⟩
        case measure => simp [intOf]; omega
    · have hkn : k = L := by omega
      subst hkn
      go_wp2
      go_ret
      refine ⟨some ⟨w.heap.size, 0, none⟩, k, rfl, ⟨ys, ?_, ?_, fun y hy => own_base (hst.els y hy) (by omega)⟩, hst.bel⟩
      · rw [hst.fst, ← HL.out, List.take_length]
      · have hrow := hst.row
        rw [newTo_all _ _ _ _ hst.len] at hrow
        rw [HL.out]
        exact hrow
set_option maxHeartbeats 2000000 in
set_option maxRecDepth 100000 in
theorem eqValueSS_same (s s' : Value) (fs : List (List MC)) (w : World) (hL : fs.length ≤ 1048576) (hs : ∀ f ∈ fs, f.length ≤ 1048576) (h : RdVV w s fs) (h' : RdVV w s' fs) :
    Calls Try.prog 30 #[s, s'] w fun e w' => e = .returned (.bool true) ∧ Below w.heap.size w w' := by
  obtain ⟨xs, hxs, hrd, hel⟩ := h
  obtain ⟨xs', hxs', hrd', hel'⟩ := h'
  have hxl : xs.length = fs.length := by rw [← hxs]; simp
  have hxl' : xs'.length = fs.length := by rw [← hxs']; simp
  have H1 : Hid (Rd w 1 s fs.length (xs.flatMap vCells) ∧ xs.map Prod.fst = fs ∧ (∀ x ∈ xs, Rd w 2 x.2 x.1.length (x.1.flatMap MC.cells)) ∧ (∀ f ∈ fs, f.length ≤ 1048576) ∧ xs.length = fs.length) := ⟨hrd, hxs, hel, hs, hxl⟩
  have H2 : Hid (Rd w 1 s' fs.length (xs'.flatMap vCells) ∧ xs'.map Prod.fst = fs ∧ (∀ x ∈ xs', Rd w 2 x.2 x.1.length (x.1.flatMap MC.cells)) ∧ (∀ f ∈ fs, f.length ≤ 1048576) ∧ xs'.length = fs.length) := ⟨hrd', hxs', hel', hs, hxl'⟩
  obtain ⟨a1, c1, rfl⟩ := hrd.is_slice
  obtain ⟨a2, c2, rfl⟩ := hrd'.is_slice
  clear hrd hxs hel hs hxl hrd' hxs' hel' hxl'
  generalize hLL : fs.length = n at hL H1 H2
  clear hLL
  go_enter Try.func30, Try.ntmps30
  go_wp2
  go_loopw [5] (fun i wr => ∃ k : Nat, k ≤ n ∧ i = .int .i64 k ∧ Below w.heap.size w wr) (fun i _ => n - (intOf i).toNat)
  case atStart => exact ⟨0, by omega, rfl, Below.refl _ _⟩
  case round =>
    obtain ⟨k, hk, rfl, hbel⟩ := hrel
    have HB : Hid (Below w.heap.size w wr) := hbel
    clear hbel
    by_cases hlt : k < n
    · obtain ⟨⟨f, v⟩, hx⟩ : ∃ x, xs[k]? = some x := ⟨_, List.getElem?_eq_getElem (by rw [H1.out.2.2.2.2]; exact hlt)⟩
      obtain ⟨⟨f', v'⟩, hx'⟩ : ∃ x, xs'[k]? = some x := ⟨_, List.getElem?_eq_getElem (by rw [H2.out.2.2.2.2]; exact hlt)⟩
      have e1 := fst_at H1.out.2.1 hx
      have e2 := fst_at H2.out.2.1 hx'
      have hff : f' = f := by
        rw [e1] at e2
        exact (Option.some.inj e2).symm
      subst hff
      have HX : Hid (Rd wr 2 v f'.length (f'.flatMap MC.cells) ∧ Rd wr 2 v' f'.length (f'.flatMap MC.cells) ∧ f'.length ≤ 1048576) := ⟨(H1.out.2.2.1 _ (List.mem_of_getElem? hx)).keep HB.out (Nat.le_refl _), (H2.out.2.2.1 _ (List.mem_of_getElem? hx')).keep HB.out (Nat.le_refl _), Nat.le_trans (H1.out.2.2.2.1 _ (List.mem_of_getElem? e1)) (by omega)⟩
      clear e1 e2
      rcases H1.out.1.2 with ⟨e0, _⟩ | ⟨g, o, c, e1, hc1⟩
      · omega
      · rcases H2.out.1.2 with ⟨e0, _⟩ | ⟨g', o', c', e2, hc2⟩
        · omega
        · simp only [Value.slice.injEq, true_and] at e1 e2
          obtain ⟨rfl, rfl⟩ := e1
          obtain ⟨rfl, rfl⟩ := e2
          have i0 := Rd.elem vCells_length hc1 k _ hx 0 _ rfl
          have j0 := Rd.elem vCells_length hc2 k _ hx' 0 _ rfl
          rw [← HB.out.cell (block_lt_of_cell i0)] at i0
          rw [← HB.out.cell (block_lt_of_cell j0)] at j0
          rw [Nat.mul_one, Nat.add_zero] at i0 j0
          clear hc1 hc2 hx hx'
          simp only [] at i0 j0
          go_wp2_with fail
          go_region_with (go_at_call 31; refine (eqValueS_same v v' f' _ HX.out.2.2 (by exact HX.out.1) (by exact HX.out.2.1)).mono ?_; rintro e u ⟨rfl, hbu⟩)
          all_goals
            have HB2 : Hid (Below w.heap.size w u) := HB.out.trans (below_drew_trans hbu HB.out.size)
            clear hbu HB i0 j0
            go_wp2
            go_roundw
            case rel => exact ⟨k + 1, by omega, by go_num, HB2.out⟩
            case measure => simp [intOf]; omega
    · go_wp2
      go_ret
      exact ⟨rfl, HB.out⟩

set_option maxHeartbeats 2000000 in
set_option maxRecDepth 100000 in
theorem szValueSS_any (s : Value) (fs : List (List MC)) (left : Int) (w : World) (hL : fs.length ≤ 9223372036854775807) (hs : ∀ f ∈ fs, f.length ≤ 9223372036854775807) (h : RdVV w s fs) (h0 : 0 ≤ left) (h1 : left ≤ 1048576) :
    Calls Try.prog 21 #[s, .int .i64 left] w fun e w' => ∃ r : Int, e = .returned (.int .i64 r) ∧ (r = -1 ∨ 0 ≤ r ∧ r ≤ left ∧ (fs.length : Int) ≤ left ∧ ∀ f ∈ fs, (f.length : Int) ≤ left) ∧ w' = w := by
  obtain ⟨xs, hxs, hrd, hel⟩ := h
  have hxl : xs.length = fs.length := by rw [← hxs]; simp
  have H1 : Hid (Rd w 1 s fs.length (xs.flatMap vCells) ∧ xs.map Prod.fst = fs ∧ (∀ x ∈ xs, Rd w 2 x.2 x.1.length (x.1.flatMap MC.cells)) ∧ (∀ f ∈ fs, f.length ≤ 9223372036854775807) ∧ xs.length = fs.length) := ⟨hrd, hxs, hel, hs, hxl⟩
  obtain ⟨a1, c1, rfl⟩ := hrd.is_slice
  clear hrd hxs hel hs hxl
  generalize hLL : fs.length = n at hL H1 ⊢
  have HL : Hid (fs.length = n) := hLL
  clear hLL
  by_cases hb : left - n < 0
  · go_enter Try.func21, Try.ntmps21
    go_wp2
    go_ret
    exact ⟨-1, rfl, .inl rfl, rfl⟩
  · go_enter Try.func21, Try.ntmps21
    go_wp2
    go_loopw [1, 5] (fun l i wr => ∃ (k : Nat) (q : Int), k ≤ n ∧ l = .int .i64 q ∧ i = .int .i64 k ∧ 0 ≤ q ∧ q ≤ left ∧ Hid (∀ f ∈ fs.take k, (f.length : Int) ≤ left) ∧ wr = w) (fun _ i _ => n - (intOf i).toNat)
    case atStart => exact ⟨0, left - n, by omega, rfl, rfl, by omega, by omega, (fun f hf => by simp at hf), rfl⟩
    case round =>
      obtain ⟨k, q, hk, rfl, rfl, q0, q1, HQ, rfl⟩ := hrel
      by_cases hlt : k < n
      · obtain ⟨⟨f, v⟩, hx⟩ : ∃ x, xs[k]? = some x := ⟨_, List.getElem?_eq_getElem (by rw [H1.out.2.2.2.2]; exact hlt)⟩
        have e1 := fst_at H1.out.2.1 hx
        have hv := H1.out.2.2.1 _ (List.mem_of_getElem? hx)
        have hfl := H1.out.2.2.2.1 _ (List.mem_of_getElem? e1)
        simp only [] at hv hfl e1
        obtain ⟨av, cv, rfl⟩ := hv.is_slice
        rcases H1.out.1.2 with ⟨e0, _⟩ | ⟨g, o, c, e2, hc1⟩
        · omega
        · simp only [Value.slice.injEq, true_and] at e2
          obtain ⟨rfl, rfl⟩ := e2
          have i0 := Rd.elem vCells_length hc1 k _ hx 0 _ rfl
          rw [Nat.mul_one, Nat.add_zero] at i0
          simp only [] at i0
          have HE : Hid (fs[k]? = some f) := e1
          clear hc1 hx hv e1
          by_cases hq : q - f.length < 0
          · have hz : szv q f.length = -1 := if_pos hq
            go_wp2_with fail
            refine (szValueS_any av f.length cv q wr hfl q0 (by omega)).mono ?_
            rw [hz]
            rintro e u ⟨rfl, rfl⟩
            clear hz
            go_wp2
            go_ret
            exact ⟨-1, rfl, .inl rfl, rfl⟩
          · have hz : szv q f.length = q - f.length := if_neg hq
            go_wp2_with fail
            refine (szValueS_any av f.length cv q wr hfl q0 (by omega)).mono ?_
            rw [hz]
            rintro e u ⟨rfl, rfl⟩
            clear hz
            go_wp2
            go_roundw
            case rel =>
              refine ⟨k + 1, q - f.length, by omega, rfl, by go_num, by omega, by omega, ?_, by trivial⟩
              intro y hy
              obtain ⟨hlt', hf'⟩ := List.getElem?_eq_some_iff.1 HE.out
              rw [List.take_succ_eq_append_getElem hlt', hf'] at hy
              rcases List.mem_append.1 hy with hy | hy
              · exact HQ.out y hy
              · simp only [List.mem_singleton] at hy
                subst hy
                omega
            case measure => simp [intOf]; omega
      · have hkn : k = n := by omega
        subst hkn
        have HA : Hid (∀ f ∈ fs, (f.length : Int) ≤ left) := by
          have := HQ.out
          rw [← HL.out, List.take_length] at this
          exact this
        clear HQ
        go_wp2
        go_ret
        exact ⟨q, rfl, .inr ⟨q0, q1, by omega, HA.out⟩, rfl⟩

end Go.Proofs.Ytadkabiipkngiaa
