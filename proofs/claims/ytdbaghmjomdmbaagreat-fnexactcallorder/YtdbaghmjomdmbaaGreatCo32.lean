import Derived.Test.YtdbaghmjomdmbaaGreatCo31
namespace Go.Proofs.YtdbaghmjomdmbaaGreat
open Go.ChangeShapes Go.WideShapes Go.ChangeAt Go.RowKit
set_option linter.unusedVariables false
/-- A map as an element: by its block's number. -/
def mapElem : Value → Option (DataW Unit × List MemPlace)
  | .map (some b) => some (.lit (.int .i64 (b : Int)), [])
  | _ => none
theorem mapElem_inv {v : Value} {y : DataW Unit × List MemPlace} (h : mapElem v = some y) : ∃ b : Nat, v = .map (some b) ∧ y = (.lit (.int .i64 (b : Int)), []) := by
  cases v with
  | map o =>
    cases o with
    | none => cases h
    | some b => exact ⟨b, rfl, (Option.some.inj h).symm⟩
  | _ => cases h
theorem any_sorted {H : Type} (f : Lit × DataW H → Bool) : ∀ l : List (Lit × DataW H), (l.foldr DataW.insert []).any f = l.any f
  | [] => rfl
  | x :: r => by rw [List.foldr_cons, Go.Maps.any_insert, any_sorted f r, List.any_cons]
/-- A set is empty just if it has no number. -/
theorem set_empty {w : World} {b cnt : Nat} {D : DataW Unit} (h : SetAt w b cnt D) : Go.Maps.size D = 0 ↔ ∀ z, Go.Maps.has D (.int .i64 z) = false := by
  obtain ⟨es, clock, hb, hF, hs, rfl⟩ := h
  rw [Go.Maps.size_eq, Go.length_read]
  constructor
  · intro e z
    rw [Go.Maps.has_eq, any_sorted]
    have : es.toList = [] := List.eq_nil_of_length_eq_zero (by simpa using e)
    rw [this]
    rfl
  · intro hn
    cases hl : es.toList with
    | nil =>
      have : es.toList.length = 0 := by rw [hl]; rfl
      simpa using this
    | cons x r =>
      obtain ⟨y, hy⟩ := hF.reads x (by rw [hl]; simp)
      obtain ⟨z, _, hz, _⟩ := Go.Maps.keyOf_int_inv Tryz.underlying2 (Go.WideElems.rd_key hy)
      have := hn z
      rw [Go.Maps.has_eq, any_sorted, hl, List.map_cons, List.any_cons] at this
      rw [Go.WideElems.rg_of hy] at this
      simp only [hz, sameKey_int, decide_true, Bool.true_or] at this
      cases this
/-- What was met and is empty, so far. -/
def ReadyTo (D W : DataW Unit) (left : Lit → Bool) (E : Int → Bool) : Prop := ∀ z : Int, Go.Maps.has D (.int .i64 z) = (Go.Maps.has W (.int .i64 z) && !left (.int .i64 z) && E z)
theorem ReadyTo.yes {D W : DataW Unit} {left : Lit → Bool} {E : Int → Bool} {x : Int} (h : ReadyTo D W left E) (hm : Go.Maps.IsMap D) (hW : Go.Maps.has W (.int .i64 x) = true) (hE : E x = true) : ReadyTo (D.put (.int .i64 x) (.agg [])) W (fun z => left z && !z.sameKey (.int .i64 x)) E := by
  intro z
  rw [has_putC D hm, h z]
  simp only [sameKey_int]
  by_cases e : z = x
  · subst e
    simp [hW, hE]
  · simp [e, Ne.symm e]
theorem ReadyTo.no {D W : DataW Unit} {left : Lit → Bool} {E : Int → Bool} {x : Int} (h : ReadyTo D W left E) (hE : E x = false) : ReadyTo D W (fun z => left z && !z.sameKey (.int .i64 x)) E := by
  intro z
  rw [h z]
  simp only [sameKey_int]
  by_cases e : z = x
  · subst e
    simp [hE]
  · simp [e]
set_option maxHeartbeats 4000000 in
set_option maxRecDepth 100000 in
theorem readyOf_any (bw cnt : Nat) (W : DataW Unit) (E : Int → Bool) (w : World) (hcnt : cnt ≤ 1048576) (h : w.ownsMap Tryz.prog 2 mapElem bw cnt W) (hsets : ∀ (z : Int) (c : Nat), (∀ zd, W.atKey (.int .i64 z) zd = .lit (.int .i64 (c : Int))) → ∃ cn D, cn ≤ 1048576 ∧ SetAt w c cn D ∧ (Go.Maps.size D = 0 ↔ E z = true)) :
    Calls Tryz.prog 24 #[.map (some bw)] w fun e w' => ∃ (g cap : Nat) (zs : List Int), e = .returned (.slice (some ⟨g, 0, none⟩) zs.length cap) ∧ w'.ownsRow w.heap.size 2 1 (.slice (some ⟨g, 0, none⟩) zs.length cap) zs.length (zs.flatMap intCell) ∧ zs.Pairwise (· < ·) ∧ (∀ z, z ∈ zs ↔ W64 z ∧ Go.Maps.has W (.int .i64 z) = true ∧ E z = true) ∧ Below w.heap.size w w' := by
  have hbl := h.lt
  have HS : Hid (∀ (z : Int) (c : Nat), (∀ zd, W.atKey (.int .i64 z) zd = .lit (.int .i64 (c : Int))) → ∃ cn D, cn ≤ 1048576 ∧ SetAt w c cn D ∧ (Go.Maps.size D = 0 ↔ E z = true)) := hsets
  clear hsets
  have hmm := @run_makeMap Tryz.prog
  have hown1 := h.alloc (.map #[] 0)
  have S0 : SetAt (w.alloc (.map #[] 0)) w.heap.size 0 (.map []) := World.ownsMap_made _ _ _ _
  have z1 : (w.alloc (.map #[] 0)).heap.size = w.heap.size + 1 := by simp
  go_enter Tryz.func24, Tryz.ntmps24
  go_wp2_with (first
    | (at_range; refine wpList_range_own _ rfl _ 60 rfl 2 62 law64 Tryz.underlying60 _ bw cnt _ rfl hown1 ?_; intro w0 hrg0 hg0 hs0)
    | go_in)
  go_frame
  have HB0 : Hid (SetAt w0 w.heap.size 0 (.map []) ∧ Below w.heap.size w w0) := ⟨World.ownsMap.kept S0 hg0 (by simp), (below_alloc w (.map #[] 0)).grown hg0 (below_alloc _ _).size (fun j hj => by cases hj)⟩
  have hszw := h.size_le
  clear hg0 hs0 S0 hown1
  generalize hzit : (w.alloc (.map #[] 0)).heap.size = it at hrg0 z1 ⊢
  clear hzit
  have Z1 : Hid (it = w.heap.size + 1) := z1
  clear z1
  go_loopw [4] (fun _ wr => ∃ (left : Lit → Bool) (cn cr : Nat) (D : DataW Unit), wr.ranges Tryz.prog 2 mapElem bw it cnt W left cn ∧ cr + cn ≤ Go.Maps.size W ∧ SetAt wr w.heap.size cr D ∧ ReadyTo D W left E ∧ Below w.heap.size w wr) (fun _ wr => wr.rangeLeft bw it)
  case atStart => exact ⟨_, _, 0, .map [], hrg0, by simp, HB0.out.1, fun z => by cases hh : Go.Maps.has W (.int .i64 z) <;> rfl, HB0.out.2⟩
  case round =>
    obtain ⟨left, cn, cr, D, hrg, hcr, hset, hrd, hnx⟩ := hrel
    go_wp2_with (first
      | (at_next; refine wpList_next_ranges _ rfl _ rfl 2 law64 mapElem (Value.int .i64) (fun (c : Nat) => Value.map (some c)) (fun key kl hk => by obtain ⟨x, hx, _⟩ := Go.Maps.keyOf_int_inv Tryz.underlying2 hk; exact ⟨x, hx⟩) (fun v y hv => by obtain ⟨c, rfl, _⟩ := mapElem_inv hv; exact ⟨c, rfl⟩) bw it cnt _ _ _ rfl hrg ?_ ?_)
      | go_in)
    · intro hc0 hl0
      have HD : Hid (SetAt wr w.heap.size cr D ∧ ReadyTo D W left E ∧ Below w.heap.size w wr) := ⟨hset, hrd, hnx⟩
      clear hset hrd hnx hrg
      go_wp2_with fail
      refine (rising_any w.heap.size cr D _ (by omega) HD.out.1).mono ?_
      rintro e u9 ⟨g9, cap9, zs, rfl, own9, hsrt, hmem, b9⟩
      have HE : Hid (u9.ownsRow w.heap.size 2 1 (.slice (some ⟨g9, 0, none⟩) zs.length cap9) zs.length (zs.flatMap intCell) ∧ zs.Pairwise (· < ·) ∧ (∀ z, z ∈ zs ↔ W64 z ∧ Go.Maps.has W (.int .i64 z) = true ∧ E z = true) ∧ Below w.heap.size w u9) := by
        refine ⟨own_base own9 HD.out.2.2.size, hsrt, fun z => ?_, below_on HD.out.2.2 (Nat.le_refl _) b9⟩
        rw [hmem, HD.out.2.1 z, hl0]
        simp
      clear own9 hsrt hmem b9
      go_wp2
      go_ret
      exact ⟨g9, cap9, zs, rfl, HE.out.1, HE.out.2.1, HE.out.2.2.1, HE.out.2.2.2⟩
    · intro x c kl y ps w2 cnt2 hkey hlk hv hat hrg2 hlt hg2 hs2 hen
      obtain ⟨x', ex, rfl, hwx⟩ := Go.Maps.keyOf_int_inv Tryz.underlying2 hkey
      obtain rfl : x = x' := by cases ex; rfl
      obtain ⟨c', ec, ey⟩ := mapElem_inv hv
      obtain ⟨rfl, rfl⟩ := Prod.mk.inj ey
      clear ey
      obtain rfl : c = c' := by cases ec; rfl
      obtain ⟨cs, DS, hcs, hsat, hemp⟩ := HS.out x c hat
      have hnx2 : Below w.heap.size w w2 := hnx.grown hg2 hnx.size (fun j hj => by cases hj; have := Z1.out; omega)
      have hset2 : SetAt w2 w.heap.size cr D := World.ownsMap.kept hset hg2 (by have := Z1.out; simp; omega)
      have hsat2 : SetAt w2 c cs DS := hsat.keep hnx2
      have hlen2 := hsat2
      unfold SetAt at hlen2
      clear hs2
      have hrgb : ¬ it = w.heap.size := by have := Z1.out; omega
      have HB : Hid (SetAt w2 w.heap.size cr D ∧ Below w.heap.size w w2 ∧ ReadyTo D W left E ∧ Go.Maps.IsMap D ∧ wr.rangeLeft bw it = cn ∧ Go.Maps.has W (.int .i64 x) = true) := ⟨hset2, hnx2, hrd, World.ownsMap.isMap hset, hrg.left_eq, Go.Maps.has_true_of_atKey hat⟩
      clear hset2 hnx2 hrd hset hrg hnx hsat hsat2
      by_cases he : Go.Maps.size DS = 0
      · have HCE : Hid ((w2.alloc (.cells #[.int .i64 x] 2)).cell? ⟨w2.heap.size, 0, none⟩ = some (.int .i64 x) ∧ SetAt (w2.alloc (.cells #[.int .i64 x] 2)) w.heap.size cr D ∧ Below w.heap.size w (w2.alloc (.cells #[.int .i64 x] 2)) ∧ ¬ w2.heap.size = w.heap.size ∧ ¬ bw = w.heap.size ∧ E x = true) := ⟨(Blk.new w2 #[.int .i64 x] 2).cell 0, HB.out.1.keep (below_alloc _ _), below_on HB.out.2.1 (Nat.le_refl _) (below_alloc _ _), by have := World.ownsMap.lt HB.out.1; omega, by omega, hemp.1 he⟩
        have hrgA := hrg2.alloc (.cells #[.int .i64 x] 2)
        have HRA : Hid (_) := hrgA
        clear hrgA hrg2
        go_wp2_with (first
          | (at_len; refine wpList_len_own _ rfl _ 62 rfl 2 118 Tryz.underlying62 _ c cs _ rfl hlen2 ?_; rw [he])
          | fail)
        refine (add_one w.heap.size cr w2.heap.size 1 D x _ hwx (by omega) HCE.out.1 HCE.out.2.2.2.1 HCE.out.2.1).mono ?_
        rintro e u4 ⟨rfl, s4, g4⟩
        have HN : Hid (u4.ranges Tryz.prog 2 mapElem bw it cnt W (fun z => left z && !z.sameKey (.int .i64 x)) cnt2 ∧ SetAt u4 w.heap.size (cr + 1) (D.put (.int .i64 x) (.agg [])) ∧ ReadyTo (D.put (.int .i64 x) (.agg [])) W (fun z => left z && !z.sameKey (.int .i64 x)) E ∧ Below w.heap.size w u4) := ⟨World.ranges.kept HRA.out g4 (by simp; exact HCE.out.2.2.2.2.1) (by simp; exact hrgb), s4, HB.out.2.2.1.yes HB.out.2.2.2.1 HB.out.2.2.2.2.2 HCE.out.2.2.2.2.2, HCE.out.2.2.1.grown g4 HCE.out.2.2.1.size (fun j hj => by cases hj; exact Nat.le_refl _)⟩
        clear s4 g4
        go_wp2
        go_roundw
        case rel => exact ⟨_, cnt2, cr + 1, _, HN.out.1, by omega, HN.out.2.1, HN.out.2.2.1, HN.out.2.2.2⟩
        case measure => rw [HN.out.1.left_eq, HB.out.2.2.2.2.1]; exact hlt
      · have hne : ((Go.Maps.size DS : Nat) : Int) ≠ 0 := by omega
        have hE : E x = false := by cases hx : E x with
          | false => rfl
          | true => exact absurd (hemp.2 hx) he
        go_wp2_with (first
          | (at_len; refine wpList_len_own _ rfl _ 62 rfl 2 118 Tryz.underlying62 _ c cs _ rfl hlen2 ?_)
          | go_in)
        go_roundw
        case rel => exact ⟨_, cnt2, cr, D, hrg2, by omega, HB.out.1, HB.out.2.2.1.no hE, HB.out.2.1⟩
        case measure => rw [hrg2.left_eq, HB.out.2.2.2.2.1]; exact hlt
end Go.Proofs.YtdbaghmjomdmbaaGreat
