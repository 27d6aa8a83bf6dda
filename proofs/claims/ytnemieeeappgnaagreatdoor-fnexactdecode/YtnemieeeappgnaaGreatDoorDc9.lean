import Derived.Test.YtnemieeeappgnaaGreatDoorDc8
import Derived.Test.YtnemieeeappgnaaGreatDoorDc6
import Derived.Test.YtnemieeeappgnaaGreatDoorDc7
namespace Go.Proofs.YtnemieeeappgnaaGreatDoor
open Go.ChangeShapes Go.WideShapes Go.ChangeAt Go.RowKit
set_option linter.unusedVariables false
/-- A row: its type, how many cells a thing has, its slice, how many things there are, the cells. -/
structure RowI where
  e : TypeId
  k : Nat
  v : Value
  n : Nat
  xs : List Value
def RowI.own (w : World) (base : Nat) (r : RowI) : Prop := w.ownsRow base r.e r.k r.v r.n r.xs
def Off (a b : RowI) : Prop := ∀ g, a.v.ownBlock = some g → b.v.ownBlock ≠ some g
structure Sep (w : World) (base : Nat) (L : List RowI) : Prop where
  own : ∀ r ∈ L, r.own w base
  sep : L.Pairwise Off
theorem Sep.nil (w : World) (base : Nat) : Sep w base [] := ⟨fun r hr => (by cases hr), List.Pairwise.nil⟩
theorem Sep.keep {w w' : World} {base : Nat} {L : List RowI} (h : Sep w base L) (hb : Below w.heap.size w w') : Sep w' base L := ⟨fun r hr => own_keep (h.own r hr) hb (Nat.le_refl _), h.sep⟩
theorem Sep.base {w : World} {base base' : Nat} {L : List RowI} (h : Sep w base L) (hb : base' ≤ base) : Sep w base' L := ⟨fun r hr => own_base (h.own r hr) hb, h.sep⟩
/-- One row has turned, all else is as it was. -/
theorem Sep.put {w w' : World} {base : Nat} {A B : List RowI} {r : RowI} (h : Sep w base (A ++ r :: B)) (ys : List Value) (ho : w'.ownsRow base r.e r.k r.v r.n ys) (hg : w.grownBy w' r.v.ownBlock) : Sep w' base (A ++ { r with xs := ys } :: B) := by
  obtain ⟨pA, pB, pAB⟩ := List.pairwise_append.1 h.sep
  obtain ⟨pv, pB'⟩ := List.pairwise_cons.1 pB
  refine ⟨fun x hx => ?_, List.pairwise_append.2 ⟨pA, List.pairwise_cons.2 ⟨fun y hy => pv y hy, pB'⟩, fun a ha b hb => ?_⟩⟩
  · rcases List.mem_append.1 hx with hx | hx
    · exact own_apart' (h.own x (List.mem_append.2 (.inl hx))) hg (fun g hgx e => pAB x hx r (by simp) g hgx e.symm)
    · rcases List.mem_cons.1 hx with rfl | hx
      · exact ho
      · exact own_apart' (h.own x (List.mem_append.2 (.inr (List.mem_cons_of_mem _ hx)))) hg (fun g hgx e => pv x hx g e.symm hgx)
  · rcases List.mem_cons.1 hb with rfl | hb
    · exact fun g hga => pAB a ha r (by simp) g hga
    · exact pAB a ha b (List.mem_cons_of_mem _ hb)
/-- The same, the slice too may be a new one. -/
theorem Sep.grow {w w' : World} {base : Nat} {A B : List RowI} {r : RowI} (h : Sep w base (A ++ r :: B)) (r' : RowI) (ho : r'.own w' base) (hg : w.grownBy w' r.v.ownBlock) (hat : r'.v.ownBlock = r.v.ownBlock ∨ ∀ g, r'.v.ownBlock = some g → w.heap.size ≤ g) : Sep w' base (A ++ r' :: B) := by
  obtain ⟨pA, pB, pAB⟩ := List.pairwise_append.1 h.sep
  obtain ⟨pv, pB'⟩ := List.pairwise_cons.1 pB
  have lt : ∀ x ∈ A ++ r :: B, ∀ g, x.v.ownBlock = some g → g < w.heap.size := fun x hx g hg => ((h.own x hx).lt g hg).2
  refine ⟨fun x hx => ?_, List.pairwise_append.2 ⟨pA, List.pairwise_cons.2 ⟨fun y hy => ?_, pB'⟩, fun a ha b hb => ?_⟩⟩
  · rcases List.mem_append.1 hx with hx | hx
    · exact own_apart' (h.own x (List.mem_append.2 (.inl hx))) hg (fun g hgx e => pAB x hx r (by simp) g hgx e.symm)
    · rcases List.mem_cons.1 hx with rfl | hx
      · exact ho
      · exact own_apart' (h.own x (List.mem_append.2 (.inr (List.mem_cons_of_mem _ hx)))) hg (fun g hgx e => pv x hx g e.symm hgx)
  · intro g hg1 hg2
    rcases hat with e | e
    · exact pv y hy g (e ▸ hg1) hg2
    · have := lt y (List.mem_append.2 (.inr (List.mem_cons_of_mem _ hy))) g hg2
      have := e g hg1
      omega
  · rcases List.mem_cons.1 hb with rfl | hb
    · intro g hg1 hg2
      rcases hat with e | e
      · exact pAB a ha r (by simp) g hg1 (e ▸ hg2)
      · have := lt a (List.mem_append.2 (.inl ha)) g hg1
        have := e g hg2
        omega
    · exact pAB a ha b (List.mem_cons_of_mem _ hb)
/-- A new row behind the others. -/
theorem Sep.snoc {w : World} {base N : Nat} {L : List RowI} {r : RowI} (h : Sep w base L) (hlt : ∀ x ∈ L, ∀ g, x.v.ownBlock = some g → g < N) (ho : w.ownsRow N r.e r.k r.v r.n r.xs) (hN : base ≤ N) : Sep w base (L ++ [r]) := by
  refine ⟨fun x hx => ?_, List.pairwise_append.2 ⟨h.sep, List.pairwise_cons.2 ⟨fun y hy => (by cases hy), List.Pairwise.nil⟩, fun a ha b hb => ?_⟩⟩
  · rcases List.mem_append.1 hx with hx | hx
    · exact h.own x hx
    · rw [List.mem_singleton.1 hx]
      exact own_base ho hN
  · intro g hg1 hg2
    rw [List.mem_singleton.1 hb] at hg2
    have := hlt a ha g hg1
    have := (ho.lt g hg2).1
    omega
theorem Sep.lt {w : World} {base : Nat} {L : List RowI} (h : Sep w base L) : ∀ x ∈ L, ∀ g, x.v.ownBlock = some g → base ≤ g ∧ g < w.heap.size := fun x hx g hg => (h.own x hx).lt g hg
/-- Two families, the one ahead of the other. -/
theorem Sep.app {w : World} {base N : Nat} {L M : List RowI} (h : Sep w base L) (h' : Sep w N M) (hlt : ∀ x ∈ L, ∀ g, x.v.ownBlock = some g → g < N) (hN : base ≤ N) : Sep w base (L ++ M) := by
  refine ⟨fun x hx => ?_, List.pairwise_append.2 ⟨h.sep, h'.sep, fun a ha b hb => ?_⟩⟩
  · rcases List.mem_append.1 hx with hx | hx
    · exact h.own x hx
    · exact own_base (h'.own x hx) hN
  · intro g hg1 hg2
    have := hlt a ha g hg1
    have := (h'.lt b hb g hg2).1
    omega
theorem Off.symm {a b : RowI} (h : Off a b) : Off b a := fun g h1 h2 => h g h2 h1
theorem Sep.perm {w : World} {base : Nat} {L M : List RowI} (h : Sep w base L) (hp : L.Perm M) : Sep w base M := ⟨fun r hr => h.own r (hp.mem_iff.2 hr), hp.pairwise h.sep Off.symm⟩
theorem Sep.chg {R : Nat → Prop} {w w' : World} {base : Nat} {L : List RowI} (h : Sep w base L) (hc : Chg R w w') (hn : ∀ j, base ≤ j → ¬ R j) : Sep w' base L := ⟨fun r hr => hc.own (h.own r hr) (fun b hb => hn b ((h.own r hr).lt b hb).1), h.sep⟩
end Go.Proofs.YtnemieeeappgnaaGreatDoor
namespace Go.Proofs.YtnemieeeappgnaaGreatDoor
open Go.ChangeShapes Go.WideShapes Go.ChangeAt Go.RowKit
set_option linter.unusedVariables false
set_option maxHeartbeats 2000000 in
set_option maxRecDepth 100000 in
theorem markInt64S_ex (base : Nat) (s : Value) (cs : List Int) (k0 : Int) (w : World) (hn : cs.length ≤ 1048576) (h0 : 0 ≤ k0) (h1 : k0 ≤ 1152921504606846976) (h : w.ownsRow base 2 1 s cs.length (cs.flatMap intCell)) :
    Calls Tryz.prog 70 #[s, .int .i64 k0] w fun e w' => e = .returned (.int .i64 (k0 + (cs.length : Int))) ∧ w'.ownsRow base 2 1 s cs.length ((markIs k0 cs.length).flatMap intCell) ∧ w.grownBy w' s.ownBlock := by
  have H : Hid (w.ownsRow base 2 1 s cs.length ((markITo k0 cs 0).flatMap intCell)) := by show World.ownsRow _ _ _ _ _ _ _; rw [markITo_zero]; exact h
  rcases own_row h with ⟨rfl, hz⟩ | ⟨g, c, rfl⟩
  · clear h
    rw [hz] at H ⊢
    have hfin : Hid (w.ownsRow base 2 1 (.slice none 0 0) 0 ((markIs k0 0).flatMap intCell)) := World.ownsRow_nil _ _ _ _
    go_enter Tryz.func70, Tryz.ntmps70
    go_wp2
    go_loopw [1, 5] (fun q i wr => q = .int .i64 k0 ∧ i = .int .i64 0 ∧ wr = w) (fun _ _ _ => 0)
    case atStart => exact ⟨rfl, rfl, rfl⟩
    case round =>
      obtain ⟨rfl, rfl, rfl⟩ := hrel
      go_wp2
      go_ret
      exact ⟨by simp, hfin.out, ⟨rfl, rfl, rfl, Nat.le_refl _, fun _ _ _ => rfl⟩⟩
  · clear h
    generalize hLL : cs.length = n at hn H ⊢
    have HL : Hid (cs.length = n) := hLL
    clear hLL
    go_enter Tryz.func70, Tryz.ntmps70
    go_wp2
    go_loopw [1, 5] (fun q i wr => ∃ k : Nat, k ≤ n ∧ q = .int .i64 (k0 + k) ∧ i = .int .i64 k ∧ Hid (wr.ownsRow base 2 1 (.slice (some ⟨g, 0, none⟩) n c) n ((markITo k0 cs k).flatMap intCell) ∧ w.grownBy wr (some g))) (fun _ i _ => n - (intOf i).toNat)
    case atStart => exact ⟨0, by omega, by simp, rfl, H.out, ⟨rfl, rfl, rfl, Nat.le_refl _, fun _ _ _ => rfl⟩⟩
    case round =>
      obtain ⟨k, hk, rfl, rfl, HM⟩ := hrel
      by_cases hlt : k < n
      · obtain ⟨x, hx⟩ : ∃ x, cs[k]? = some x := ⟨_, List.getElem?_eq_getElem (by rw [HL.out]; exact hlt)⟩
        have hA : ((markIs k0 k).flatMap intCell).length = k := by rw [flat_length intCell 1 intCell_length, markIs_length, Nat.mul_one]
        have d0 := HM.out.1.cellAt k (by omega)
        rw [markITo_parts k0 cs k x hx, List.getElem?_append_right (by omega), hA, Nat.sub_self] at d0
        simp only [intCell, List.cons_append, List.getElem?_cons_zero] at d0
        have z0 := HM.out.1.frozenAt k
        have HN : Hid ((wr.setCell ⟨g, k, none⟩ (.int .i64 (k0 + k))).ownsRow base 2 1 (.slice (some ⟨g, 0, none⟩) n c) n ((markITo k0 cs (k + 1)).flatMap intCell) ∧ w.grownBy (wr.setCell ⟨g, k, none⟩ (.int .i64 (k0 + k))) (some g)) := by
          refine ⟨?_, grown_set' HM.out.2 _ _⟩
          have s1 := (HM.out.1.stored k (.int .i64 (k0 + k))).1
          rw [markITo_next k0 cs k x hx] at s1
          exact s1
        clear hA hx
        go_wp2
        go_roundw
        case rel => exact ⟨k + 1, by omega, by go_num, by go_num, HN⟩
        case measure => simp [intOf]; omega
      · have hkn : k = n := by omega
        subst hkn
        have HE : Hid (wr.ownsRow base 2 1 (.slice (some ⟨g, 0, none⟩) k c) k ((markIs k0 k).flatMap intCell) ∧ w.grownBy wr (some g)) := by
          have := HM.out
          rw [markITo_all k0 cs k HL.out] at this
          exact this
        go_wp2
        go_ret
        exact ⟨rfl, HE.out.1, HE.out.2⟩
set_option maxHeartbeats 1000000 in
theorem heldInt64S_ex (s : Value) (n : Nat) (k0 : Int) (w : World) (hn : n ≤ 1048576) (h0 : 0 ≤ k0) (h1 : k0 ≤ 1152921504606846976) (h : Rd w 1 s n ((markIs k0 n).flatMap intCell)) :
    Calls Tryz.prog 72 #[s, .int .i64 k0] w fun e w' => e = .returned (.int .i64 (k0 + (n : Int))) ∧ w' = w := by
  have H1 : Hid (Rd w 1 s n ((markIs k0 n).flatMap intCell)) := h
  obtain ⟨a1, c1, rfl⟩ := h.is_slice
  clear h
  go_enter Tryz.func72, Tryz.ntmps72
  go_wp2
  go_loopw [1, 5] (fun q i wr => ∃ k : Nat, k ≤ n ∧ q = .int .i64 (k0 + k) ∧ i = .int .i64 k ∧ wr = w) (fun _ i _ => n - (intOf i).toNat)
  case atStart => exact ⟨0, by omega, by simp, rfl, rfl⟩
  case round =>
    obtain ⟨k, hk, rfl, rfl, rfl⟩ := hrel
    by_cases hlt : k < n
    · have hz : (markIs k0 n)[k]? = some (k0 + (k : Int)) := by simp [markIs, hlt]
      rcases H1.out.2 with ⟨e0, _⟩ | ⟨g, o, c, e1, hc1⟩
      · omega
      simp only [Value.slice.injEq, true_and] at e1
      obtain ⟨rfl, rfl⟩ := e1
      have j0 := Rd.elem intCell_length hc1 k _ hz 0 _ rfl
      rw [Nat.mul_one, Nat.add_zero] at j0
      clear hc1 hz
      go_wp2
      go_roundw
      case rel => exact ⟨k + 1, by omega, by go_num, by go_num, by trivial⟩
      case measure => simp [intOf]; omega
    · have hkn : k = n := by omega
      subst hkn
      go_wp2
      go_ret
      exact ⟨rfl, rfl⟩
end Go.Proofs.YtnemieeeappgnaaGreatDoor
