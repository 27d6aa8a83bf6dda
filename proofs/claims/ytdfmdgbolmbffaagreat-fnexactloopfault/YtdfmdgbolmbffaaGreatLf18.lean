import Derived.Test.YtdfmdgbolmbffaaGreatLf16
import Derived.Test.YtdfmdgbolmbffaaGreatLf17
import Derived.Maps.RangeWalk
import Derived.Sort.KeysCollected
import Derived.Maps.AppendAt
import Derived.Test.YtdfmdgbolmbffaaGreatLf6
import Derived.Test.YtdfmdgbolmbffaaGreatLf11
import Derived.Deep.AppendLies
namespace Go.Proofs.YtdfmdgbolmbffaaGreat
open Go.ChangeShapes Go.WideShapes Go.ChangeAt Go.RowKit
set_option linter.unusedVariables false
/-- The numbers met so far. -/
structure CollI (D : DataW Unit) (left : Lit → Bool) (zs : List Int) : Prop where
  nodup : zs.Nodup
  mem : ∀ z, z ∈ zs ↔ W64 z ∧ Go.Maps.has D (.int .i64 z) = true ∧ left (.int .i64 z) = false
theorem CollI.start (D : DataW Unit) : CollI D (Go.Maps.has D) [] := ⟨List.nodup_nil, fun z => ⟨fun h => (by cases h), fun h => by rw [h.2.1] at h; exact absurd h.2.2 (by simp)⟩⟩
theorem sameKey_int (z x : Int) : (Lit.int .i64 z).sameKey (.int .i64 x) = decide (z = x) := by
  by_cases h : z = x
  · subst h
    simp [Lit.sameKey]
  · rw [Go.Maps.sameKey_ne (fun e => h (by cases e; rfl))]
    simp [h]
theorem CollI.step {D : DataW Unit} {left : Lit → Bool} {zs : List Int} {x : Int} {y : DataW Unit} (h : CollI D left zs) (hw : W64 x) (hl : left (.int .i64 x) = true) (hat : ∀ zd, D.atKey (.int .i64 x) zd = y) : CollI D (fun z => left z && !z.sameKey (.int .i64 x)) (zs ++ [x]) := by
  have hx : x ∉ zs := fun e => by
    have := ((h.mem x).1 e).2.2
    rw [hl] at this
    cases this
  refine ⟨?_, fun z => ?_⟩
  · rw [List.nodup_append]
    refine ⟨h.nodup, by simp, ?_⟩
    intro a ha b hb
    simp only [List.mem_cons, List.not_mem_nil, or_false] at hb
    subst hb
    exact fun e => hx (e ▸ ha)
  · rw [List.mem_append, h.mem]
    simp only [List.mem_cons, List.not_mem_nil, or_false, sameKey_int]
    constructor
    · rintro (⟨h1, h2, h3⟩ | rfl)
      · exact ⟨h1, h2, by simp [h3]⟩
      · exact ⟨hw, Go.Maps.has_true_of_atKey hat, by simp⟩
    · rintro ⟨h1, h2, h3⟩
      by_cases e : z = x
      · exact .inr e
      · refine .inl ⟨h1, h2, ?_⟩
        simpa [e] using h3
theorem ints_flat (zs : List Int) : zs.flatMap intCell = zs.map (Value.int .i64) := by
  induction zs with
  | nil => rfl
  | cons z r ih => simp [intCell, ih]
theorem sorted_lt (zs : List Int) (h : zs.Nodup) : (zs.mergeSort fun x y => decide (x ≤ y)).Pairwise (· < ·) := by
  have h1 : (zs.mergeSort fun x y => decide (x ≤ y)).Pairwise (fun a b => decide (a ≤ b) = true) := List.pairwise_mergeSort (fun a b c h1 h2 => by simp at *; omega) (fun a b => by simp; omega) zs
  have h2 : (zs.mergeSort fun x y => decide (x ≤ y)).Nodup := (List.mergeSort_perm zs _).nodup_iff.2 h
  refine (h1.and h2).imp ?_
  rintro a b ⟨h3, h4⟩
  simp at h3
  omega
set_option maxHeartbeats 4000000 in
set_option maxRecDepth 100000 in
theorem rising_any (b cnt : Nat) (D : DataW Unit) (w : World) (hcnt : cnt ≤ 1048576) (h : SetAt w b cnt D) :
    Calls Tryz.prog 141 #[.map (some b)] w fun e w' => ∃ (g cap : Nat) (zs : List Int), e = .returned (.slice (some ⟨g, 0, none⟩) zs.length cap) ∧ w'.ownsRow w.heap.size 2 1 (.slice (some ⟨g, 0, none⟩) zs.length cap) zs.length (zs.flatMap intCell) ∧ zs.Pairwise (· < ·) ∧ (∀ z, z ∈ zs ↔ W64 z ∧ Go.Maps.has D (.int .i64 z) = true) ∧ Below w.heap.size w w' := by
  obtain ⟨i0, hi, hz0, hz1, hz2⟩ := info_parts info64
  have hown : w.ownsMap Tryz.prog 2 (unitElem (H := Unit)) b cnt D := h
  have hbl := hown.lt
  have hsz := hown.size_le
  clear h
  go_enter Tryz.func141, Tryz.ntmps141
  go_wp2_with (first
    | (at_len; refine wpList_len_own _ rfl _ 142 rfl 2 205 Tryz.underlying142 _ b cnt _ rfl hown ?_)
    | (at_make; refine wpList_make_own _ rfl _ _ 48 rfl w.heap.size 2 i0 (.int .i64 0) 1 Tryz.underlying48 hi hz0 hz1 _ _ _ (Go.Maps.size D) rfl rfl rfl (by rw [hz2]; omega) (by unfold maxLen; omega) (Nat.le_refl _) ?_; intro w1 hrow1 hg1)
    | (at_range; refine wpList_range_own _ rfl _ 142 rfl 2 205 law64 Tryz.underlying142 _ b cnt _ rfl (hown.kept hg1 (by simp)) ?_; intro w0 hrg0 hg0 hs0)
    | go_in)
  go_frame
  go_loopw [3] (fun v wr => ∃ (left : Lit → Bool) (cn : Nat) (zs : List Int), wr.ranges Tryz.prog 2 (unitElem (H := Unit)) b w1.heap.size cnt D left cn ∧ zs.length + cn ≤ Go.Maps.size D ∧ wr.ownsRow w.heap.size 2 1 v zs.length (zs.map (Value.int .i64)) ∧ v ≠ .slice none 0 0 ∧ CollI D left zs ∧ Below w.heap.size w wr) (fun _ wr => wr.rangeLeft b w1.heap.size)
  case atStart =>
    exact ⟨_, _, [], hrg0, by simp, hrow1.kept hg0 (Or.inr (by simp [Value.ownBlock])), by simp, CollI.start D, ((Below.refl _ _).grown hg1 (Nat.le_refl _) (fun j hj => by cases hj)).grown hg0 hg1.size (fun j hj => by cases hj)⟩
  case round =>
    obtain ⟨left, cn, zs, hrg, hcs, hrow, hnn, hC, hnx⟩ := hrel
    go_wp2_with (first
      | (at_next; refine wpList_next_ranges _ rfl _ rfl 2 law64 (unitElem (H := Unit)) (Value.int .i64) (fun (_ : Unit) => Value.agg #[]) (fun key kl hk => by obtain ⟨x, hx, _⟩ := Go.Maps.keyOf_int_inv Tryz.underlying2 hk; exact ⟨x, hx⟩) (fun v y hv => by obtain ⟨rfl, _⟩ := unitElem_inv hv; exact ⟨(), rfl⟩) b w1.heap.size cnt _ _ _ rfl hrg ?_ ?_)
      | go_in)
    · intro hc0 hl0
      rcases hrow.2 with ⟨hnil, _⟩ | ⟨g, cap, cur, rfl, hbase, hb, h1, h2, h3, h4⟩
      · exact absurd hnil hnn
      have hH : Go.Sort.Holds (Value.int .i64) wr g 0 zs.toArray := holds_of_blockI hb (by simpa using h4)
      have hgl : g < wr.heap.size := (Array.getElem?_eq_some_iff.1 hb).1
      have hc := sort_any g cap zs wr hH hgl (by omega)
      have HP : Hid ((zs.mergeSort fun x y => decide (x ≤ y)).Pairwise (· < ·) ∧ (∀ z, z ∈ (zs.mergeSort fun x y => decide (x ≤ y)) ↔ W64 z ∧ Go.Maps.has D (.int .i64 z) = true) ∧ (zs.mergeSort fun x y => decide (x ≤ y)).length = zs.length) := by
        refine ⟨sorted_lt zs hC.nodup, fun z => ?_, (List.mergeSort_perm zs _).length_eq⟩
        rw [(List.mergeSort_perm zs _).mem_iff, hC.mem]
        exact ⟨fun q => ⟨q.1, q.2.1⟩, fun q => ⟨q.1, q.2, hl0 _⟩⟩
      go_wp2_with (go_at_call 145; refine hc.mono ?_; rintro e w' ⟨rfl, nn, os, rfl⟩)
      go_ret
      refine ⟨g, cap, zs.mergeSort fun x y => decide (x ≤ y), ?_, ?_, HP.out.1, HP.out.2.1, hnx.grown (grownBy_sortedI _) hnx.size (fun j hj => by cases hj; exact hbase)⟩
      · rw [HP.out.2.2]
        rfl
      · rw [HP.out.2.2, ints_flat]
        exact ownsRow_sortedI HP.out.2.2 hbase hb h1 h2 h3
    · intro x c kl y w2 cnt2 hkey hlk hv hat hrg2 hlt hg2 hs2 hen
      obtain ⟨x', ex, rfl, hwx⟩ := Go.Maps.keyOf_int_inv Tryz.underlying2 hkey
      obtain rfl : x = x' := by cases ex; rfl
      have hrow2 := hrow.kept hg2 (Or.inr (Go.row_ne_iter hrow hrg).symm)
      clear hs2
      go_wp2_with (first
        | (at_builtin; refine wpList_append_own _ rfl _ _ 48 rfl w.heap.size 2 i0 (.int .i64 0) 1 8 Tryz.underlying48 hi hz0 hz1 hz2 rfl (by decide) _ _ _ rfl (hrow2.alloc _) ⟨w2.heap.size, 0, none⟩ 1 1 [.int .i64 x] rfl rfl (Go.cell_one_new _ _ _) (fun u hu => by simp at hu; subst hu; rfl) (by unfold maxLen; omega) (by omega) (by have := hnx.size; have := hg2.size; simp; omega) ?_; intro v' w3 hown' hg3 hnil3; go_frame)
        | go_in)
      have hrg3 := (hrg2.alloc (.cells #[.int .i64 x] 2)).kept hg3 (Go.row_ne_low hrow2 hbl) (Go.row_ne_iter hrow2 hrg2)
      go_roundw
      case rel =>
        refine ⟨_, cnt2, zs ++ [x], hrg3, by simp; omega, by simpa using hown', fun hv' => by have := (hnil3.1 hv').2; omega, hC.step hwx hlk hat, ?_⟩
        exact ((hnx.grown hg2 hnx.size (fun j hj => by cases hj; exact hg1.size)).alloc (by have := hnx.size; have := hg2.size; omega) _).grown hg3 (by have := hnx.size; have := hg2.size; simp; omega) (fun j hj => (hrow2.lt j hj).1)
      case measure => rw [hrg3.left_eq, hrg.left_eq]; exact hlt
end Go.Proofs.YtdfmdgbolmbffaaGreat
namespace Go.Proofs.YtdfmdgbolmbffaaGreat
open Go.ChangeShapes Go.WideShapes Go.ChangeAt Go.RowKit
set_option linter.unusedVariables false
theorem sorted_ext : ∀ (a b : List Int), a.Pairwise (· < ·) → b.Pairwise (· < ·) → (∀ z, z ∈ a ↔ z ∈ b) → a = b
  | [], [], _, _, _ => rfl
  | [], y :: b, _, _, h => by have := (h y).2 (by simp); cases this
  | x :: a, [], _, _, h => by have := (h x).1 (by simp); cases this
  | x :: a, y :: b, ha, hb, h => by
    obtain ⟨a1, a2⟩ := List.pairwise_cons.1 ha
    obtain ⟨b1, b2⟩ := List.pairwise_cons.1 hb
    have e : x = y := by
      rcases List.mem_cons.1 ((h x).1 (by simp)) with e | e
      · exact e
      · rcases List.mem_cons.1 ((h y).2 (by simp)) with e' | e'
        · exact e'.symm
        · have := b1 x e
          have := a1 y e'
          omega
    subst e
    congr 1
    refine sorted_ext a b a2 b2 fun z => ⟨fun hz => ?_, fun hz => ?_⟩
    · rcases List.mem_cons.1 ((h z).1 (List.mem_cons_of_mem _ hz)) with e | e
      · have := a1 z hz
        omega
      · exact e
    · rcases List.mem_cons.1 ((h z).2 (List.mem_cons_of_mem _ hz)) with e | e
      · have := b1 z hz
        omega
      · exact e
theorem lead_le (xs : List MI) (j : Nat) (hg : CodeGood xs) (h : leadB xs xs.length j = true) : j ≤ xs.length := by
  simp only [leadB, Bool.or_eq_true, List.any_eq_true, List.mem_range, decide_eq_true_eq] at h
  rcases h with h | ⟨i, hi, h⟩
  · omega
  · cases hx : xs[i]? with
    | none => rw [hx] at h; cases h
    | some x =>
      rw [hx] at h
      simp only [leads, Bool.or_eq_true, Bool.and_eq_true, decide_eq_true_eq] at h
      rcases h with ⟨h1, h2⟩ | ⟨_, h2⟩
      · have := hg.2.2 i x hx h1
        omega
      · omega
/-- The set holds the leaders by the first k instructions. -/
def HasIs (D : DataW Unit) (xs : List MI) (k : Nat) : Prop := ∀ z : Int, Go.Maps.has D (.int .i64 z) = (decide (0 ≤ z) && leadB xs k z.toNat)
theorem has_put (D : DataW Unit) (hD : Go.Maps.IsMap D) (z y : Int) (u : DataW Unit) : Go.Maps.has (D.put (.int .i64 z) u) (.int .i64 y) = (Go.Maps.has D (.int .i64 y) || decide (y = z)) := by
  by_cases h : y = z
  · subst h
    rw [Go.Maps.has_put_same hD (show WideAt.IsKeyLit (Lit.int .i64 y) from trivial)]
    simp
  · rw [Go.Maps.has_put_other (fun e => h (by cases e; rfl))]
    simp [h]
theorem HasIs.start (xs : List MI) (u : DataW Unit) : HasIs ((DataW.map [] : DataW Unit).put (.int .i64 0) u) xs 0 := fun z => by
  rw [has_put _ Go.Maps.isMap_empty, leadB_start]
  have e : Go.Maps.has (DataW.map [] : DataW Unit) (.int .i64 z) = false := rfl
  rw [e]
  by_cases h : z = 0
  · subst h
    rfl
  · by_cases h0 : 0 ≤ z
    · have : ¬ z.toNat = 0 := by omega
      simp [h, this]
    · simp [h, h0]
theorem HasIs.none {D : DataW Unit} {xs : List MI} {k : Nat} {x : MI} (h : HasIs D xs k) (hx : xs[k]? = some x) (hg : goesB x = false) (hr : ¬ x.op = 29) : HasIs D xs (k + 1) := fun z => by
  rw [h z, leadB_succ xs k _ x hx]
  simp [leads, hg, hr]
theorem HasIs.ret {D : DataW Unit} {xs : List MI} {k : Nat} {x : MI} {u : DataW Unit} (h : HasIs D xs k) (hD : Go.Maps.IsMap D) (hx : xs[k]? = some x) (hg : goesB x = false) (hr : x.op = 29) : HasIs (D.put (.int .i64 ((k : Int) + 1)) u) xs (k + 1) := fun z => by
  rw [has_put D hD, h z, leadB_succ xs k _ x hx]
  by_cases h0 : 0 ≤ z
  · have e : decide (z = (k : Int) + 1) = decide (z.toNat = k + 1) := decide_eq_decide.2 ⟨fun _ => by omega, fun _ => by omega⟩
    rw [e]
    simp [leads, hg, hr, h0]
  · have e : decide (z = (k : Int) + 1) = false := by simp; omega
    simp [e, h0]
theorem HasIs.goes {D : DataW Unit} {xs : List MI} {k : Nat} {x : MI} {u u' : DataW Unit} (h : HasIs D xs k) (hD : Go.Maps.IsMap D) (hx : xs[k]? = some x) (hg : goesB x = true) (hc : 0 ≤ x.c) : HasIs ((D.put (.int .i64 x.c) u).put (.int .i64 ((k : Int) + 1)) u') xs (k + 1) := fun z => by
  rw [has_put _ (hD.put _ _), has_put D hD, h z, leadB_succ xs k _ x hx]
  by_cases h0 : 0 ≤ z
  · have e : decide (z = (k : Int) + 1) = decide (z.toNat = k + 1) := decide_eq_decide.2 ⟨fun _ => by omega, fun _ => by omega⟩
    have e2 : decide (z = x.c) = decide (x.c = (z.toNat : Int)) := decide_eq_decide.2 ⟨fun _ => by omega, fun _ => by omega⟩
    rw [e, e2]
    simp [leads, hg, h0, Bool.or_assoc]
  · have e : decide (z = (k : Int) + 1) = false := by simp; omega
    have e2 : decide (z = x.c) = false := by simp; omega
    simp [e, e2, h0]
theorem grown_of_below {w w' : World} (h : Below w.heap.size w w') : w.grownBy w' none := ⟨h.os, h.tape, h.output, h.size, fun k hk _ => h.block k hk⟩
theorem SetAt.keep {w w' : World} {b cnt : Nat} {D : DataW Unit} (h : SetAt w b cnt D) (hb : Below w.heap.size w w') : SetAt w' b cnt D := World.ownsMap.kept h (grown_of_below hb) (by simp)
/-- The set, and the block of an instruction. -/
structure LX (w wr U : World) (x : MI) (cnt : Nat) (D : DataW Unit) : Prop where
  set : SetAt U w.heap.size cnt D
  xb : Blk U wr.heap.size #[.int .i64 x.op, .int .i64 x.a, .int .i64 x.b, .int .i64 x.c] 73
  bel : Below w.heap.size w U
  lt : w.heap.size < wr.heap.size
theorem LX.keep {w wr U U' : World} {x : MI} {cnt : Nat} {D : DataW Unit} (h : LX w wr U x cnt D) (hb : Below U.heap.size U U') : LX w wr U' x cnt D := ⟨h.set.keep hb, h.xb.keep hb, below_on h.bel (Nat.le_refl _) hb, h.lt⟩
theorem LX.grown {w wr U U' : World} {x : MI} {cnt cnt' : Nat} {D D' : DataW Unit} (h : LX w wr U x cnt D) (hs : SetAt U' w.heap.size cnt' D') (hg : U.grownBy U' (some w.heap.size)) : LX w wr U' x cnt' D' := by
  refine ⟨hs, ?_, h.bel.grown hg h.bel.size (fun j hj => by cases hj; exact Nat.le_refl _), h.lt⟩
  have := h.xb
  have hl := h.lt
  unfold Blk at *
  rw [hg.block _ h.xb.lt (fun e => by have := Option.some.inj e; omega)]
  exact this
end Go.Proofs.YtdfmdgbolmbffaaGreat
namespace Go.Proofs.YtdfmdgbolmbffaaGreat
open Go.ChangeShapes Go.WideShapes Go.ChangeAt Go.RowKit
set_option linter.unusedVariables false
theorem zeroU (w : World) : (zeroValue 205).run Tryz.prog w = .ok (.agg #[]) w := by kernel_rfl
set_option maxHeartbeats 1000000 in
theorem has_any (b cnt : Nat) (D : DataW Unit) (z : Int) (w : World) (hz : W64 z) (h : SetAt w b cnt D) :
    Calls Tryz.prog 152 #[.map (some b), .int .i64 z] w fun e w' => e = .returned (.bool (Go.Maps.has D (.int .i64 z))) ∧ Below w.heap.size w w' := by
  have hown : w.ownsMap Tryz.prog 2 (unitElem (H := Unit)) b cnt D := h
  go_enter Tryz.func152, Tryz.ntmps152
  go_wp2_with (at_lookup; refine wpList_lookup_own_unit _ rfl _ _ 142 rfl 2 205 law64 Tryz.underlying142 (zeroU _) b cnt D rfl hown _ _ rfl (Go.Maps.keyOf_int_mk Tryz.underlying2 hz) ?_)
  go_ret
  exact ⟨rfl, below_alloc _ _⟩
set_option maxHeartbeats 1000000 in
theorem add_none (b : Nat) (w : World) :
    Calls Tryz.prog 117 #[.map (some b), .slice none 0 0] w fun e w' => e = .returned (.tuple #[]) ∧ w' = w := by
  go_enter Tryz.func117, Tryz.ntmps117
  go_wp2
  go_loopw [8] (fun i wr => i = .int .i64 0 ∧ wr = w) (fun _ _ => 0)
  case atStart => exact ⟨rfl, rfl⟩
  case round =>
    obtain ⟨rfl, rfl⟩ := hrel
    go_wp2
    go_end0
    exact ⟨rfl, rfl⟩
/-- Lists of numbers in a row. -/
def EdAt (w : World) (g o n : Nat) (E : Nat → List Nat) : Prop := ∀ b, b < n → ∃ a c, w.cell? ⟨g, o + b, none⟩ = some (.slice a (E b).length c) ∧ RdN w (.slice a (E b).length c) (E b)
theorem EdAt.keep {w w' : World} {g o n : Nat} {E : Nat → List Nat} (h : EdAt w g o n E) (hb : Below w.heap.size w w') : EdAt w' g o n E := fun b hb' => by
  obtain ⟨a, c, h1, h2⟩ := h b hb'
  exact ⟨a, c, bcell_keep hb h1, h2.keep hb⟩
def walkV (bs be bw bl : Nat) : Value := .func (.func 164) #[] #[.pointer (some ⟨bs, 0, none⟩), .pointer (some ⟨be, 0, none⟩), .pointer (some ⟨bw, 0, none⟩), .pointer (some ⟨bl, 0, none⟩)]
/-- The state of a walk in depth. -/
structure PO (w u : World) (n bm bs be bw bl : Nat) (EV V : Value) (S O : List Nat) : Prop where
  set : ∃ cnt D, SetAt u bm cnt D ∧ cnt + unseen S n ≤ n + 1 ∧ ∀ x : Nat, Go.Maps.has D (.int .i64 (x : Int)) = S.contains x
  sb : Blk u bs #[.map (some bm)] 142
  eb : Blk u be #[EV] 22
  wb : Blk u bw #[walkV bs be bw bl] 214
  lb : Blk u bl #[V] 48
  list : OwN u w.heap.size V O
  bel : Below w.heap.size w u
  ge : w.heap.size ≤ bm ∧ w.heap.size ≤ bl
  len : O.length + unseen S n ≤ n
theorem PO.keep {w u u' : World} {n bm bs be bw bl : Nat} {EV V : Value} {S O : List Nat} (h : PO w u n bm bs be bw bl EV V S O) (hb : Below u.heap.size u u') : PO w u' n bm bs be bw bl EV V S O := by
  obtain ⟨cnt, D, h1, h2, h3⟩ := h.set
  exact ⟨⟨cnt, D, h1.keep hb, h2, h3⟩, h.sb.keep hb, h.eb.keep hb, h.wb.keep hb, h.lb.keep hb, h.list.keep hb, below_on h.bel (Nat.le_refl _) hb, h.ge, h.len⟩
theorem Blk.gb {w w' : World} {b : Nat} {cur : Array Value} {t : TypeId} {row : Option Nat} (h : Blk w b cur t) (hg : w.grownBy w' row) (hne : some b ≠ row) : Blk w' b cur t := by
  unfold Blk at *
  rw [hg.block b (Array.getElem?_eq_some_iff.1 h).1 hne]
  exact h
theorem set_ne_blk {w : World} {b b' cnt : Nat} {D : DataW Unit} {cur : Array Value} {t : TypeId} (h : SetAt w b cnt D) (hb : Blk w b' cur t) : b' ≠ b := fun e => by
  obtain ⟨es, clock, h1, _⟩ := h
  subst e
  unfold Blk at hb
  rw [hb] at h1
  cases h1
theorem set_ne_row {w : World} {base k n b cnt : Nat} {e : TypeId} {v : Value} {xs : List Value} {D : DataW Unit} (h : w.ownsRow base e k v n xs) (hm : SetAt w b cnt D) : some b ≠ v.ownBlock := by
  obtain ⟨es, clock, hb, _⟩ := hm
  intro e1
  rcases h.2 with ⟨rfl, _⟩ | ⟨g, cap, cur, rfl, _, hc, _⟩
  · cases e1
  · simp only [Value.ownBlock, Option.some.injEq] at e1
    subst e1
    rw [hb] at hc
    cases hc
/-- One more is seen. -/
theorem PO.add {w u u' : World} {n bm bs be bw bl cnt b : Nat} {EV V : Value} {S O : List Nat} {D : DataW Unit} (h : PO w u n bm bs be bw bl EV V S O) (hs : SetAt u bm cnt D) (hc : cnt + unseen S n ≤ n + 1) (hD : ∀ x : Nat, Go.Maps.has D (.int .i64 (x : Int)) = S.contains x) (hb : b < n) (hbS : b ∉ S) (hs' : SetAt u' bm (cnt + 1) (D.put (.int .i64 (b : Int)) (.agg []))) (hg : u.grownBy u' (some bm)) : PO w u' n bm bs be bw bl EV V (b :: S) O := by
  have hu := unseen_cons S n b hb hbS
  have ne : ∀ {b' : Nat} {cur : Array Value} {t : TypeId}, Blk u b' cur t → some b' ≠ some bm := fun k e => set_ne_blk hs k (Option.some.inj e)
  refine ⟨⟨_, _, hs', by omega, fun x => ?_⟩, h.sb.gb hg (ne h.sb), h.eb.gb hg (ne h.eb), h.wb.gb hg (ne h.wb), h.lb.gb hg (ne h.lb), own_apart' h.list hg (fun g hgx e => by rw [e] at hgx; exact set_ne_row h.list hs hgx.symm), h.bel.grown hg h.bel.size (fun j hj => by cases hj; exact h.ge.1), h.ge, by have := h.len; omega⟩
  rw [has_put D (World.ownsMap.isMap hs), hD x]
  by_cases e : x = b
  · subst e; simp
  · have : ¬ (x : Int) = (b : Int) := by omega
    simp [e, this]
theorem PO.al {w u : World} {n bm bs be bw bl : Nat} {EV V : Value} {S O : List Nat} (h : PO w u n bm bs be bw bl EV V S O) (o : Obj) : (u.alloc o).ownsRow w.heap.size 2 1 V O.length (nv O) ∧ w.heap.size ≤ (u.alloc o).heap.size := ⟨h.list.keep (below_alloc _ _), Nat.le_trans h.bel.size (below_alloc _ _).size⟩
/-- One more is told. -/
theorem PO.app {w u u' : World} {n bm bs be bw bl b : Nat} {EV V V' : Value} {S O : List Nat} (h : PO w u n bm bs be bw bl EV V S O) (hown : u'.ownsRow w.heap.size 2 1 V' (O.length + 1) (nv O ++ [.int .i64 (b : Int)])) (hg : (u.alloc (.cells #[.int .i64 (b : Int)] 2)).grownBy u' V.ownBlock) (hl : O.length + 1 + unseen S n ≤ n) : Blk u' bl #[V] 48 ∧ PO w (u'.setCell ⟨bl, 0, none⟩ V') n bm bs be bw bl EV V' S (O ++ [b]) := by
  have bA := below_alloc u (.cells #[.int .i64 (b : Int)] 2)
  have h' := h.keep bA
  obtain ⟨cnt, D, h1, h2, h3⟩ := h'.set
  have s1 : SetAt u' bm cnt D := World.ownsMap.kept h1 hg (set_ne_row h'.list h1)
  have kb : Blk u' bl #[V] 48 := h'.lb.grown hg h'.list (by decide)
  have ks := h'.sb.grown hg h'.list (by decide)
  have ke := h'.eb.grown hg h'.list (by decide)
  have kw := h'.wb.grown hg h'.list (by decide)
  have hbel : Below w.heap.size w u' := h'.bel.grown hg h'.bel.size (fun i hi => (h'.list.lt i hi).1)
  have neb : ∀ {b' : Nat} {cur : Array Value} {t : TypeId}, Blk u' b' cur t → t ≠ 48 → b' ≠ (⟨bl, 0, none⟩ : Addr).block := fun k q e => by
    simp only [] at e
    subst e
    unfold Blk at k kb
    rw [kb] at k
    simp only [Option.some.injEq, Obj.cells.injEq] at k
    exact q k.2.1.symm
  refine ⟨kb, ⟨cnt, D, ?_, h2, h3⟩, ks.other (neb ks (by decide)) _, ke.other (neb ke (by decide)) _, kw.other (neb kw (by decide)) _, ?_, ?_, hbel.setCell h.ge.2 _, h.ge, by rw [List.length_append, List.length_singleton]; exact hl⟩
  · refine World.ownsMap.kept s1 (row := some bl) ⟨rfl, rfl, rfl, by rw [World.size_setCell]; exact Nat.le_refl _, fun k hk hne => heap_setCell_other u' _ k _ (fun e => hne (by rw [e]))⟩ (fun e => set_ne_blk s1 kb (Option.some.inj e).symm)
  · have := kb.set 0 V'
    simpa using this
  · unfold OwN
    rw [List.length_append, List.length_singleton, nv_app]
    exact ownsRow_setCell_other hown (a := ⟨bl, 0, none⟩) (fun q => type_apart hown kb (by decide) bl q rfl) _
end Go.Proofs.YtdfmdgbolmbffaaGreat
namespace Go.Proofs.YtdfmdgbolmbffaaGreat
open Go.ChangeShapes Go.WideShapes Go.ChangeAt Go.RowKit
set_option linter.unusedVariables false
theorem w64_nat {x : Nat} (h : x ≤ 1048576) : W64 (x : Int) := by
  simp [W64, Lit.wf, IntKind.min, IntKind.max, IntKind.signed, IntKind.bits]
  omega
set_option maxHeartbeats 8000000 in
set_option maxRecDepth 100000 in
theorem walk_any (w : World) (g o c n bm bs be bw bl : Nat) (E : Nat → List Nat) (hn : n ≤ 1024) (hE : ∀ b, b < n → ∀ x ∈ E b, x < n) (hsz : ∀ b, (E b).length ≤ 2048) (h : EdAt w g o n E) :
    ∀ (m : Nat) (S O : List Nat) (b : Nat) (V : Value) (u : World), unseen S n = m → b < n → PO w u n bm bs be bw bl (.slice (some ⟨g, o, none⟩) n c) V S O → (b ∉ S → O.length + unseen S n ≤ n) →
    Calls Tryz.prog 164 #[.int .i64 (b : Int), .pointer (some ⟨bs, 0, none⟩), .pointer (some ⟨be, 0, none⟩), .pointer (some ⟨bw, 0, none⟩), .pointer (some ⟨bl, 0, none⟩)] u fun e u' => e = .returned (.tuple #[]) ∧ ∃ V' S' O', Vs E S O [b] S' O' ∧ PO w u' n bm bs be bw bl (.slice (some ⟨g, o, none⟩) n c) V' S' O' ∧ O'.length + unseen S' n ≤ O.length + unseen S n := by
  obtain ⟨k0, hk, hx0, hx1, hx2⟩ := info_parts info64
  have H : Hid (EdAt w g o n E ∧ (∀ b, b < n → ∀ x ∈ E b, x < n) ∧ (∀ b, (E b).length ≤ 2048)) := ⟨h, hE, hsz⟩
  clear h hE hsz
  intro m
  induction m using Nat.strongRecOn with
  | ind m ih =>
    intro S O b V u hm hb hpo hlen
    have IH : Hid (∀ m', m' < m → ∀ (S O : List Nat) (b : Nat) (V : Value) (u : World), unseen S n = m' → b < n → PO w u n bm bs be bw bl (.slice (some ⟨g, o, none⟩) n c) V S O → (b ∉ S → O.length + unseen S n ≤ n) →
      Calls Tryz.prog 164 #[.int .i64 (b : Int), .pointer (some ⟨bs, 0, none⟩), .pointer (some ⟨be, 0, none⟩), .pointer (some ⟨bw, 0, none⟩), .pointer (some ⟨bl, 0, none⟩)] u fun e u' => e = .returned (.tuple #[]) ∧ ∃ V' S' O', Vs E S O [b] S' O' ∧ PO w u' n bm bs be bw bl (.slice (some ⟨g, o, none⟩) n c) V' S' O' ∧ O'.length + unseen S' n ≤ O.length + unseen S n) := ih
    have HP : Hid (PO w u n bm bs be bw bl (.slice (some ⟨g, o, none⟩) n c) V S O) := hpo
    obtain ⟨cnt, D, hs, hcn, hD⟩ := hpo.set
    have HS : Hid (SetAt u bm cnt D ∧ cnt + unseen S n ≤ n + 1 ∧ ∀ x : Nat, Go.Maps.has D (.int .i64 (x : Int)) = S.contains x) := ⟨hs, hcn, hD⟩
    have hDb := hD b
    have s0 : u.cell? ⟨bs, 0, none⟩ = some (.map (some bm)) := hpo.sb.cell 0
    have hbI : (b : Int) < (n : Int) := by omega
    clear ih hpo hs hD
    go_enter Tryz.func164, Tryz.ntmps164
    go_wp2_with fail
    refine (has_any bm cnt D (b : Int) u (w64_nat (by omega)) HS.out.1).mono ?_
    rintro e u1 ⟨rfl, b1⟩
    rw [hDb]
    have HP1 : Hid (PO w u1 n bm bs be bw bl (.slice (some ⟨g, o, none⟩) n c) V S O ∧ SetAt u1 bm cnt D) := ⟨HP.out.keep b1, HS.out.1.keep b1⟩
    clear b1 s0 hDb
    cases hc : S.contains b
    · have hbS : b ∉ S := by simpa using hc
      have hu1 := unseen_cons S n b hb hbS
      have HU1 : Hid (unseen (b :: S) n + 1 = unseen S n ∧ unseen S n = m ∧ O.length + unseen S n ≤ n) := ⟨hu1, hm, hlen hbS⟩
      clear hu1 hm hlen
      have s0 : u1.cell? ⟨bs, 0, none⟩ = some (.map (some bm)) := HP1.out.1.sb.cell 0
      have HA : Hid ((u1.alloc (.cells #[.int .i64 (b : Int)] 2)).cell? ⟨u1.heap.size, 0, none⟩ = some (.int .i64 (b : Int)) ∧ SetAt (u1.alloc (.cells #[.int .i64 (b : Int)] 2)) bm cnt D ∧ PO w (u1.alloc (.cells #[.int .i64 (b : Int)] 2)) n bm bs be bw bl (.slice (some ⟨g, o, none⟩) n c) V S O ∧ ¬ u1.heap.size = bm) := ⟨(Blk.new u1 #[.int .i64 (b : Int)] 2).cell 0, HP1.out.2.keep (below_alloc _ _), HP1.out.1.keep (below_alloc _ _), by have := World.ownsMap.lt HP1.out.2; omega⟩
      go_wp2_with fail
      refine (add_one bm cnt u1.heap.size 1 D (b : Int) _ (w64_nat (by omega)) (by have := HS.out.2.1; omega) HA.out.1 HA.out.2.2.2 HA.out.2.1).mono ?_
      rintro e u2 ⟨rfl, s2, g2⟩
      have HP2 : Hid (PO w u2 n bm bs be bw bl (.slice (some ⟨g, o, none⟩) n c) V (b :: S) O) := HA.out.2.2.1.add HA.out.2.1 HS.out.2.1 HS.out.2.2 hb hbS s2 g2
      clear s2 g2 s0 HA HP1 HS HP hcn
      obtain ⟨a, ca, g0, g1⟩ := H.out.1 b hb
      have HG : Hid (w.cell? ⟨g, o + b, none⟩ = some (.slice a (E b).length ca) ∧ RdN w (.slice a (E b).length ca) (E b)) := ⟨g0, g1⟩
      replace g0 := bcell_keep HP2.out.bel g0
      have e0 : u2.cell? ⟨be, 0, none⟩ = some (.slice (some ⟨g, o, none⟩) n c) := HP2.out.eb.cell 0
      have hE2 := H.out.2.2 b
      clear g1
      go_wp2
      go_loopw [20] (fun i wr => ∃ (S' O' : List Nat) (V' : Value) (k : Nat), i = .int .i64 k ∧ k ≤ (E b).length ∧ Hid (Vs E (b :: S) O ((E b).take k) S' O' ∧ PO w wr n bm bs be bw bl (.slice (some ⟨g, o, none⟩) n c) V' S' O' ∧ O'.length + unseen S' n + 1 ≤ O.length + unseen S n)) (fun i _ => (E b).length - (intOf i).toNat)
      case atStart => exact ⟨b :: S, O, V, 0, rfl, by omega, by simpa using Vs.nil (b :: S) O, HP2.out, by have := HU1.out; omega⟩
      case round =>
        clear HP2 g0 e0
        obtain ⟨S', O', V', k, rfl, hkE, HL⟩ := hrel
        by_cases hlt : k < (E b).length
        · have hltI : (k : Int) < ((E b).length : Int) := by omega
          obtain ⟨y, hy⟩ : ∃ y, (E b)[k]? = some y := ⟨_, List.getElem?_eq_getElem hlt⟩
          have hyn : y < n := H.out.2.1 b hb y (List.mem_of_getElem? hy)
          obtain ⟨ga, oa, rfl, _, y0⟩ := HG.out.2.at_ hy
          replace y0 := bcell_keep HL.out.2.1.bel y0
          have f0 : wr.cell? ⟨bw, 0, none⟩ = some (.func (.func 164) #[] #[.pointer (some ⟨bs, 0, none⟩), .pointer (some ⟨be, 0, none⟩), .pointer (some ⟨bw, 0, none⟩), .pointer (some ⟨bl, 0, none⟩)]) := HL.out.2.1.wb.cell 0
          have HT : Hid ((E b).take (k + 1) = (E b).take k ++ [y]) := by
            obtain ⟨hl, rfl⟩ := List.getElem?_eq_some_iff.1 hy
            exact List.take_succ_eq_append_getElem hl
          have hmo := HL.out.1.more
          have hun := unseen_mono n hmo
          have HC : Hid (Calls Tryz.prog 164 #[.int .i64 (y : Int), .pointer (some ⟨bs, 0, none⟩), .pointer (some ⟨be, 0, none⟩), .pointer (some ⟨bw, 0, none⟩), .pointer (some ⟨bl, 0, none⟩)] wr fun e u' => e = .returned (.tuple #[]) ∧ ∃ V'' S'' O'', Vs E S' O' [y] S'' O'' ∧ PO w u' n bm bs be bw bl (.slice (some ⟨g, o, none⟩) n c) V'' S'' O'' ∧ O''.length + unseen S'' n ≤ O'.length + unseen S' n) := IH.out (unseen S' n) (by have := HU1.out; omega) S' O' y V' wr rfl hyn HL.out.2.1 (fun _ => by have := HL.out.2.2; have := HU1.out; omega)
          clear hy hmo hun
          go_wp2_with fail
          refine HC.out.mono ?_
          rintro e u3 ⟨rfl, V3, S3, O3, hv3, hp3, hl3⟩
          have HN : Hid (Vs E (b :: S) O ((E b).take (k + 1)) S3 O3 ∧ PO w u3 n bm bs be bw bl (.slice (some ⟨g, o, none⟩) n c) V3 S3 O3 ∧ O3.length + unseen S3 n + 1 ≤ O.length + unseen S n) := by
            refine ⟨?_, hp3, by have := HL.out.2.2; omega⟩
            rw [HT.out]
            exact HL.out.1.app hv3
          clear hv3 hp3 hl3 y0 f0 HC
          go_wp2
          go_roundw
          case rel => exact ⟨S3, O3, V3, k + 1, by go_num, by omega, HN⟩
          case measure => simp [intOf]; omega
        · obtain rfl : k = (E b).length := by omega
          obtain ⟨aV, cV, rfl⟩ := own_slice HL.out.2.1.list
          have hO3 := HU1.out
          have hO4 := HL.out.2.2
          go_upto_region 7 with fail
          refine wp_world (fun u => Hid (PO w u n bm bs be bw bl (.slice (some ⟨g, o, none⟩) n c) (.slice aV O'.length cV) S' O')) HL.out.2.1 ?_
          intro U HU
          have l0 : U.cell? ⟨bl, 0, none⟩ = some (.slice aV O'.length cV) := HU.out.lb.cell 0
          go_wp2_with (at_builtin; refine wpList_append_lies _ rfl _ _ 48 rfl w.heap.size 2 k0 (.int .i64 0) 1 8 Tryz.underlying48 hk hx0 hx1 hx2 rfl (by decide) _ O'.length (nv O') rfl (HU.out.al (.cells #[.int .i64 (b : Int)] 2)).1 ⟨U.heap.size, 0, none⟩ 1 1 [.int .i64 (b : Int)] rfl rfl (one_cell U (b : Int)) (fun u hu => by simp at hu; subst hu; rfl) (by omega) (by simp [maxLen]; omega) (by omega) (HU.out.al (.cells #[.int .i64 (b : Int)] 2)).2 _ rfl ?_; intro g5 cap5 w5 hown hgrow hat hlt9; obtain ⟨kb5, l5⟩ := HU.out.app hown hgrow (by omega); have HU5 : Hid (PO w (w5.setCell ⟨bl, 0, none⟩ (.slice (some ⟨g5, 0, none⟩) (O'.length + 1) cap5)) n bm bs be bw bl (.slice (some ⟨g, o, none⟩) n c) (.slice (some ⟨g5, 0, none⟩) (O'.length + 1) cap5) S' (O' ++ [b])) := l5; have t5 : w5.cell? ⟨bl, 0, none⟩ = some (.slice aV O'.length cV) := kb5.cell 0; have z5 := kb5.frozen 0; clear hown hgrow hat hlt9 kb5 l5)
          go_end0
          refine ⟨rfl, _, S', O' ++ [b], ?_, HU5.out, by rw [List.length_append, List.length_singleton]; omega⟩
          have := HL.out.1
          rw [List.take_of_length_le (Nat.le_refl _)] at this
          exact .new hbS this (.nil _ _)
    · go_wp2_with fail
      exact bodyPost_ret (v := .tuple #[]) (by simp [results, Tryz.results164, go_sem]) rfl ⟨rfl, V, S, O, .old (by simpa using hc) (.nil _ _), HP1.out.1, Nat.le_refl _⟩
end Go.Proofs.YtdfmdgbolmbffaaGreat
