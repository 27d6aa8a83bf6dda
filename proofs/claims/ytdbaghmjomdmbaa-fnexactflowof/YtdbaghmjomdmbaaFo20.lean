import Derived.Test.YtdbaghmjomdmbaaFo19
import Derived.Test.YtdbaghmjomdmbaaFo12
import Derived.Test.YtdbaghmjomdmbaaFo17
namespace Go.Proofs.Ytdbaghmjomdmbaa
open Go.ChangeShapes Go.WideShapes Go.ChangeAt Go.RowKit
set_option linter.unusedVariables false
theorem sorted_ext : ∀ (a b : List Int), a.Pairwise (· < ·) → b.Pairwise (· < ·) → (∀ z, z ∈ a ↔ z ∈ b) → a = b
  | [], [], _, _, _ => rfl
  | [], y :: b, _, _, h => by have := (h y).2 (by simp); cases this
  | x :: a, [], _, _, h => by have := (h x).1 (by simp); cases this
  | x :: a, y :: b, ha, hb, h => by
    obtain ⟨a1, a2⟩ := List.pairwise_cons.1 ha
    obtain ⟨b1, b2⟩ := List.pairwise_cons.1 hb
    have e : x = y := by
      rcases List.mem_cons.1 ((h x).1 (by simp)) with e | e
      · exact e
      · rcases List.mem_cons.1 ((h y).2 (by simp)) with e' | e'
        · exact e'.symm
        · have := b1 x e
          have := a1 y e'
          omega
    subst e
    congr 1
    refine sorted_ext a b a2 b2 fun z => ⟨fun hz => ?_, fun hz => ?_⟩
    · rcases List.mem_cons.1 ((h z).1 (List.mem_cons_of_mem _ hz)) with e | e
      · have := a1 z hz
        omega
      · exact e
    · rcases List.mem_cons.1 ((h z).2 (List.mem_cons_of_mem _ hz)) with e | e
      · have := b1 z hz
        omega
      · exact e
theorem lead_le (xs : List MI) (j : Nat) (hg : CodeGood xs) (h : leadB xs xs.length j = true) : j ≤ xs.length := by
  simp only [leadB, Bool.or_eq_true, List.any_eq_true, List.mem_range, decide_eq_true_eq] at h
  rcases h with h | ⟨i, hi, h⟩
  · omega
  · cases hx : xs[i]? with
    | none => rw [hx] at h; cases h
    | some x =>
      rw [hx] at h
      simp only [leads, Bool.or_eq_true, Bool.and_eq_true, decide_eq_true_eq] at h
      rcases h with ⟨h1, h2⟩ | ⟨_, h2⟩
      · have := hg.2.2 i x hx h1
        omega
      · omega
/-- The set holds the leaders by the first k instructions. -/
def HasIs (D : DataW Unit) (xs : List MI) (k : Nat) : Prop := ∀ z : Int, Go.Maps.has D (.int .i64 z) = (decide (0 ≤ z) && leadB xs k z.toNat)
theorem has_put (D : DataW Unit) (hD : Go.Maps.IsMap D) (z y : Int) (u : DataW Unit) : Go.Maps.has (D.put (.int .i64 z) u) (.int .i64 y) = (Go.Maps.has D (.int .i64 y) || decide (y = z)) := by
  by_cases h : y = z
  · subst h
    rw [Go.Maps.has_put_same hD (show WideAt.IsKeyLit (Lit.int .i64 y) from trivial)]
    simp
  · rw [Go.Maps.has_put_other (fun e => h (by cases e; rfl))]
    simp [h]
theorem HasIs.start (xs : List MI) (u : DataW Unit) : HasIs ((DataW.map [] : DataW Unit).put (.int .i64 0) u) xs 0 := fun z => by
  rw [has_put _ Go.Maps.isMap_empty, leadB_start]
  have e : Go.Maps.has (DataW.map [] : DataW Unit) (.int .i64 z) = false := rfl
  rw [e]
  by_cases h : z = 0
  · subst h
    rfl
  · by_cases h0 : 0 ≤ z
    · have : ¬ z.toNat = 0 := by omega
      simp [h, this]
    · simp [h, h0]
theorem HasIs.none {D : DataW Unit} {xs : List MI} {k : Nat} {x : MI} (h : HasIs D xs k) (hx : xs[k]? = some x) (hg : goesB x = false) (hr : ¬ x.op = 29) : HasIs D xs (k + 1) := fun z => by
  rw [h z, leadB_succ xs k _ x hx]
  simp [leads, hg, hr]
theorem HasIs.ret {D : DataW Unit} {xs : List MI} {k : Nat} {x : MI} {u : DataW Unit} (h : HasIs D xs k) (hD : Go.Maps.IsMap D) (hx : xs[k]? = some x) (hg : goesB x = false) (hr : x.op = 29) : HasIs (D.put (.int .i64 ((k : Int) + 1)) u) xs (k + 1) := fun z => by
  rw [has_put D hD, h z, leadB_succ xs k _ x hx]
  by_cases h0 : 0 ≤ z
  · have e : decide (z = (k : Int) + 1) = decide (z.toNat = k + 1) := decide_eq_decide.2 ⟨fun _ => by omega, fun _ => by omega⟩
    rw [e]
    simp [leads, hg, hr, h0]
  · have e : decide (z = (k : Int) + 1) = false := by simp; omega
    simp [e, h0]
theorem HasIs.goes {D : DataW Unit} {xs : List MI} {k : Nat} {x : MI} {u u' : DataW Unit} (h : HasIs D xs k) (hD : Go.Maps.IsMap D) (hx : xs[k]? = some x) (hg : goesB x = true) (hc : 0 ≤ x.c) : HasIs ((D.put (.int .i64 x.c) u).put (.int .i64 ((k : Int) + 1)) u') xs (k + 1) := fun z => by
  rw [has_put _ (hD.put _ _), has_put D hD, h z, leadB_succ xs k _ x hx]
  by_cases h0 : 0 ≤ z
  · have e : decide (z = (k : Int) + 1) = decide (z.toNat = k + 1) := decide_eq_decide.2 ⟨fun _ => by omega, fun _ => by omega⟩
    have e2 : decide (z = x.c) = decide (x.c = (z.toNat : Int)) := decide_eq_decide.2 ⟨fun _ => by omega, fun _ => by omega⟩
    rw [e, e2]
    simp [leads, hg, h0, Bool.or_assoc]
  · have e : decide (z = (k : Int) + 1) = false := by simp; omega
    have e2 : decide (z = x.c) = false := by simp; omega
    simp [e, e2, h0]
theorem grown_of_below {w w' : World} (h : Below w.heap.size w w') : w.grownBy w' none := ⟨h.os, h.tape, h.output, h.size, fun k hk _ => h.block k hk⟩
theorem SetAt.keep {w w' : World} {b cnt : Nat} {D : DataW Unit} (h : SetAt w b cnt D) (hb : Below w.heap.size w w') : SetAt w' b cnt D := World.ownsMap.kept h (grown_of_below hb) (by simp)
/-- The set, and the block of an instruction. -/
structure LX (w wr U : World) (x : MI) (cnt : Nat) (D : DataW Unit) : Prop where
  set : SetAt U w.heap.size cnt D
  xb : Blk U wr.heap.size #[.int .i64 x.op, .int .i64 x.a, .int .i64 x.b, .int .i64 x.c] 44
  bel : Below w.heap.size w U
  lt : w.heap.size < wr.heap.size
theorem LX.keep {w wr U U' : World} {x : MI} {cnt : Nat} {D : DataW Unit} (h : LX w wr U x cnt D) (hb : Below U.heap.size U U') : LX w wr U' x cnt D := ⟨h.set.keep hb, h.xb.keep hb, below_on h.bel (Nat.le_refl _) hb, h.lt⟩
theorem LX.grown {w wr U U' : World} {x : MI} {cnt cnt' : Nat} {D D' : DataW Unit} (h : LX w wr U x cnt D) (hs : SetAt U' w.heap.size cnt' D') (hg : U.grownBy U' (some w.heap.size)) : LX w wr U' x cnt' D' := by
  refine ⟨hs, ?_, h.bel.grown hg h.bel.size (fun j hj => by cases hj; exact Nat.le_refl _), h.lt⟩
  have := h.xb
  have hl := h.lt
  unfold Blk at *
  rw [hg.block _ h.xb.lt (fun e => by have := Option.some.inj e; omega)]
  exact this
end Go.Proofs.Ytdbaghmjomdmbaa
namespace Go.Proofs.Ytdbaghmjomdmbaa
open Go.ChangeShapes Go.WideShapes Go.ChangeAt Go.RowKit
set_option linter.unusedVariables false
theorem zeroU (w : World) : (zeroValue 91).run Try.prog w = .ok (.agg #[]) w := by kernel_rfl
set_option maxHeartbeats 1000000 in
theorem has_any (b cnt : Nat) (D : DataW Unit) (z : Int) (w : World) (hz : W64 z) (h : SetAt w b cnt D) :
    Calls Try.prog 62 #[.map (some b), .int .i64 z] w fun e w' => e = .returned (.bool (Go.Maps.has D (.int .i64 z))) ∧ Below w.heap.size w w' := by
  have hown : w.ownsMap Try.prog 2 (unitElem (H := Unit)) b cnt D := h
  go_enter Try.func62, Try.ntmps62
  go_wp2_with (at_lookup; refine wpList_lookup_own_unit _ rfl _ _ 79 rfl 2 91 law64 Try.underlying79 (zeroU _) b cnt D rfl hown _ _ rfl (Go.Maps.keyOf_int_mk Try.underlying2 hz) ?_)
  go_ret
  exact ⟨rfl, below_alloc _ _⟩
set_option maxHeartbeats 1000000 in
theorem add_none (b : Nat) (w : World) :
    Calls Try.prog 46 #[.map (some b), .slice none 0 0] w fun e w' => e = .returned (.tuple #[]) ∧ w' = w := by
  go_enter Try.func46, Try.ntmps46
  go_wp2
  go_loopw [8] (fun i wr => i = .int .i64 0 ∧ wr = w) (fun _ _ => 0)
  case atStart => exact ⟨rfl, rfl⟩
  case round =>
    obtain ⟨rfl, rfl⟩ := hrel
    go_wp2
    go_end0
    exact ⟨rfl, rfl⟩
/-- Lists of numbers in a row. -/
def EdAt (w : World) (g o n : Nat) (E : Nat → List Nat) : Prop := ∀ b, b < n → ∃ a c, w.cell? ⟨g, o + b, none⟩ = some (.slice a (E b).length c) ∧ RdN w (.slice a (E b).length c) (E b)
theorem EdAt.keep {w w' : World} {g o n : Nat} {E : Nat → List Nat} (h : EdAt w g o n E) (hb : Below w.heap.size w w') : EdAt w' g o n E := fun b hb' => by
  obtain ⟨a, c, h1, h2⟩ := h b hb'
  exact ⟨a, c, bcell_keep hb h1, h2.keep hb⟩
def walkV (bs be bw bl : Nat) : Value := .func (.func 61) #[] #[.pointer (some ⟨bs, 0, none⟩), .pointer (some ⟨be, 0, none⟩), .pointer (some ⟨bw, 0, none⟩), .pointer (some ⟨bl, 0, none⟩)]
/-- The state of a walk in depth. -/
structure PO (w u : World) (n bm bs be bw bl : Nat) (EV V : Value) (S O : List Nat) : Prop where
  set : ∃ cnt D, SetAt u bm cnt D ∧ cnt + unseen S n ≤ n + 1 ∧ ∀ x : Nat, Go.Maps.has D (.int .i64 (x : Int)) = S.contains x
  sb : Blk u bs #[.map (some bm)] 79
  eb : Blk u be #[EV] 68
  wb : Blk u bw #[walkV bs be bw bl] 93
  lb : Blk u bl #[V] 33
  list : OwN u w.heap.size V O
  bel : Below w.heap.size w u
  ge : w.heap.size ≤ bm ∧ w.heap.size ≤ bl
  len : O.length + unseen S n ≤ n
theorem PO.keep {w u u' : World} {n bm bs be bw bl : Nat} {EV V : Value} {S O : List Nat} (h : PO w u n bm bs be bw bl EV V S O) (hb : Below u.heap.size u u') : PO w u' n bm bs be bw bl EV V S O := by
  obtain ⟨cnt, D, h1, h2, h3⟩ := h.set
  exact ⟨⟨cnt, D, h1.keep hb, h2, h3⟩, h.sb.keep hb, h.eb.keep hb, h.wb.keep hb, h.lb.keep hb, h.list.keep hb, below_on h.bel (Nat.le_refl _) hb, h.ge, h.len⟩
theorem Blk.gb {w w' : World} {b : Nat} {cur : Array Value} {t : TypeId} {row : Option Nat} (h : Blk w b cur t) (hg : w.grownBy w' row) (hne : some b ≠ row) : Blk w' b cur t := by
  unfold Blk at *
  rw [hg.block b (Array.getElem?_eq_some_iff.1 h).1 hne]
  exact h
theorem set_ne_blk {w : World} {b b' cnt : Nat} {D : DataW Unit} {cur : Array Value} {t : TypeId} (h : SetAt w b cnt D) (hb : Blk w b' cur t) : b' ≠ b := fun e => by
  obtain ⟨es, clock, h1, _⟩ := h
  subst e
  unfold Blk at hb
  rw [hb] at h1
  cases h1
theorem set_ne_row {w : World} {base k n b cnt : Nat} {e : TypeId} {v : Value} {xs : List Value} {D : DataW Unit} (h : w.ownsRow base e k v n xs) (hm : SetAt w b cnt D) : some b ≠ v.ownBlock := by
  obtain ⟨es, clock, hb, _⟩ := hm
  intro e1
  rcases h.2 with ⟨rfl, _⟩ | ⟨g, cap, cur, rfl, _, hc, _⟩
  · cases e1
  · simp only [Value.ownBlock, Option.some.injEq] at e1
    subst e1
    rw [hb] at hc
    cases hc
/-- One more is seen. -/
theorem PO.add {w u u' : World} {n bm bs be bw bl cnt b : Nat} {EV V : Value} {S O : List Nat} {D : DataW Unit} (h : PO w u n bm bs be bw bl EV V S O) (hs : SetAt u bm cnt D) (hc : cnt + unseen S n ≤ n + 1) (hD : ∀ x : Nat, Go.Maps.has D (.int .i64 (x : Int)) = S.contains x) (hb : b < n) (hbS : b ∉ S) (hs' : SetAt u' bm (cnt + 1) (D.put (.int .i64 (b : Int)) (.agg []))) (hg : u.grownBy u' (some bm)) : PO w u' n bm bs be bw bl EV V (b :: S) O := by
  have hu := unseen_cons S n b hb hbS
  have ne : ∀ {b' : Nat} {cur : Array Value} {t : TypeId}, Blk u b' cur t → some b' ≠ some bm := fun k e => set_ne_blk hs k (Option.some.inj e)
  refine ⟨⟨_, _, hs', by omega, fun x => ?_⟩, h.sb.gb hg (ne h.sb), h.eb.gb hg (ne h.eb), h.wb.gb hg (ne h.wb), h.lb.gb hg (ne h.lb), own_apart' h.list hg (fun g hgx e => by rw [e] at hgx; exact set_ne_row h.list hs hgx.symm), h.bel.grown hg h.bel.size (fun j hj => by cases hj; exact h.ge.1), h.ge, by have := h.len; omega⟩
  rw [has_put D (World.ownsMap.isMap hs), hD x]
  by_cases e : x = b
  · subst e; simp
  · have : ¬ (x : Int) = (b : Int) := by omega
    simp [e, this]
theorem PO.al {w u : World} {n bm bs be bw bl : Nat} {EV V : Value} {S O : List Nat} (h : PO w u n bm bs be bw bl EV V S O) (o : Obj) : (u.alloc o).ownsRow w.heap.size 2 1 V O.length (nv O) ∧ w.heap.size ≤ (u.alloc o).heap.size := ⟨h.list.keep (below_alloc _ _), Nat.le_trans h.bel.size (below_alloc _ _).size⟩
/-- One more is told. -/
theorem PO.app {w u u' : World} {n bm bs be bw bl b : Nat} {EV V V' : Value} {S O : List Nat} (h : PO w u n bm bs be bw bl EV V S O) (hown : u'.ownsRow w.heap.size 2 1 V' (O.length + 1) (nv O ++ [.int .i64 (b : Int)])) (hg : (u.alloc (.cells #[.int .i64 (b : Int)] 2)).grownBy u' V.ownBlock) (hl : O.length + 1 + unseen S n ≤ n) : Blk u' bl #[V] 33 ∧ PO w (u'.setCell ⟨bl, 0, none⟩ V') n bm bs be bw bl EV V' S (O ++ [b]) := by
  have bA := below_alloc u (.cells #[.int .i64 (b : Int)] 2)
  have h' := h.keep bA
  obtain ⟨cnt, D, h1, h2, h3⟩ := h'.set
  have s1 : SetAt u' bm cnt D := World.ownsMap.kept h1 hg (set_ne_row h'.list h1)
  have kb : Blk u' bl #[V] 33 := h'.lb.grown hg h'.list (by decide)
  have ks := h'.sb.grown hg h'.list (by decide)
  have ke := h'.eb.grown hg h'.list (by decide)
  have kw := h'.wb.grown hg h'.list (by decide)
  have hbel : Below w.heap.size w u' := h'.bel.grown hg h'.bel.size (fun i hi => (h'.list.lt i hi).1)
  have neb : ∀ {b' : Nat} {cur : Array Value} {t : TypeId}, Blk u' b' cur t → t ≠ 33 → b' ≠ (⟨bl, 0, none⟩ : Addr).block := fun k q e => by
    simp only [] at e
    subst e
    unfold Blk at k kb
    rw [kb] at k
    simp only [Option.some.injEq, Obj.cells.injEq] at k
    exact q k.2.1.symm
  refine ⟨kb, ⟨cnt, D, ?_, h2, h3⟩, ks.other (neb ks (by decide)) _, ke.other (neb ke (by decide)) _, kw.other (neb kw (by decide)) _, ?_, ?_, hbel.setCell h.ge.2 _, h.ge, by rw [List.length_append, List.length_singleton]; exact hl⟩
  · refine World.ownsMap.kept s1 (row := some bl) ⟨rfl, rfl, rfl, by rw [World.size_setCell]; exact Nat.le_refl _, fun k hk hne => heap_setCell_other u' _ k _ (fun e => hne (by rw [e]))⟩ (fun e => set_ne_blk s1 kb (Option.some.inj e).symm)
  · have := kb.set 0 V'
    simpa using this
  · unfold OwN
    rw [List.length_append, List.length_singleton, nv_app]
    exact ownsRow_setCell_other hown (a := ⟨bl, 0, none⟩) (fun q => type_apart hown kb (by decide) bl q rfl) _
end Go.Proofs.Ytdbaghmjomdmbaa
