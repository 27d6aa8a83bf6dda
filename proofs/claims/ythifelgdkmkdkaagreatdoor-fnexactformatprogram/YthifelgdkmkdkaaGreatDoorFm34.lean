import Derived.Test.YthifelgdkmkdkaaGreatDoorFm25
import Derived.StillTail
import Derived.Deep.Quiet
import Derived.Test.YthifelgdkmkdkaaGreatDoorFm9
import Derived.Test.YthifelgdkmkdkaaGreatDoorFm10
import Derived.Test.YthifelgdkmkdkaaGreatDoorFm20
namespace Go.Proofs.YthifelgdkmkdkaaGreatDoor
open Go.ChangeShapes Go.WideShapes Go.ChangeAt Go.RowKit
set_option linter.unusedVariables false
section
variable {P : Program} {ops : Array Oper} {md : Region.Mode} {C : World → Prop}
/-- f operations of the first n come up, in whatever order, each quiet; then L. -/
def QHead (P : Program) (md : Region.Mode) (ops : Array Oper) (C : World → Prop) (n : Nat) (L : Array Bool → Act → Prop) : Nat → Array Bool → Act → Prop
  | 0, d, a => L d a
  | f + 1, d, a => Region.ready md ops d ≠ [] ∧ ∀ i ∈ Region.ready md ops d, i < n ∧ qOp P ops C i (QHead P md ops C n L f (d.setIfInBounds i true)) a
theorem QHead.any {n g : Nat} {L : Array Bool → Act → Prop} {Q : Exit → Act → World → Prop} (hL : ∀ d a, L d a → ∀ w, C w → wpAny P md ops Q g d a w) (f : Nat) :
    ∀ (d : Array Bool) (a : Act), QHead P md ops C n L f d a → ∀ w, C w → wpAny P md ops Q (f + g) d a w := by
  induction f with
  | zero => intro d a h w hw; rw [Nat.zero_add]; exact hL d a h w hw
  | succ f ih =>
    intro d a h w hw
    rw [Nat.succ_add]
    exact ⟨fun h0 => absurd h0 h.1, fun i hi => wpOp_of_qOp hw (fun a' w' hw' hk => ih _ a' hk w' hw') (h.2 i hi).2⟩
theorem QHead.first {n i : Nat} {oi : Oper} {v : Value} {L : Array Bool → Act → Prop} (hi : ops[i]? = some oi) (hsel : ∀ (j : Nat) (o : Oper) cs b, ops[j]? = some o → o.op ≠ .select cs b)
    (hs : Region.sinkB md ops n = true) (hc : Region.chainB md ops n = true) (hn : n < ops.size) (hin : i < n) (hdone : ∀ d a, L d a → ∀ j ∈ Region.ready md ops d, n ≤ j) (f : Nat) :
    ∀ (d : Array Bool) (a : Act), HeadInv md ops n d →
      (∀ j oj, ops[j]? = some oj → j ≠ i → d.getD j true = false → (∀ e ∈ oj.after, Region.binds md e = true → e.on ≠ i) → oi.apart ops oj = true) →
      i ∈ Region.ready md ops d → YieldsIn P ops C oi v a →
      QHead P md ops C n L f (d.setIfInBounds i true) (a.put oi.dst v) → QHead P md ops C n L (f + 1) d a := by
  induction f with
  | zero =>
    intro d a inv hfree hr hy H
    refine ⟨List.ne_nil_of_mem hr, fun j hj => ?_⟩
    have hjn : j < n := Nat.lt_of_not_le fun h => tail_waits hs hc hn inv _ i rfl hin (mem_ready.1 hr).1 j h hj
    refine ⟨hjn, ?_⟩
    by_cases hji : j = i
    · subst hji
      exact hy.qOp hi H
    · exact absurd (hdone _ _ H j (ready_mono hj hji)) (by omega)
  | succ f ih =>
    intro d a inv hfree hr hy H
    have hun := (mem_ready.1 hr).1
    refine ⟨List.ne_nil_of_mem hr, fun j hj => ?_⟩
    have hjn : j < n := Nat.lt_of_not_le fun h => tail_waits hs hc hn inv _ i rfl hin hun j h hj
    refine ⟨hjn, ?_⟩
    by_cases hji : j = i
    · subst hji
      exact hy.qOp hi H
    · obtain ⟨hjun, oj, hoj, hall⟩ := mem_ready.1 hj
      have hno : ∀ e ∈ oj.after, Region.binds md e = true → e.on ≠ i := fun e he hb heq => by
        have := hall e he hb
        rw [heq, getD_both hun] at this
        cases this
      refine qOp_mono ?_ (qOp_put hoj (hfree j oj hoj hji hjun hno) (fun cs b => hsel i oi cs b hi) (fun cs b => hsel j oj cs b hoj) hy (H.2 j (ready_mono hj hji)).2)
      intro a' h3
      refine ih (d.setIfInBounds j true) a' (inv.set hj hjn) (fun k ok hk hki hun' hno' => hfree k ok hk hki ?_ hno') (ready_mono hr (Ne.symm hji)) h3.1 ?_
      · by_cases hjk : j = k
        · subst hjk
          exact hjun
        · rwa [getD_set_ne true hjk] at hun'
      · rw [Array.setIfInBounds_comm _ _ hji]
        exact h3.2
theorem QHead.lex {n g : Nat} {Lq : Act → Prop} (hsel : Region.noSelect ops = true) (hs : Region.sinkB md ops n = true) (hc : Region.chainB md ops n = true) (hn : n < ops.size) (l : List Oper) :
    ∀ (k : Nat) (d : Array Bool) (a : Act), (∀ j, j < l.length → l[j]? = ops[k + j]?) → k + l.length = n → HeadInv md ops n d → Region.lexHead md ops g l.length k d = true → wpQuiet P ops C Lq l a →
      QHead P md ops C n (fun d' a' => Region.seqB md ops g n d' = true ∧ Lq a') l.length d a := by
  induction l with
  | nil =>
    intro k d a _ hk _ hB h
    have hk' : k = n := by simpa using hk
    subst hk'
    exact ⟨hB, h⟩
  | cons o l ih =>
    intro k d a hl hk inv hB h
    have h0 : ops[k]? = some o := by simpa using (hl 0 (by simp)).symm
    rw [List.length_cons] at hk
    simp only [List.length_cons, Region.lexHead, Bool.and_eq_true] at hB
    have hr : k ∈ Region.ready md ops d := by simpa using hB.1.1
    have hq : qOp P ops C k (wpQuiet P ops C Lq l) a := by
      unfold qOp
      rw [h0]
      exact h
    obtain ⟨v, hy, hK⟩ := yieldsIn_of_qOp h0 hq
    refine QHead.first h0 (Region.noSelect_spec hsel) hs hc hn (by omega) (fun d' a' hL => seqB_ready hL.1) l.length d a inv (Region.free_spec h0 hB.1.2) hr hy ?_
    refine ih (k + 1) _ _ (fun j hj => ?_) (by omega) (inv.set hr (by omega)) hB.2 hK
    have := hl (j + 1) (by simp; omega)
    rw [List.getElem?_cons_succ] at this
    rw [this]
    congr 1
    omega
end
/-- The class of worlds that came by growth alone; the last operations are walked from each of them. -/
theorem wp_region_grown_tail {P : Program} {id : Nat} {Q : Exit → Act → World → Prop} {a : Act} {w : World} {l : List Oper} (n : Nat) (hm : P.follows .mixedOrders = true) (hB : Region.lexTailB .any l.toArray n = true)
    (h : wpQuiet P l.toArray (fun w' => ∃ n : Grown w, w' = n.u) (fun a' => ∀ w', (∃ n : Grown w, w' = n.u) → wpList P l.toArray Q (l.drop n) a' w') (l.take n) a) : (Code.region id l.toArray true).wp P Q a w := by
  simp only [Region.lexTailB, Bool.and_eq_true, decide_eq_true_eq] at hB
  obtain ⟨⟨⟨⟨hsel, hn⟩, hs⟩, hc⟩, hlex⟩ := hB
  have hn' : n < l.length := by simpa using hn
  have htl : (l.take n).length = n := by rw [List.length_take]; omega
  have inv : HeadInv .any l.toArray n (Array.replicate l.toArray.size false) := by
    refine ⟨by simp, fun j oj _ hl => ?_, fun t _ ht => getD_in (by simpa using ht) (getD_replicate_false _ _)⟩
    rw [getD_replicate_false] at hl
    cases hl
  have H := QHead.lex (md := .any) (g := l.toArray.size - n) hsel hs hc hn (l.take n) 0 _ a (fun j hj => by
    rw [htl] at hj
    simp [hj]) (by omega) inv (by rw [htl]; exact hlex) h
  have H2 := QHead.any (Q := Q) (g := l.toArray.size - n) (fun d a' hL w' hw' => by
    have hd : (l.drop n).length = l.toArray.size - n := by simp
    have := wpAny_of_seq (md := .any) (Q' := Q) (l.drop n) n d a' w' (fun j => by simp [List.getElem?_drop]) (by rw [hd]; exact hL.1) (hL.2 w' hw')
    rwa [hd] at this) _ _ _ H { w with drawn := w.drawn + 1 } ⟨⟨_, below_drew1 w⟩, rfl⟩
  refine wp_region_any hm ?_
  rw [htl, show n + (l.toArray.size - n) = l.toArray.size by omega] at H2
  exact H2
end Go.Proofs.YthifelgdkmkdkaaGreatDoor
namespace Go.Proofs.YthifelgdkmkdkaaGreatDoor
open Go.ChangeShapes Go.WideShapes Go.ChangeAt Go.RowKit
set_option linter.unusedVariables false
theorem block_new (w : World) (cs : Array Value) (t : TypeId) : (w.alloc (.cells cs t)).heap[w.heap.size]? = some (.cells cs t (0, 0)) := Array.getElem?_push_size
theorem field_form (s : ByteArray) (c f : Int) (w : World) : (Instr.field 93 (.agg #[.string s, .int .i64 c, .int .i64 f]) 2).run Tryz.prog w = .ok (.int .i64 f) w := by kernel_rfl
/-- What is read of a function of the program. -/
theorem fn_at {w : World} {s : Value} {fs : List MF} {q : Nat} {f : MF} (h : RdFs w s fs) (hq : fs[q]? = some f) : ∃ gk ok ck, s = .slice (some ⟨gk, ok, none⟩) fs.length ck ∧ ∃ g : VF, RdF w g f ∧ w.cell? ⟨gk, ok + q * 4, none⟩ = some g.p ∧ w.cell? ⟨gk, ok + q * 4 + 1, none⟩ = some (.int .i64 f.result) ∧ w.cell? ⟨gk, ok + q * 4 + 2, none⟩ = some g.l ∧ w.cell? ⟨gk, ok + q * 4 + 3, none⟩ = some g.c := by
  obtain ⟨xs, h1, h2, h3⟩ := h
  have hlt := (List.getElem?_eq_some_iff.1 hq).1
  rcases h2.2 with ⟨e, _⟩ | ⟨gk, ok, ck, e, hc⟩
  · omega
  · obtain ⟨x, hx, hx1⟩ : ∃ x, xs[q]? = some x ∧ x.1 = f := by
      rw [← h1, List.getElem?_map] at hq
      cases hx : xs[q]? with
      | none => rw [hx] at hq; cases hq
      | some x => rw [hx] at hq; exact ⟨x, rfl, Option.some.inj hq⟩
    subst hx1
    exact ⟨gk, ok, ck, e, x.2, h3 x (List.mem_of_getElem? hx), Rd.elem fCells_length hc q x hx 0 _ rfl, Rd.elem fCells_length hc q x hx 1 _ rfl, Rd.elem fCells_length hc q x hx 2 _ rfl, Rd.elem fCells_length hc q x hx 3 _ rfl⟩
theorem in_at {w : World} {s : Value} {is : List MI} {q : Nat} {x : MI} (h : Rd w 4 s is.length (is.flatMap MI.cells)) (hq : is[q]? = some x) : ∃ gk ok ck, s = .slice (some ⟨gk, ok, none⟩) is.length ck ∧ w.cell? ⟨gk, ok + q * 4, none⟩ = some (.int .i64 x.op) ∧ w.cell? ⟨gk, ok + q * 4 + 1, none⟩ = some (.int .i64 x.a) ∧ w.cell? ⟨gk, ok + q * 4 + 2, none⟩ = some (.int .i64 x.b) ∧ w.cell? ⟨gk, ok + q * 4 + 3, none⟩ = some (.int .i64 x.c) := by
  have hlt := (List.getElem?_eq_some_iff.1 hq).1
  rcases h.2 with ⟨e, _⟩ | ⟨gk, ok, ck, e, hc⟩
  · omega
  · exact ⟨gk, ok, ck, e, Rd.elem MI.cells_length hc q x hq 0 _ rfl, Rd.elem MI.cells_length hc q x hq 1 _ rfl, Rd.elem MI.cells_length hc q x hq 2 _ rfl, Rd.elem MI.cells_length hc q x hq 3 _ rfl⟩
end Go.Proofs.YthifelgdkmkdkaaGreatDoor
