import Derived.Test.YtdbaghmjomdmbaaFo26
namespace Go.Proofs.Ytdbaghmjomdmbaa
open Go.ChangeShapes Go.WideShapes Go.ChangeAt Go.RowKit
set_option linter.unusedVariables false
section
variable {E : Nat → List Nat} {D : Nat → Nat → Bool} {n h b k y : Nat}
def backP (E : Nat → List Nat) (D : Nat → Nat → Bool) (h b k : Nat) : List Nat := (((E b).take k).filter fun x => decide (x = h) && D h b).map fun _ => b
theorem backL_succ (E : Nat → List Nat) (D : Nat → Nat → Bool) (b h : Nat) : backL E D (b + 1) h = backL E D b h ++ backP E D h b (E b).length := by
  unfold backL backP
  rw [List.range_succ, List.flatMap_append]
  simp
theorem backP_zero (E : Nat → List Nat) (D : Nat → Nat → Bool) (h b : Nat) : backP E D h b 0 = [] := by simp [backP]
theorem backP_yes (hy : (E b)[k]? = some h) (hD : D h b = true) : backP E D h b (k + 1) = backP E D h b k ++ [b] := by
  obtain ⟨hl, e⟩ := List.getElem?_eq_some_iff.1 hy
  unfold backP
  rw [List.take_succ_eq_append_getElem hl, List.filter_append, List.map_append, e]
  simp [hD]
theorem backP_no (hy : (E b)[k]? = some y) (hn : ¬ (y = h ∧ D h b = true)) : backP E D h b (k + 1) = backP E D h b k := by
  obtain ⟨hl, e⟩ := List.getElem?_eq_some_iff.1 hy
  unfold backP
  rw [List.take_succ_eq_append_getElem hl, List.filter_append, List.map_append, e]
  have : (decide (y = h) && D h b) = false := by
    cases q : D h b with
    | false => simp
    | true => simp; exact fun e => hn ⟨e, q⟩
  simp [this]
theorem backP_len (E : Nat → List Nat) (D : Nat → Nat → Bool) (h b k : Nat) : (backP E D h b k).length ≤ (E b).length := by
  unfold backP
  rw [List.length_map]
  refine Nat.le_trans (List.length_filter_le _ _) ?_
  rw [List.length_take]
  omega
theorem backL_len (hsz : ∀ b, (E b).length ≤ 2) (D : Nat → Nat → Bool) (h b : Nat) : (backL E D b h).length ≤ 2 * b := by
  induction b with
  | zero => simp [backL]
  | succ b ih =>
    have h1 := backP_len E D h b (E b).length
    have h2 := hsz b
    rw [backL_succ, List.length_append]
    omega
/-- The blocks from which the loop is gone through. -/
def Src (E : Nat → List Nat) (D : Nat → Nat → Bool) (n h x : Nat) : Prop := ∃ t ∈ backL E D n h, Rch (fromL E n) (· ≠ h) t x
structure Col (E : Nat → List Nat) (D : Nat → Nat → Bool) (n h : Nat) (L : List Nat) : Prop where
  nodup : L.Nodup
  ne : ∀ x ∈ L, x ≠ h
  lt : ∀ x ∈ L, x < n
  src : ∀ x ∈ L, Src E D n h x
theorem Col.len {L : List Nat} (h' : Col E D n h L) : L.length ≤ n := by
  have := nodup_le L n h'.lt h'.nodup
  omega
theorem Col.nil : Col E D n h [] := ⟨List.nodup_nil, fun _ q => (by cases q), fun _ q => (by cases q), fun _ q => (by cases q)⟩
theorem Col.add {L : List Nat} (h' : Col E D n h L) (hne : y ≠ h) (hlt : y < n) (hs : Src E D n h y) (hL : y ∉ L) : Col E D n h (L ++ [y]) := by
  have hm : ∀ x, x ∈ L ++ [y] → x ∈ L ∨ x = y := fun x hx => by simpa using hx
  refine ⟨List.nodup_append.2 ⟨h'.nodup, by simp, fun a ha c hc e => ?_⟩, fun x hx => ?_, fun x hx => ?_, fun x hx => ?_⟩
  · simp only [List.mem_cons, List.not_mem_nil, or_false] at hc
    subst hc e
    exact hL ha
  · rcases hm x hx with q | rfl
    · exact h'.ne x q
    · exact hne
  · rcases hm x hx with q | rfl
    · exact h'.lt x q
    · exact hlt
  · rcases hm x hx with q | rfl
    · exact h'.src x q
    · exact hs
/-- All of these were taken. -/
def Has (h : Nat) (L B : List Nat) : Prop := ∀ x ∈ B, x = h ∨ x ∈ L
theorem Has.app {L B : List Nat} (h' : Has h L B) (z : Nat) : Has h (L ++ [z]) B := fun x hx => (h' x hx).imp id fun q => List.mem_append.2 (.inl q)
theorem Has.next {L L' B : List Nat} (h' : Has h L (B.take k)) (hs : ∀ x ∈ L, x ∈ L') (hy : B[k]? = some y) (hL : y = h ∨ y ∈ L') : Has h L' (B.take (k + 1)) := fun z hz => by
  obtain ⟨hlt, rfl⟩ := List.getElem?_eq_some_iff.1 hy
  rw [List.take_succ_eq_append_getElem hlt] at hz
  rcases List.mem_append.1 hz with hz | hz
  · exact (h' z hz).imp id (hs z)
  · simp only [List.mem_cons, List.not_mem_nil, or_false] at hz
    subst hz
    exact hL
/-- From the first i of them all was taken backwards. -/
def Bwd (E : Nat → List Nat) (n h : Nat) (L : List Nat) (i : Nat) : Prop := ∀ j x, L[j]? = some x → j < i → ∀ y, y < n → x ∈ E y → y = h ∨ y ∈ L
def BwdB (E : Nat → List Nat) (h : Nat) (L : List Nat) (x b : Nat) : Prop := ∀ y, y < b → x ∈ E y → y = h ∨ y ∈ L
theorem Bwd.app {L : List Nat} {i : Nat} (h' : Bwd E n h L i) (hi : i ≤ L.length) (z : Nat) : Bwd E n h (L ++ [z]) i := fun j x hj hl y hy hx => by
  rw [List.getElem?_append_left (by omega)] at hj
  exact (h' j x hj hl y hy hx).imp id fun q => List.mem_append.2 (.inl q)
theorem BwdB.app {L : List Nat} {x : Nat} (h' : BwdB E h L x b) (z : Nat) : BwdB E h (L ++ [z]) x b := fun y hy hx => (h' y hy hx).imp id fun q => List.mem_append.2 (.inl q)
theorem BwdB.next {L : List Nat} {x : Nat} (h' : BwdB E h L x b) (hb : x ∈ E b → b = h ∨ b ∈ L) : BwdB E h L x (b + 1) := fun y hy hx => by
  by_cases e : y = b
  · subst e; exact hb hx
  · exact h' y (by omega) hx
theorem Bwd.next {L : List Nat} {i x : Nat} (h' : Bwd E n h L i) (hx : L[i]? = some x) (hb : BwdB E h L x n) : Bwd E n h L (i + 1) := fun j z hj hl y hy hz => by
  by_cases e : j = i
  · subst e
    rw [hx] at hj
    cases hj
    exact hb y hy hz
  · exact h' j z hj (by omega) y hy hz
theorem Col.step {L : List Nat} (h' : Col E D n h L) {x : Nat} (hx : x ∈ L) (hb : b < n) (he : x ∈ E b) (hne : b ≠ h) : Src E D n h b := by
  obtain ⟨t, h1, h2⟩ := h'.src x hx
  exact ⟨t, h1, .step h2 ((fromL_mem E n x b).2 ⟨hb, he⟩) hne⟩
theorem Col.iff {L : List Nat} (h' : Col E D n h L) (hB : Has h L (backL E D n h)) (hc : Bwd E n h L L.length) (x : Nat) : (h :: L).contains x = true ↔ InLoop E D n h x := by
  simp only [List.contains_eq_mem, decide_eq_true_eq, List.mem_cons]
  unfold InLoop
  refine or_congr_right ⟨h'.src x, ?_⟩
  rintro ⟨t, h1, h2⟩
  induction h2 with
  | here q => exact (hB t h1).resolve_left q
  | step _ q2 q3 ih =>
    obtain ⟨j, hj⟩ := List.getElem?_of_mem ih
    obtain ⟨q4, q5⟩ := (fromL_mem E n _ _).1 q2
    exact (hc j _ hj (List.getElem?_eq_some_iff.1 hj).1 _ q4 q5).resolve_left q3
end
theorem cons_set (h : Nat) (L : List Nat) (y n : Nat) : ∀ j, j < n → (h :: (L ++ [y])).contains j = if j = y then true else (h :: L).contains j := fun j _ => by
  by_cases e : j = y
  · subst e; simp
  · simp [e]
def nilV : Value := .slice none 0 0
theorem infoLp : (Try.prog.info? 62).map (fun i => (i.zero, i.size, i.bytes)) = some (some (.agg #[.int .i64 0, .slice none 0 0, .slice none 0 0]), 3, 56) := by kernel_rfl
/-- The first rows of a loop. -/
structure L1 (w u : World) (n h bl gi : Nat) (BV : Value) (B : List Nat) : Prop where
  res : Blk u w.heap.size #[.int .i64 0, .slice none 0 0, .slice none 0 0] 62
  blk : Blk u bl #[.int .i64 (h : Int), BV, .slice none 0 0] 62
  inn : OwB u w.heap.size gi n (fun x => [h].contains x)
  back : OwN u w.heap.size BV B
  bel : Below w.heap.size w u
  lt : w.heap.size < bl
theorem L1.al {w u : World} {n h bl gi : Nat} {BV : Value} {B : List Nat} (l : L1 w u n h bl gi BV B) (o : Obj) : (u.alloc o).ownsRow w.heap.size 2 1 BV B.length (nv B) ∧ w.heap.size ≤ (u.alloc o).heap.size := ⟨l.back.keep (below_alloc _ _), Nat.le_trans l.bel.size (below_alloc _ _).size⟩
theorem L1.app {w u u' : World} {n h bl gi : Nat} {BV V' : Value} {B : List Nat} {y : Nat} (l : L1 w u n h bl gi BV B) (hown : u'.ownsRow w.heap.size 2 1 V' (B.length + 1) (nv B ++ [.int .i64 (y : Int)])) (hg : (u.alloc (.cells #[.int .i64 (y : Int)] 2)).grownBy u' BV.ownBlock) : Blk u' bl #[.int .i64 (h : Int), BV, .slice none 0 0] 62 ∧ L1 w (u'.setCell ⟨bl, 1, none⟩ V') n h bl gi V' (B ++ [y]) := by
  have bA := below_alloc u (.cells #[.int .i64 (y : Int)] 2)
  have o1 := l.back.keep bA
  have kb : Blk u' bl #[.int .i64 (h : Int), BV, .slice none 0 0] 62 := (l.blk.keep bA).grown hg o1 (by decide)
  have kr := (l.res.keep bA).grown hg o1 (by decide)
  have ki : OwB u' w.heap.size gi n (fun x => [h].contains x) := own_grown (l.inn.keep bA) hg o1 (by decide)
  have hbel : Below w.heap.size w u' := (below_on l.bel (Nat.le_refl _) bA).grown hg (Nat.le_trans l.bel.size bA.size) (fun i hi => (l.back.lt i hi).1)
  refine ⟨kb, kr.other (by have := l.lt; simp only []; omega) _, ?_, ?_, ?_, hbel.setCell (Nat.le_of_lt l.lt) _, l.lt⟩
  · have := kb.set 1 V'
    simpa using this
  · refine ki.other fun e => ?_
    obtain ⟨_, cur, h1⟩ := own_blk ki
    subst e
    unfold Blk at kb
    rw [kb] at h1
    simp only [Option.some.injEq, Obj.cells.injEq] at h1
    exact absurd h1.2.1 (by decide)
  · unfold OwN
    rw [List.length_append, List.length_singleton, nv_app]
    refine ownsRow_setCell_other hown (a := ⟨bl, 1, none⟩) (fun q => ?_) _
    rcases hown.2 with ⟨rfl, _⟩ | ⟨g', cap', cur', rfl, _, hg', _⟩
    · cases q
    · simp only [Value.ownBlock, Option.some.injEq] at q
      subst q
      unfold Blk at kb
      rw [kb] at hg'
      simp only [Option.some.injEq, Obj.cells.injEq] at hg'
      exact absurd hg'.2.1 (by decide)
theorem L1.keep {w u : World} {n h bl gi : Nat} {BV : Value} {B : List Nat} (l : L1 w u n h bl gi BV B) {u' : World} (hb : Below u.heap.size u u') : L1 w u' n h bl gi BV B := ⟨l.res.keep hb, l.blk.keep hb, l.inn.keep hb, l.back.keep hb, below_on l.bel (Nat.le_refl _) hb, l.lt⟩
/-- The rows while blocks are gathered: but for in, all is as it was. -/
structure L2 (w w1 u : World) (n gi : Nat) (P : Nat → Bool) (LV : Value) (L : List Nat) : Prop where
  inn : OwB u w.heap.size gi n P
  list : OwN u w1.heap.size LV L
  fx : ∀ k, k < w1.heap.size → k ≠ gi → u.heap[k]? = w1.heap[k]?
  bel : Below w.heap.size w u
  size : w1.heap.size ≤ u.heap.size
  glt : gi < w1.heap.size
theorem L2.mark {w w1 u : World} {n gi : Nat} {P Q : Nat → Bool} {LV : Value} {L : List Nat} (l : L2 w w1 u n gi P LV L) (i : Nat) (b : Bool) (hQ : ∀ j, j < n → Q j = if j = i then b else P j) : L2 w w1 (u.setCell ⟨gi, i, none⟩ (.bool b)) n gi Q LV L := ⟨l.inn.set i b hQ, own_set_ne l.list l.inn (by decide) i _, fun k hk hne => by rw [heap_setCell_other u _ k _ hne]; exact l.fx k hk hne, l.bel.setCell (own_blk l.inn).1 _, by rw [World.size_setCell]; exact l.size, l.glt⟩
theorem L2.al {w w1 u : World} {n gi : Nat} {P : Nat → Bool} {LV : Value} {L : List Nat} (l : L2 w w1 u n gi P LV L) (o : Obj) : (u.alloc o).ownsRow w1.heap.size 2 1 LV L.length (nv L) ∧ w1.heap.size ≤ (u.alloc o).heap.size := ⟨l.list.keep (below_alloc _ _), Nat.le_trans l.size (below_alloc _ _).size⟩
theorem L2.keep {w w1 u u' : World} {n gi : Nat} {P : Nat → Bool} {LV : Value} {L : List Nat} (l : L2 w w1 u n gi P LV L) (hb : Below u.heap.size u u') : L2 w w1 u' n gi P LV L := ⟨l.inn.keep hb, l.list.keep hb, fun k hk hne => by rw [hb.block k (Nat.lt_of_lt_of_le hk l.size)]; exact l.fx k hk hne, below_on l.bel (Nat.le_refl _) hb, Nat.le_trans l.size hb.size, l.glt⟩
theorem L2.app {w w1 u u' : World} {n gi : Nat} {P : Nat → Bool} {LV V' : Value} {L : List Nat} {y : Nat} (l : L2 w w1 u n gi P LV L) (hw : w.heap.size ≤ w1.heap.size) (hown : u'.ownsRow w1.heap.size 2 1 V' (L.length + 1) (nv L ++ [.int .i64 (y : Int)])) (hg : (u.alloc (.cells #[.int .i64 (y : Int)] 2)).grownBy u' LV.ownBlock) : L2 w w1 u' n gi P V' (L ++ [y]) := by
  have bA := below_alloc u (.cells #[.int .i64 (y : Int)] 2)
  have o1 := l.list.keep bA
  refine ⟨own_grown (l.inn.keep bA) hg o1 (by decide), ?_, fun k hk hne => ?_, (below_on l.bel (Nat.le_refl _) bA).grown hg (Nat.le_trans l.bel.size bA.size) (fun i hi => Nat.le_trans hw (l.list.lt i hi).1), Nat.le_trans l.size (Nat.le_trans bA.size hg.size), l.glt⟩
  · unfold OwN
    rw [List.length_append, List.length_singleton, nv_app]
    exact hown
  · rw [hg.block k (Nat.lt_of_lt_of_le hk (Nat.le_trans l.size bA.size)) (fun e => by have := (l.list.lt k e.symm).1; omega), bA.block k (Nat.lt_of_lt_of_le hk l.size)]
    exact l.fx k hk hne
theorem L2.blk {w w1 u : World} {n gi : Nat} {P : Nat → Bool} {LV : Value} {L : List Nat} (l : L2 w w1 u n gi P LV L) {b : Nat} {cur : Array Value} {t : TypeId} (hb : Blk w1 b cur t) (hne : b ≠ gi) : Blk u b cur t := by
  unfold Blk at *
  rw [l.fx b (Array.getElem?_eq_some_iff.1 hb).1 hne]
  exact hb
theorem L2.cell {w w1 u : World} {n gi : Nat} {P : Nat → Bool} {LV : Value} {L : List Nat} (l : L2 w w1 u n gi P LV L) {a : Addr} {x : Value} (hb : w1.cell? a = some x) (hne : a.block ≠ gi) : u.cell? a = some x := by
  have := l.fx a.block (block_lt_of_cell hb) hne
  unfold World.cell? at *
  rw [this]
  exact hb
theorem OwN.fx {w1 u : World} {base x : Nat} {s : Value} {l : List Nat} (h : OwN w1 base s l) (hf : ∀ k, k < w1.heap.size → k ≠ x → u.heap[k]? = w1.heap[k]?) (hx : ∀ g, s.ownBlock = some g → g ≠ x) : OwN u base s l := by
  refine ⟨h.1, ?_⟩
  rcases h.2 with h | ⟨g, cap, cur, rfl, hb1, hgg, hr⟩
  · exact .inl h
  · refine .inr ⟨g, cap, cur, rfl, hb1, ?_, hr⟩
    rw [hf g (Array.getElem?_eq_some_iff.1 hgg).1 (hx g rfl)]
    exact hgg
theorem OwN.ne_blk {w : World} {base b : Nat} {s : Value} {l : List Nat} {cur : Array Value} {t : TypeId} (h : OwN w base s l) (hb : Blk w b cur t) (hne : 2 ≠ t) : ∀ g, s.ownBlock = some g → g ≠ b := type_apart h hb hne
theorem OwB.congr {w : World} {base g n : Nat} {P Q : Nat → Bool} (h : OwB w base g n P) (hQ : ∀ i, i < n → P i = Q i) : OwB w base g n Q := by
  unfold OwB at *
  rw [bv_congr hQ] at h
  exact h
/-- The rows while the blocks of a loop are told: but for the loop's own block, all is as it was. -/
structure L4 (w w2 u : World) (n h bl gi : Nat) (BV KV : Value) (K : List Nat) (P : Nat → Bool) : Prop where
  res : Blk u w.heap.size #[.int .i64 0, .slice none 0 0, .slice none 0 0] 62
  blk : Blk u bl #[.int .i64 (h : Int), BV, KV] 62
  inn : OwB u w.heap.size gi n P
  row : OwN u w2.heap.size KV K
  fx : ∀ k, k < w2.heap.size → k ≠ bl → u.heap[k]? = w2.heap[k]?
  bel : Below w.heap.size w u
  size : w2.heap.size ≤ u.heap.size
  blt : bl < w2.heap.size
theorem L4.al {w w2 u : World} {n h bl gi : Nat} {BV KV : Value} {K : List Nat} {P : Nat → Bool} (l : L4 w w2 u n h bl gi BV KV K P) (o : Obj) : (u.alloc o).ownsRow w2.heap.size 2 1 KV K.length (nv K) ∧ w2.heap.size ≤ (u.alloc o).heap.size := ⟨l.row.keep (below_alloc _ _), Nat.le_trans l.size (below_alloc _ _).size⟩
theorem L4.app {w w2 u u' : World} {n h bl gi : Nat} {BV KV V' : Value} {K : List Nat} {P : Nat → Bool} {y : Nat} (l : L4 w w2 u n h bl gi BV KV K P) (hw : w.heap.size < bl) (hown : u'.ownsRow w2.heap.size 2 1 V' (K.length + 1) (nv K ++ [.int .i64 (y : Int)])) (hg : (u.alloc (.cells #[.int .i64 (y : Int)] 2)).grownBy u' KV.ownBlock) : Blk u' bl #[.int .i64 (h : Int), BV, KV] 62 ∧ L4 w w2 (u'.setCell ⟨bl, 2, none⟩ V') n h bl gi BV V' (K ++ [y]) P := by
  have bA := below_alloc u (.cells #[.int .i64 (y : Int)] 2)
  have o1 := l.row.keep bA
  have kb : Blk u' bl #[.int .i64 (h : Int), BV, KV] 62 := (l.blk.keep bA).grown hg o1 (by decide)
  have kr := (l.res.keep bA).grown hg o1 (by decide)
  have ki : OwB u' w.heap.size gi n P := own_grown (l.inn.keep bA) hg o1 (by decide)
  have hlow : w.heap.size ≤ w2.heap.size := by have := l.blt; omega
  have hbel : Below w.heap.size w u' := (below_on l.bel (Nat.le_refl _) bA).grown hg (Nat.le_trans l.bel.size bA.size) (fun i hi => Nat.le_trans hlow (l.row.lt i hi).1)
  refine ⟨kb, kr.other (by simp only []; omega) _, ?_, ?_, ?_, fun k hk hne => ?_, hbel.setCell (Nat.le_of_lt hw) _, ?_, l.blt⟩
  · have := kb.set 2 V'
    simpa using this
  · refine ki.other fun e => ?_
    obtain ⟨_, cur, h1⟩ := own_blk ki
    subst e
    unfold Blk at kb
    rw [kb] at h1
    simp only [Option.some.injEq, Obj.cells.injEq] at h1
    exact absurd h1.2.1 (by decide)
  · unfold OwN
    rw [List.length_append, List.length_singleton, nv_app]
    refine ownsRow_setCell_other hown (a := ⟨bl, 2, none⟩) (fun q => ?_) _
    have := (hown.lt bl q).1
    have := l.blt
    omega
  · rw [heap_setCell_other u' _ k _ hne, hg.block k (Nat.lt_of_lt_of_le hk (Nat.le_trans l.size bA.size)) (fun e => by have := (l.row.lt k e.symm).1; omega), bA.block k (Nat.lt_of_lt_of_le hk l.size)]
    exact l.fx k hk hne
  · rw [World.size_setCell]
    exact Nat.le_trans l.size (Nat.le_trans bA.size hg.size)
end Go.Proofs.Ytdbaghmjomdmbaa
namespace Go.Proofs.Ytdbaghmjomdmbaa
open Go.ChangeShapes Go.WideShapes Go.ChangeAt Go.RowKit
set_option linter.unusedVariables false
/-- A row of a family grows: in its block, or into one that is new. -/
theorem Fam.grow {w w' : World} {base g : Nat} {A B : List (Value × List Int)} {V V' : Value} {l l' : List Int} (h : Fam w base (A ++ (V, l) :: B)) (ho : w'.ownsRow base 2 1 V' l'.length (l'.flatMap intCell)) (hV : V'.ownBlock = some g) (hg : w.grownBy w' V.ownBlock) (hat : V.ownBlock = some g ∨ w.heap.size ≤ g) : Fam w' base (A ++ (V', l') :: B) := by
  obtain ⟨pA, pB, pAB⟩ := List.pairwise_append.1 h.sep
  obtain ⟨pv, pB'⟩ := List.pairwise_cons.1 pB
  have hsep : ∀ x : Value × List Int, x ∈ A ++ (V, l) :: B → Apart x (V, l) → Apart x (V', l') := fun x hx ha gg hgg e => by
    rw [hV] at e
    have e := Option.some.inj e
    subst e
    rcases hat with h1 | h1
    · exact ha _ hgg h1
    · have := ((h.own x hx).lt _ hgg).2
      omega
  refine ⟨fun x hx => ?_, List.pairwise_append.2 ⟨pA, List.pairwise_cons.2 ⟨fun y hy => (hsep y (by simp [hy]) (pv y hy).symm).symm, pB'⟩, fun a ha b hb => ?_⟩⟩
  · rcases List.mem_append.1 hx with hx | hx
    · exact own_apart' (h.own x (List.mem_append.2 (.inl hx))) hg (fun g hgx e => pAB x hx (V, l) (by simp) g hgx e.symm)
    · rcases List.mem_cons.1 hx with rfl | hx
      · exact ho
      · exact own_apart' (h.own x (List.mem_append.2 (.inr (List.mem_cons_of_mem _ hx)))) hg (fun g hgx e => pv x hx g e.symm hgx)
  · rcases List.mem_cons.1 hb with rfl | hb
    · exact hsep a (by simp [ha]) (pAB a ha (V, l) (by simp))
    · exact pAB a ha b (List.mem_cons_of_mem _ hb)
theorem Fam.keepB {u u' : World} {B : Nat} {L : List (Value × List Int)} (h : Fam u B L) (hb : Below u.heap.size u u') : Fam u' B L := ⟨fun r hr => own_keep (h.own r hr) hb (Nat.le_refl _), h.sep⟩
/-- A row that is new joins a family. -/
theorem Fam.join {u u' : World} {B : Nat} {L : List (Value × List Int)} {b : Value} {cb : List Int} (h : Fam u B L) (hb : Below u.heap.size u u') (hn : u'.ownsRow u.heap.size 2 1 b cb.length (cb.flatMap intCell)) (hB : B ≤ u.heap.size) : Fam u' B (L ++ [(b, cb)]) := by
  refine ⟨fun x hx => ?_, List.pairwise_append.2 ⟨h.sep, by simp, fun a ha c hc g hg e => ?_⟩⟩
  · rcases List.mem_append.1 hx with hx | hx
    · exact own_keep (h.own x hx) hb (Nat.le_refl _)
    · simp only [List.mem_cons, List.not_mem_nil, or_false] at hx
      subst hx
      exact own_lower hn hB
  · simp only [List.mem_cons, List.not_mem_nil, or_false] at hc
    subst hc
    have h1 := ((h.own a ha).lt g hg).2
    have h2 := (hn.lt g e).1
    omega
theorem Fam.join2 {u u' : World} {B : Nat} {L : List (Value × List Int)} {b c : Value} {cb cc : List Int} (h : Fam u B L) (hb : Below u.heap.size u u') (hn : u'.ownsRow u.heap.size 2 1 b cb.length (cb.flatMap intCell)) (hm : u'.ownsRow u.heap.size 2 1 c cc.length (cc.flatMap intCell)) (hne : ∀ g, b.ownBlock = some g → c.ownBlock ≠ some g) (hB : B ≤ u.heap.size) : Fam u' B (L ++ [(b, cb), (c, cc)]) := by
  refine ⟨fun x hx => ?_, List.pairwise_append.2 ⟨h.sep, by simpa [Apart] using hne, fun a ha y hy g hg e => ?_⟩⟩
  · rcases List.mem_append.1 hx with hx | hx
    · exact own_keep (h.own x hx) hb (Nat.le_refl _)
    · simp only [List.mem_cons, List.not_mem_nil, or_false] at hx
      rcases hx with rfl | rfl
      · exact own_lower hn hB
      · exact own_lower hm hB
  · simp only [List.mem_cons, List.not_mem_nil, or_false] at hy
    have h1 := ((h.own a ha).lt g hg).2
    rcases hy with rfl | rfl
    · have h2 := (hn.lt g e).1
      omega
    · have h2 := (hm.lt g e).1
      omega
/-- The block of a row of another type turns. -/
theorem Fam.other {w : World} {base b : Nat} {L : List (Value × List Int)} {cur : Array Value} {t : TypeId} (h : Fam w base L) (hb : Blk w b cur t) (hne : 2 ≠ t) (i : Nat) (x : Value) : Fam (w.setCell ⟨b, i, none⟩ x) base L := h.set hb hne i x
theorem Fam.grown_other {w w' : World} {base B k m : Nat} {L : List (Value × List Int)} {v : Value} {e : TypeId} {bs : List Value} (h : Fam w base L) (hg : w.grownBy w' v.ownBlock) (ho : w.ownsRow B e k v m bs) (hne : 2 ≠ e) : Fam w' base L := ⟨fun x hx => own_grown (h.own x hx) hg ho hne, h.sep⟩
/-- A loop's cells. -/
def lCells (x : ML × Value × Value) : List Value := [.int .i64 x.1.head, x.2.1, x.2.2]
theorem lCells_length (x : ML × Value × Value) : (lCells x).length = 3 := rfl
def RdL (w : World) (x : ML × Value × Value) : Prop := Rd w 1 x.2.1 x.1.back.length (x.1.back.flatMap intCell) ∧ Rd w 1 x.2.2 x.1.blocks.length (x.1.blocks.flatMap intCell)
def RdLs (w : World) (s : Value) (ls : List ML) : Prop := ∃ ys : List (ML × Value × Value), ys.map Prod.fst = ls ∧ Rd w 3 s ls.length (ys.flatMap lCells) ∧ ∀ y ∈ ys, RdL w y
theorem RdLs.keep {w w' : World} {s : Value} {ls : List ML} (h : RdLs w s ls) {B : Nat} (hb : Below B w w') (hB : w.heap.size ≤ B) : RdLs w' s ls := by
  obtain ⟨ys, h1, h2, h3⟩ := h
  exact ⟨ys, h1, h2.keep hb hB, fun y hy => ⟨(h3 y hy).1.keep hb hB, (h3 y hy).2.keep hb hB⟩⟩
theorem RdLs.nil (w : World) : RdLs w (.slice none 0 0) [] := ⟨[], rfl, ⟨rfl, .inl ⟨rfl, _, _, rfl⟩⟩, fun y hy => by cases hy⟩
/-- The rows of loops. -/
def lrows (ys : List (ML × Value × Value)) : List (Value × List Int) := ys.flatMap fun y => [(y.2.1, y.1.back), (y.2.2, y.1.blocks)]
/-- A row of numbers of type int. -/
def iv (f : Nat → Nat) (n : Nat) : List Value := (List.range n).map fun i => Value.int .i64 (f i : Int)
theorem iv_length (f : Nat → Nat) (n : Nat) : (iv f n).length = n := by simp [iv]
theorem iv_at (f : Nat → Nat) (n i : Nat) (h : i < n) : (iv f n)[i]? = some (.int .i64 (f i : Int)) := by simp [iv, h]
theorem iv_set {f g : Nat → Nat} {n i x : Nat} (h : ∀ j, j < n → g j = if j = i then x else f j) : (iv f n).set i (.int .i64 (x : Int)) = iv g n := by
  apply List.ext_getElem?
  intro j
  by_cases hj : j < n
  · rw [iv_at _ _ _ hj, h j hj]
    by_cases e : j = i
    · subst e
      rw [List.getElem?_set_self (by rw [iv_length]; exact hj), if_pos rfl]
    · rw [List.getElem?_set_ne (by omega), iv_at _ _ _ hj, if_neg e]
  · rw [List.getElem?_eq_none (by simp [iv_length]; omega), List.getElem?_eq_none (by rw [iv_length]; omega)]
theorem iv_zero (n : Nat) : (madeCells (Value.int .i64 0).cells (n * 1)).toList = iv (fun _ => 0) n := by
  rw [made_int n (fun _ => []) []]
  simp [flatTo, iv, List.flatten_replicate_singleton]
  apply List.ext_getElem?
  intro j
  by_cases hj : j < n
  · simp [hj]
  · rw [List.getElem?_eq_none (by simp; omega), List.getElem?_eq_none (by simp; omega)]
/-- The places while the order grows. -/
def plTo (O : List Nat) (k x : Nat) : Nat := if (O.reverse.take k).contains x then plO O x else 0
theorem plTo_zero (O : List Nat) : plTo O 0 = fun _ => 0 := by funext x; simp [plTo]
theorem plTo_all (O : List Nat) (x : Nat) (h : x ∈ O) : plTo O O.length x = plO O x := by
  unfold plTo
  rw [List.take_of_length_le (by simp), if_pos (by simpa using h)]
theorem plTo_next {O : List Nat} (hd : O.Nodup) {k x : Nat} (hx : O.reverse[k]? = some x) (n : Nat) : ∀ j, j < n → plTo O (k + 1) j = if j = x then k else plTo O k j := fun j _ => by
  obtain ⟨hlt, e⟩ := List.getElem?_eq_some_iff.1 hx
  have hd' : O.reverse.Nodup := List.pairwise_reverse.2 (hd.imp Ne.symm)
  have hpx : plO O x = k := by
    have hm : x ∈ O := by rw [← List.mem_reverse, ← e]; exact List.getElem_mem hlt
    have h1 := plO_at hm
    obtain ⟨l1, e1⟩ := List.getElem?_eq_some_iff.1 h1
    exact (List.getElem_inj hd').1 (e1.trans e.symm)
  unfold plTo
  rw [List.take_succ_eq_append_getElem hlt, e]
  by_cases q : j = x
  · subst q
    rw [if_pos (by simp), if_pos rfl, hpx]
  · rw [if_neg q]
    have : (O.reverse.take k ++ [x]).contains j = (O.reverse.take k).contains j := by simp [q]
    rw [this]
theorem infoInt : (Try.prog.info? 3).map (fun i => (i.zero, i.size, i.bytes)) = some (some (.int .i64 0), 1, 8) := by kernel_rfl
theorem infoFl : (Try.prog.info? 36).map (fun i => (i.zero, i.size, i.bytes)) = some (some (.agg #[.int .i64 0, .int .i64 0, .slice none 0 0, .slice none 0 0, .slice none 0 0, .slice none 0 0]), 6, 112) := by kernel_rfl
/-- The rows while the order is told. -/
structure PC (w u : World) (n X gp : Nat) (Vb Vo : Value) (O : List Nat) (k : Nat) : Prop where
  blk : Blk u X #[.int .i64 0, .int .i64 0, Vb, Vo, .slice none 0 0, .slice none 0 0] 36
  place : u.ownsRow w.heap.size 3 1 (.slice (some ⟨gp, 0, none⟩) n n) n (iv (plTo O k) n)
  order : OwN u w.heap.size Vo (O.reverse.take k)
  bel : Below w.heap.size w u
  lt : w.heap.size ≤ X
theorem PC.keep {w u u' : World} {n X gp k : Nat} {Vb Vo : Value} {O : List Nat} (h : PC w u n X gp Vb Vo O k) (hb : Below u.heap.size u u') : PC w u' n X gp Vb Vo O k := ⟨h.blk.keep hb, own_keep h.place hb (Nat.le_refl _), h.order.keep hb, below_on h.bel (Nat.le_refl _) hb, h.lt⟩
/-- The place is told, the order not yet. -/
structure PD (w u : World) (n X gp : Nat) (Vb Vo : Value) (O : List Nat) (k : Nat) : Prop where
  blk : Blk u X #[.int .i64 0, .int .i64 0, Vb, Vo, .slice none 0 0, .slice none 0 0] 36
  place : u.ownsRow w.heap.size 3 1 (.slice (some ⟨gp, 0, none⟩) n n) n (iv (plTo O (k + 1)) n)
  order : OwN u w.heap.size Vo (O.reverse.take k)
  bel : Below w.heap.size w u
  lt : w.heap.size ≤ X
theorem PD.keep {w u u' : World} {n X gp k : Nat} {Vb Vo : Value} {O : List Nat} (h : PD w u n X gp Vb Vo O k) (hb : Below u.heap.size u u') : PD w u' n X gp Vb Vo O k := ⟨h.blk.keep hb, own_keep h.place hb (Nat.le_refl _), h.order.keep hb, below_on h.bel (Nat.le_refl _) hb, h.lt⟩
theorem blk_ne {w : World} {b base k n : Nat} {cur : Array Value} {t e : TypeId} {s : Value} {xs : List Value} (hb : Blk w b cur t) (h : w.ownsRow base e k s n xs) (hne : e ≠ t) : s.ownBlock ≠ some b := fun q => type_apart h hb hne b q rfl
theorem PC.set {w u : World} {n X gp k x : Nat} {Vb Vo : Value} {O : List Nat} (h : PC w u n X gp Vb Vo O k) (hd : O.Nodup) (hx : O.reverse[k]? = some x) : PD w (u.setCell ⟨gp, x, none⟩ (.int .i64 (k : Int))) n X gp Vb Vo O k := by
  refine ⟨h.blk.other (fun e => blk_ne h.blk h.place (by decide) (by rw [e]; rfl)) _, ?_, own_set_ne h.order h.place (by decide) _ _, h.bel.setCell (own_blk h.place).1 _, h.lt⟩
  have := (h.place.stored x (.int .i64 (k : Int))).1
  rw [iv_set (plTo_next hd hx n)] at this
  exact this
theorem PD.al {w u : World} {n X gp k : Nat} {Vb Vo : Value} {O : List Nat} (h : PD w u n X gp Vb Vo O k) : u.ownsRow w.heap.size 2 1 Vo (O.reverse.take k).length (nv (O.reverse.take k)) ∧ w.heap.size ≤ u.heap.size := ⟨h.order, h.bel.size⟩
theorem PD.app {w u u' : World} {n X gp k x : Nat} {Vb Vo V' : Value} {O : List Nat} (h : PD w u n X gp Vb Vo O k) (hx : O.reverse[k]? = some x) (hown : u'.ownsRow w.heap.size 2 1 V' ((O.reverse.take k).length + 1) (nv (O.reverse.take k) ++ [.int .i64 (x : Int)])) (hg : u.grownBy u' Vo.ownBlock) : Blk u' X #[.int .i64 0, .int .i64 0, Vb, Vo, .slice none 0 0, .slice none 0 0] 36 ∧ PC w (u'.setCell ⟨X, 3, none⟩ V') n X gp Vb V' O (k + 1) := by
  have kb := h.blk.grown hg h.order (by decide)
  have kp : u'.ownsRow w.heap.size 3 1 (.slice (some ⟨gp, 0, none⟩) n n) n (iv (plTo O (k + 1)) n) := own_grown h.place hg h.order (by decide)
  have hbel : Below w.heap.size w u' := h.bel.grown hg h.bel.size (fun i hi => (h.order.lt i hi).1)
  refine ⟨kb, ?_, ownsRow_setCell_other kp (a := ⟨X, 3, none⟩) (blk_ne kb kp (by decide)) _, ?_, hbel.setCell h.lt _, h.lt⟩
  · have := kb.set 3 V'
    simpa using this
  · obtain ⟨hlt, e⟩ := List.getElem?_eq_some_iff.1 hx
    unfold OwN
    rw [List.take_succ_eq_append_getElem hlt, e, nv_app, List.length_append, List.length_singleton]
    exact ownsRow_setCell_other hown (a := ⟨X, 3, none⟩) (blk_ne kb hown (by decide)) _
end Go.Proofs.Ytdbaghmjomdmbaa
