import Derived.Test.YtifpjgdnikkekaaGreatSh33
namespace Go.Proofs.YtifpjgdnikkekaaGreat
open Go.ChangeShapes Go.WideShapes Go.ChangeAt Go.RowKit
set_option linter.unusedVariables false
section
variable {E : Nat → List Nat} {D : Nat → Nat → Bool} {n h b k y : Nat}
def backP (E : Nat → List Nat) (D : Nat → Nat → Bool) (h b k : Nat) : List Nat := (((E b).take k).filter fun x => decide (x = h) && D h b).map fun _ => b
theorem backL_succ (E : Nat → List Nat) (D : Nat → Nat → Bool) (b h : Nat) : backL E D (b + 1) h = backL E D b h ++ backP E D h b (E b).length := by
  unfold backL backP
  rw [List.range_succ, List.flatMap_append]
  simp
theorem backP_zero (E : Nat → List Nat) (D : Nat → Nat → Bool) (h b : Nat) : backP E D h b 0 = [] := by simp [backP]
theorem backP_yes (hy : (E b)[k]? = some h) (hD : D h b = true) : backP E D h b (k + 1) = backP E D h b k ++ [b] := by
  obtain ⟨hl, e⟩ := List.getElem?_eq_some_iff.1 hy
  unfold backP
  rw [List.take_succ_eq_append_getElem hl, List.filter_append, List.map_append, e]
  simp [hD]
theorem backP_no (hy : (E b)[k]? = some y) (hn : ¬ (y = h ∧ D h b = true)) : backP E D h b (k + 1) = backP E D h b k := by
  obtain ⟨hl, e⟩ := List.getElem?_eq_some_iff.1 hy
  unfold backP
  rw [List.take_succ_eq_append_getElem hl, List.filter_append, List.map_append, e]
  have : (decide (y = h) && D h b) = false := by
    cases q : D h b with
    | false => simp
    | true => simp; exact fun e => hn ⟨e, q⟩
  simp [this]
theorem backP_len (E : Nat → List Nat) (D : Nat → Nat → Bool) (h b k : Nat) : (backP E D h b k).length ≤ (E b).length := by
  unfold backP
  rw [List.length_map]
  refine Nat.le_trans (List.length_filter_le _ _) ?_
  rw [List.length_take]
  omega
theorem backL_len (hsz : ∀ b, (E b).length ≤ 2) (D : Nat → Nat → Bool) (h b : Nat) : (backL E D b h).length ≤ 2 * b := by
  induction b with
  | zero => simp [backL]
  | succ b ih =>
    have h1 := backP_len E D h b (E b).length
    have h2 := hsz b
    rw [backL_succ, List.length_append]
    omega
/-- The blocks from which the loop is gone through. -/
def Src (E : Nat → List Nat) (D : Nat → Nat → Bool) (n h x : Nat) : Prop := ∃ t ∈ backL E D n h, Rch (fromL E n) (· ≠ h) t x
structure Col (E : Nat → List Nat) (D : Nat → Nat → Bool) (n h : Nat) (L : List Nat) : Prop where
  nodup : L.Nodup
  ne : ∀ x ∈ L, x ≠ h
  lt : ∀ x ∈ L, x < n
  src : ∀ x ∈ L, Src E D n h x
theorem Col.len {L : List Nat} (h' : Col E D n h L) : L.length ≤ n := by
  have := nodup_le L n h'.lt h'.nodup
  omega
theorem Col.nil : Col E D n h [] := ⟨List.nodup_nil, fun _ q => (by cases q), fun _ q => (by cases q), fun _ q => (by cases q)⟩
theorem Col.add {L : List Nat} (h' : Col E D n h L) (hne : y ≠ h) (hlt : y < n) (hs : Src E D n h y) (hL : y ∉ L) : Col E D n h (L ++ [y]) := by
  have hm : ∀ x, x ∈ L ++ [y] → x ∈ L ∨ x = y := fun x hx => by simpa using hx
  refine ⟨List.nodup_append.2 ⟨h'.nodup, by simp, fun a ha c hc e => ?_⟩, fun x hx => ?_, fun x hx => ?_, fun x hx => ?_⟩
  · simp only [List.mem_cons, List.not_mem_nil, or_false] at hc
    subst hc e
    exact hL ha
  · rcases hm x hx with q | rfl
    · exact h'.ne x q
    · exact hne
  · rcases hm x hx with q | rfl
    · exact h'.lt x q
    · exact hlt
  · rcases hm x hx with q | rfl
    · exact h'.src x q
    · exact hs
/-- All of these were taken. -/
def Has (h : Nat) (L B : List Nat) : Prop := ∀ x ∈ B, x = h ∨ x ∈ L
theorem Has.app {L B : List Nat} (h' : Has h L B) (z : Nat) : Has h (L ++ [z]) B := fun x hx => (h' x hx).imp id fun q => List.mem_append.2 (.inl q)
theorem Has.next {L L' B : List Nat} (h' : Has h L (B.take k)) (hs : ∀ x ∈ L, x ∈ L') (hy : B[k]? = some y) (hL : y = h ∨ y ∈ L') : Has h L' (B.take (k + 1)) := fun z hz => by
  obtain ⟨hlt, rfl⟩ := List.getElem?_eq_some_iff.1 hy
  rw [List.take_succ_eq_append_getElem hlt] at hz
  rcases List.mem_append.1 hz with hz | hz
  · exact (h' z hz).imp id (hs z)
  · simp only [List.mem_cons, List.not_mem_nil, or_false] at hz
    subst hz
    exact hL
/-- From the first i of them all was taken backwards. -/
def Bwd (E : Nat → List Nat) (n h : Nat) (L : List Nat) (i : Nat) : Prop := ∀ j x, L[j]? = some x → j < i → ∀ y, y < n → x ∈ E y → y = h ∨ y ∈ L
def BwdB (E : Nat → List Nat) (h : Nat) (L : List Nat) (x b : Nat) : Prop := ∀ y, y < b → x ∈ E y → y = h ∨ y ∈ L
theorem Bwd.app {L : List Nat} {i : Nat} (h' : Bwd E n h L i) (hi : i ≤ L.length) (z : Nat) : Bwd E n h (L ++ [z]) i := fun j x hj hl y hy hx => by
  rw [List.getElem?_append_left (by omega)] at hj
  exact (h' j x hj hl y hy hx).imp id fun q => List.mem_append.2 (.inl q)
theorem BwdB.app {L : List Nat} {x : Nat} (h' : BwdB E h L x b) (z : Nat) : BwdB E h (L ++ [z]) x b := fun y hy hx => (h' y hy hx).imp id fun q => List.mem_append.2 (.inl q)
theorem BwdB.next {L : List Nat} {x : Nat} (h' : BwdB E h L x b) (hb : x ∈ E b → b = h ∨ b ∈ L) : BwdB E h L x (b + 1) := fun y hy hx => by
  by_cases e : y = b
  · subst e; exact hb hx
  · exact h' y (by omega) hx
theorem Bwd.next {L : List Nat} {i x : Nat} (h' : Bwd E n h L i) (hx : L[i]? = some x) (hb : BwdB E h L x n) : Bwd E n h L (i + 1) := fun j z hj hl y hy hz => by
  by_cases e : j = i
  · subst e
    rw [hx] at hj
    cases hj
    exact hb y hy hz
  · exact h' j z hj (by omega) y hy hz
theorem Col.step {L : List Nat} (h' : Col E D n h L) {x : Nat} (hx : x ∈ L) (hb : b < n) (he : x ∈ E b) (hne : b ≠ h) : Src E D n h b := by
  obtain ⟨t, h1, h2⟩ := h'.src x hx
  exact ⟨t, h1, .step h2 ((fromL_mem E n x b).2 ⟨hb, he⟩) hne⟩
theorem Col.iff {L : List Nat} (h' : Col E D n h L) (hB : Has h L (backL E D n h)) (hc : Bwd E n h L L.length) (x : Nat) : (h :: L).contains x = true ↔ InLoop E D n h x := by
  simp only [List.contains_eq_mem, decide_eq_true_eq, List.mem_cons]
  unfold InLoop
  refine or_congr_right ⟨h'.src x, ?_⟩
  rintro ⟨t, h1, h2⟩
  induction h2 with
  | here q => exact (hB t h1).resolve_left q
  | step _ q2 q3 ih =>
    obtain ⟨j, hj⟩ := List.getElem?_of_mem ih
    obtain ⟨q4, q5⟩ := (fromL_mem E n _ _).1 q2
    exact (hc j _ hj (List.getElem?_eq_some_iff.1 hj).1 _ q4 q5).resolve_left q3
end
theorem cons_set (h : Nat) (L : List Nat) (y n : Nat) : ∀ j, j < n → (h :: (L ++ [y])).contains j = if j = y then true else (h :: L).contains j := fun j _ => by
  by_cases e : j = y
  · subst e; simp
  · simp [e]
def nilV : Value := .slice none 0 0
theorem infoLp : (Tryz.prog.info? 53).map (fun i => (i.zero, i.size, i.bytes)) = some (some (.agg #[.int .i64 0, .slice none 0 0, .slice none 0 0]), 3, 56) := by kernel_rfl
/-- The first rows of a loop. -/
structure L1 (w u : World) (n h bl gi : Nat) (BV : Value) (B : List Nat) : Prop where
  res : Blk u w.heap.size #[.int .i64 0, .slice none 0 0, .slice none 0 0] 53
  blk : Blk u bl #[.int .i64 (h : Int), BV, .slice none 0 0] 53
  inn : OwB u w.heap.size gi n (fun x => [h].contains x)
  back : OwN u w.heap.size BV B
  bel : Below w.heap.size w u
  lt : w.heap.size < bl
theorem L1.al {w u : World} {n h bl gi : Nat} {BV : Value} {B : List Nat} (l : L1 w u n h bl gi BV B) (o : Obj) : (u.alloc o).ownsRow w.heap.size 2 1 BV B.length (nv B) ∧ w.heap.size ≤ (u.alloc o).heap.size := ⟨l.back.keep (below_alloc _ _), Nat.le_trans l.bel.size (below_alloc _ _).size⟩
theorem L1.app {w u u' : World} {n h bl gi : Nat} {BV V' : Value} {B : List Nat} {y : Nat} (l : L1 w u n h bl gi BV B) (hown : u'.ownsRow w.heap.size 2 1 V' (B.length + 1) (nv B ++ [.int .i64 (y : Int)])) (hg : (u.alloc (.cells #[.int .i64 (y : Int)] 2)).grownBy u' BV.ownBlock) : Blk u' bl #[.int .i64 (h : Int), BV, .slice none 0 0] 53 ∧ L1 w (u'.setCell ⟨bl, 1, none⟩ V') n h bl gi V' (B ++ [y]) := by
  have bA := below_alloc u (.cells #[.int .i64 (y : Int)] 2)
  have o1 := l.back.keep bA
  have kb : Blk u' bl #[.int .i64 (h : Int), BV, .slice none 0 0] 53 := (l.blk.keep bA).grown hg o1 (by decide)
  have kr := (l.res.keep bA).grown hg o1 (by decide)
  have ki : OwB u' w.heap.size gi n (fun x => [h].contains x) := own_grown (l.inn.keep bA) hg o1 (by decide)
  have hbel : Below w.heap.size w u' := (below_on l.bel (Nat.le_refl _) bA).grown hg (Nat.le_trans l.bel.size bA.size) (fun i hi => (l.back.lt i hi).1)
  refine ⟨kb, kr.other (by have := l.lt; simp only []; omega) _, ?_, ?_, ?_, hbel.setCell (Nat.le_of_lt l.lt) _, l.lt⟩
  · have := kb.set 1 V'
    simpa using this
  · refine ki.other fun e => ?_
    obtain ⟨_, cur, h1⟩ := own_blk ki
    subst e
    unfold Blk at kb
    rw [kb] at h1
    simp only [Option.some.injEq, Obj.cells.injEq] at h1
    exact absurd h1.2.1 (by decide)
  · unfold OwN
    rw [List.length_append, List.length_singleton, nv_app]
    refine ownsRow_setCell_other hown (a := ⟨bl, 1, none⟩) (fun q => ?_) _
    rcases hown.2 with ⟨rfl, _⟩ | ⟨g', cap', cur', rfl, _, hg', _⟩
    · cases q
    · simp only [Value.ownBlock, Option.some.injEq] at q
      subst q
      unfold Blk at kb
      rw [kb] at hg'
      simp only [Option.some.injEq, Obj.cells.injEq] at hg'
      exact absurd hg'.2.1 (by decide)
theorem L1.keep {w u : World} {n h bl gi : Nat} {BV : Value} {B : List Nat} (l : L1 w u n h bl gi BV B) {u' : World} (hb : Below u.heap.size u u') : L1 w u' n h bl gi BV B := ⟨l.res.keep hb, l.blk.keep hb, l.inn.keep hb, l.back.keep hb, below_on l.bel (Nat.le_refl _) hb, l.lt⟩
/-- The rows while blocks are gathered: but for in, all is as it was. -/
structure L2 (w w1 u : World) (n gi : Nat) (P : Nat → Bool) (LV : Value) (L : List Nat) : Prop where
  inn : OwB u w.heap.size gi n P
  list : OwN u w1.heap.size LV L
  fx : ∀ k, k < w1.heap.size → k ≠ gi → u.heap[k]? = w1.heap[k]?
  bel : Below w.heap.size w u
  size : w1.heap.size ≤ u.heap.size
  glt : gi < w1.heap.size
theorem L2.mark {w w1 u : World} {n gi : Nat} {P Q : Nat → Bool} {LV : Value} {L : List Nat} (l : L2 w w1 u n gi P LV L) (i : Nat) (b : Bool) (hQ : ∀ j, j < n → Q j = if j = i then b else P j) : L2 w w1 (u.setCell ⟨gi, i, none⟩ (.bool b)) n gi Q LV L := ⟨l.inn.set i b hQ, own_set_ne l.list l.inn (by decide) i _, fun k hk hne => by rw [heap_setCell_other u _ k _ hne]; exact l.fx k hk hne, l.bel.setCell (own_blk l.inn).1 _, by rw [World.size_setCell]; exact l.size, l.glt⟩
theorem L2.al {w w1 u : World} {n gi : Nat} {P : Nat → Bool} {LV : Value} {L : List Nat} (l : L2 w w1 u n gi P LV L) (o : Obj) : (u.alloc o).ownsRow w1.heap.size 2 1 LV L.length (nv L) ∧ w1.heap.size ≤ (u.alloc o).heap.size := ⟨l.list.keep (below_alloc _ _), Nat.le_trans l.size (below_alloc _ _).size⟩
theorem L2.keep {w w1 u u' : World} {n gi : Nat} {P : Nat → Bool} {LV : Value} {L : List Nat} (l : L2 w w1 u n gi P LV L) (hb : Below u.heap.size u u') : L2 w w1 u' n gi P LV L := ⟨l.inn.keep hb, l.list.keep hb, fun k hk hne => by rw [hb.block k (Nat.lt_of_lt_of_le hk l.size)]; exact l.fx k hk hne, below_on l.bel (Nat.le_refl _) hb, Nat.le_trans l.size hb.size, l.glt⟩
theorem L2.app {w w1 u u' : World} {n gi : Nat} {P : Nat → Bool} {LV V' : Value} {L : List Nat} {y : Nat} (l : L2 w w1 u n gi P LV L) (hw : w.heap.size ≤ w1.heap.size) (hown : u'.ownsRow w1.heap.size 2 1 V' (L.length + 1) (nv L ++ [.int .i64 (y : Int)])) (hg : (u.alloc (.cells #[.int .i64 (y : Int)] 2)).grownBy u' LV.ownBlock) : L2 w w1 u' n gi P V' (L ++ [y]) := by
  have bA := below_alloc u (.cells #[.int .i64 (y : Int)] 2)
  have o1 := l.list.keep bA
  refine ⟨own_grown (l.inn.keep bA) hg o1 (by decide), ?_, fun k hk hne => ?_, (below_on l.bel (Nat.le_refl _) bA).grown hg (Nat.le_trans l.bel.size bA.size) (fun i hi => Nat.le_trans hw (l.list.lt i hi).1), Nat.le_trans l.size (Nat.le_trans bA.size hg.size), l.glt⟩
  · unfold OwN
    rw [List.length_append, List.length_singleton, nv_app]
    exact hown
  · rw [hg.block k (Nat.lt_of_lt_of_le hk (Nat.le_trans l.size bA.size)) (fun e => by have := (l.list.lt k e.symm).1; omega), bA.block k (Nat.lt_of_lt_of_le hk l.size)]
    exact l.fx k hk hne
theorem L2.blk {w w1 u : World} {n gi : Nat} {P : Nat → Bool} {LV : Value} {L : List Nat} (l : L2 w w1 u n gi P LV L) {b : Nat} {cur : Array Value} {t : TypeId} (hb : Blk w1 b cur t) (hne : b ≠ gi) : Blk u b cur t := by
  unfold Blk at *
  rw [l.fx b (Array.getElem?_eq_some_iff.1 hb).1 hne]
  exact hb
theorem L2.cell {w w1 u : World} {n gi : Nat} {P : Nat → Bool} {LV : Value} {L : List Nat} (l : L2 w w1 u n gi P LV L) {a : Addr} {x : Value} (hb : w1.cell? a = some x) (hne : a.block ≠ gi) : u.cell? a = some x := by
  have := l.fx a.block (block_lt_of_cell hb) hne
  unfold World.cell? at *
  rw [this]
  exact hb
theorem OwN.fx {w1 u : World} {base x : Nat} {s : Value} {l : List Nat} (h : OwN w1 base s l) (hf : ∀ k, k < w1.heap.size → k ≠ x → u.heap[k]? = w1.heap[k]?) (hx : ∀ g, s.ownBlock = some g → g ≠ x) : OwN u base s l := by
  refine ⟨h.1, ?_⟩
  rcases h.2 with h | ⟨g, cap, cur, rfl, hb1, hgg, hr⟩
  · exact .inl h
  · refine .inr ⟨g, cap, cur, rfl, hb1, ?_, hr⟩
    rw [hf g (Array.getElem?_eq_some_iff.1 hgg).1 (hx g rfl)]
    exact hgg
theorem OwN.ne_blk {w : World} {base b : Nat} {s : Value} {l : List Nat} {cur : Array Value} {t : TypeId} (h : OwN w base s l) (hb : Blk w b cur t) (hne : 2 ≠ t) : ∀ g, s.ownBlock = some g → g ≠ b := type_apart h hb hne
theorem OwB.congr {w : World} {base g n : Nat} {P Q : Nat → Bool} (h : OwB w base g n P) (hQ : ∀ i, i < n → P i = Q i) : OwB w base g n Q := by
  unfold OwB at *
  rw [bv_congr hQ] at h
  exact h
/-- The rows while the blocks of a loop are told: but for the loop's own block, all is as it was. -/
structure L4 (w w2 u : World) (n h bl gi : Nat) (BV KV : Value) (K : List Nat) (P : Nat → Bool) : Prop where
  res : Blk u w.heap.size #[.int .i64 0, .slice none 0 0, .slice none 0 0] 53
  blk : Blk u bl #[.int .i64 (h : Int), BV, KV] 53
  inn : OwB u w.heap.size gi n P
  row : OwN u w2.heap.size KV K
  fx : ∀ k, k < w2.heap.size → k ≠ bl → u.heap[k]? = w2.heap[k]?
  bel : Below w.heap.size w u
  size : w2.heap.size ≤ u.heap.size
  blt : bl < w2.heap.size
theorem L4.al {w w2 u : World} {n h bl gi : Nat} {BV KV : Value} {K : List Nat} {P : Nat → Bool} (l : L4 w w2 u n h bl gi BV KV K P) (o : Obj) : (u.alloc o).ownsRow w2.heap.size 2 1 KV K.length (nv K) ∧ w2.heap.size ≤ (u.alloc o).heap.size := ⟨l.row.keep (below_alloc _ _), Nat.le_trans l.size (below_alloc _ _).size⟩
theorem L4.app {w w2 u u' : World} {n h bl gi : Nat} {BV KV V' : Value} {K : List Nat} {P : Nat → Bool} {y : Nat} (l : L4 w w2 u n h bl gi BV KV K P) (hw : w.heap.size < bl) (hown : u'.ownsRow w2.heap.size 2 1 V' (K.length + 1) (nv K ++ [.int .i64 (y : Int)])) (hg : (u.alloc (.cells #[.int .i64 (y : Int)] 2)).grownBy u' KV.ownBlock) : Blk u' bl #[.int .i64 (h : Int), BV, KV] 53 ∧ L4 w w2 (u'.setCell ⟨bl, 2, none⟩ V') n h bl gi BV V' (K ++ [y]) P := by
  have bA := below_alloc u (.cells #[.int .i64 (y : Int)] 2)
  have o1 := l.row.keep bA
  have kb : Blk u' bl #[.int .i64 (h : Int), BV, KV] 53 := (l.blk.keep bA).grown hg o1 (by decide)
  have kr := (l.res.keep bA).grown hg o1 (by decide)
  have ki : OwB u' w.heap.size gi n P := own_grown (l.inn.keep bA) hg o1 (by decide)
  have hlow : w.heap.size ≤ w2.heap.size := by have := l.blt; omega
  have hbel : Below w.heap.size w u' := (below_on l.bel (Nat.le_refl _) bA).grown hg (Nat.le_trans l.bel.size bA.size) (fun i hi => Nat.le_trans hlow (l.row.lt i hi).1)
  refine ⟨kb, kr.other (by simp only []; omega) _, ?_, ?_, ?_, fun k hk hne => ?_, hbel.setCell (Nat.le_of_lt hw) _, ?_, l.blt⟩
  · have := kb.set 2 V'
    simpa using this
  · refine ki.other fun e => ?_
    obtain ⟨_, cur, h1⟩ := own_blk ki
    subst e
    unfold Blk at kb
    rw [kb] at h1
    simp only [Option.some.injEq, Obj.cells.injEq] at h1
    exact absurd h1.2.1 (by decide)
  · unfold OwN
    rw [List.length_append, List.length_singleton, nv_app]
    refine ownsRow_setCell_other hown (a := ⟨bl, 2, none⟩) (fun q => ?_) _
    have := (hown.lt bl q).1
    have := l.blt
    omega
  · rw [heap_setCell_other u' _ k _ hne, hg.block k (Nat.lt_of_lt_of_le hk (Nat.le_trans l.size bA.size)) (fun e => by have := (l.row.lt k e.symm).1; omega), bA.block k (Nat.lt_of_lt_of_le hk l.size)]
    exact l.fx k hk hne
  · rw [World.size_setCell]
    exact Nat.le_trans l.size (Nat.le_trans bA.size hg.size)
end Go.Proofs.YtifpjgdnikkekaaGreat
