import Derived.Test.YtdbaghmjomdmbaaFo6
namespace Go.Proofs.Ytdbaghmjomdmbaa
open Go.ChangeShapes Go.WideShapes Go.ChangeAt Go.RowKit
set_option linter.unusedVariables false
def goesB (x : MI) : Bool := decide (x.op = 25) || decide (x.op = 26) || decide (x.op = 27)
def onB (x : MI) : Bool := decide (¬ x.op = 25) && decide (¬ x.op = 29)
def CodeGood (xs : List MI) : Prop := 1 ≤ xs.length ∧ xs.length ≤ 1024 ∧ ∀ (i : Nat) (x : MI), xs[i]? = some x → goesB x = true → 0 ≤ x.c ∧ x.c < (xs.length : Int)
/-- Does an instruction make j a leader? -/
def leads (x : MI) (i j : Nat) : Bool := (goesB x && decide (x.c = (j : Int))) || ((goesB x || decide (x.op = 29)) && decide (j = i + 1))
/-- Is j a leader by the first k instructions? -/
def leadB (xs : List MI) (k j : Nat) : Bool := decide (j = 0) || (List.range k).any fun i => match xs[i]? with | some x => leads x i j | none => false
theorem leadB_zero (xs : List MI) (k : Nat) : leadB xs k 0 = true := by simp [leadB]
theorem leadB_start (xs : List MI) (j : Nat) : leadB xs 0 j = decide (j = 0) := by simp [leadB]
theorem leadB_succ (xs : List MI) (k j : Nat) (x : MI) (hx : xs[k]? = some x) : leadB xs (k + 1) j = (leadB xs k j || leads x k j) := by
  simp [leadB, List.range_succ, hx, Bool.or_assoc]
theorem leadB_of (xs : List MI) (k i j : Nat) (x : MI) (hi : i < k) (hx : xs[i]? = some x) (h : leads x i j = true) : leadB xs k j = true := by
  simp only [leadB, Bool.or_eq_true, List.any_eq_true, List.mem_range]
  exact .inr ⟨i, hi, by rw [hx]; exact h⟩
/-- The leaders below i. -/
def lds (xs : List MI) (i : Nat) : List Nat := (List.range i).filter (leadB xs xs.length)
theorem lds_succ (xs : List MI) (i : Nat) : lds xs (i + 1) = if leadB xs xs.length i = true then lds xs i ++ [i] else lds xs i := by
  unfold lds
  rw [List.range_succ, List.filter_append]
  by_cases h : leadB xs xs.length i = true
  · simp [h]
  · simp [h]
theorem lds_mem (xs : List MI) (i j : Nat) : j ∈ lds xs i ↔ j < i ∧ leadB xs xs.length j = true := by simp [lds]
theorem lds_sorted (xs : List MI) (i : Nat) : (lds xs i).Pairwise (· < ·) := List.Pairwise.filter _ List.pairwise_lt_range
theorem lds_ne (xs : List MI) (i : Nat) (h : 0 < i) : lds xs i ≠ [] := fun e => by
  have := (lds_mem xs i 0).2 ⟨h, leadB_zero _ _⟩
  rw [e] at this
  cases this
theorem lds_split (xs : List MI) (i n : Nat) (h : i ≤ n) : ∃ r, lds xs n = lds xs i ++ r := by
  induction n with
  | zero =>
    obtain rfl : i = 0 := by omega
    exact ⟨[], by simp⟩
  | succ n ih =>
    by_cases hi : i = n + 1
    · subst hi
      exact ⟨[], by simp⟩
    · obtain ⟨r, hr⟩ := ih (by omega)
      rw [lds_succ, hr]
      split
      · exact ⟨r ++ [n], by simp⟩
      · exact ⟨r, rfl⟩
/-- Where a leader stands among them. -/
theorem lds_idx (xs : List MI) (p n : Nat) (hp : p < n) (hl : leadB xs xs.length p = true) : (lds xs n).idxOf p = (lds xs p).length ∧ (lds xs (p + 1)).length = (lds xs p).length + 1 := by
  have h1 := lds_succ xs p
  rw [if_pos hl] at h1
  obtain ⟨r, hr⟩ := lds_split xs (p + 1) n hp
  refine ⟨?_, by rw [h1]; simp⟩
  rw [hr, h1, List.append_assoc, List.idxOf_append, if_neg (by rw [lds_mem]; omega)]
  simp
theorem lds_inj (xs : List MI) (p q n : Nat) (hp : p < n) (hq : q < n) (hlp : leadB xs xs.length p = true) (hlq : leadB xs xs.length q = true) (h : (lds xs n).idxOf p = (lds xs n).idxOf q) : p = q := by
  have h1 : p ∈ lds xs n := (lds_mem _ _ _).2 ⟨hp, hlp⟩
  have h2 : q ∈ lds xs n := (lds_mem _ _ _).2 ⟨hq, hlq⟩
  have e1 := List.getElem_idxOf (List.idxOf_lt_length_iff.2 h1)
  have e2 := List.getElem_idxOf (List.idxOf_lt_length_iff.2 h2)
  rw [← e1, ← e2]
  congr 1
/-- The last block's end. -/
def setLast (bs : List MB) (i : Int) : List MB := match bs.getLast? with | some b => bs.dropLast ++ [⟨b.first, i, b.next⟩] | none => []
theorem setLast_snoc (bs : List MB) (b : MB) (i : Int) : setLast (bs ++ [b]) i = bs ++ [⟨b.first, i, b.next⟩] := by simp [setLast]
/-- The specification's blocks, as they grow. -/
def outL (xs : List MI) : Nat → List MB
  | 0 => []
  | i + 1 => setLast (if leadB xs xs.length i = true then outL xs i ++ [⟨i, 0, []⟩] else outL xs i) i
def build (L : List Nat) (e : Nat) : List MB := List.zipWith (fun (a b : Nat) => (⟨(a : Int), (b : Int) - 1, []⟩ : MB)) L (L.tail ++ [e])
theorem build_snoc (L : List Nat) (i e : Nat) (h : L ≠ []) : build (L ++ [i]) e = build L i ++ [⟨(i : Int), (e : Int) - 1, []⟩] := by
  unfold build
  rw [List.tail_append_of_ne_nil h, List.append_assoc, show (L.tail ++ ([i] ++ [e])) = (L.tail ++ [i]) ++ [e] by simp, List.zipWith_append (by
    cases L with
    | nil => exact absurd rfl h
    | cons a r => simp)]
  rfl
theorem outL_build (xs : List MI) (i : Nat) : outL xs i = build (lds xs i) i := by
  induction i with
  | zero => rfl
  | succ i ih =>
    simp only [outL]
    rw [lds_succ]
    by_cases h : leadB xs xs.length i = true
    · rw [if_pos h, if_pos h, setLast_snoc]
      by_cases h0 : i = 0
      · subst h0
        simp [outL, lds, build]
      · rw [build_snoc _ _ _ (lds_ne xs i (by omega)), ih]
        simp
    · rw [if_neg h, if_neg h]
      have h0 : 0 < i := by
        cases i with
        | zero => exact absurd (leadB_zero _ _) h
        | succ i => omega
      obtain ⟨M, a, hM⟩ : ∃ M a, lds xs i = M ++ [a] := ⟨_, _, (List.dropLast_concat_getLast (lds_ne xs i h0)).symm⟩
      rw [ih, hM]
      cases M with
      | nil => simp [build, setLast]
      | cons m M =>
        rw [build_snoc _ _ _ (by simp), build_snoc _ _ _ (by simp), setLast_snoc]
        simp
theorem build_length (L : List Nat) (e : Nat) : (build L e).length = L.length := by
  unfold build
  cases L with
  | nil => rfl
  | cons a r => simp
theorem outL_length (xs : List MI) (i : Nat) : (outL xs i).length = (lds xs i).length := by rw [outL_build, build_length]
/-- The number of the block of an instruction. -/
def numAt (xs : List MI) (i : Nat) : Int := ((lds xs (i + 1)).length : Int) - 1
theorem numAt_lead (xs : List MI) (p n : Nat) (hp : p < n) (hl : leadB xs xs.length p = true) : numAt xs p = ((lds xs n).idxOf p : Int) := by
  have := lds_idx xs p n hp hl
  unfold numAt
  omega
theorem numAt_eq (xs : List MI) (p q n : Nat) (hp : p < n) (hq : q < n) (hlp : leadB xs xs.length p = true) (hlq : leadB xs xs.length q = true) : numAt xs p = numAt xs q ↔ p = q := by
  rw [numAt_lead xs p n hp hlp, numAt_lead xs q n hq hlq]
  exact ⟨fun h => lds_inj xs p q n hp hq hlp hlq (by omega), fun h => by rw [h]⟩
/-- The places to which one can go from e. -/
def placesL (xs : List MI) (x : MI) (e : Nat) : List Int :=
  (if onB x = true ∧ e + 1 < xs.length then [((e + 1 : Nat) : Int)] else []) ++ (if goesB x = true ∧ ¬ (onB x = true ∧ e + 1 < xs.length ∧ x.c = ((e + 1 : Nat) : Int)) then [x.c] else [])
/-- As the specification writes them: by numbers. -/
def nextS (xs : List MI) (x : MI) (e : Nat) : List Int :=
  let n1 := if onB x = true ∧ e + 1 < xs.length then [numAt xs (e + 1)] else []
  n1 ++ (if goesB x = true ∧ (n1 = [] ∨ ¬ n1 = [numAt xs x.c.toNat]) then [numAt xs x.c.toNat] else [])
/-- The leaders' blocks end ahead of a leader. -/
theorem end_lead (L : List Nat) (n b e : Nat) (m : MB) (h : (build L n)[b]? = some m) (he : m.last = (e : Int)) (hn : e + 1 < n) : e + 1 ∈ L := by
  unfold build at h
  rw [List.getElem?_zipWith] at h
  cases h1 : L[b]? with
  | none => rw [h1] at h; simp at h
  | some a =>
    cases h2 : (L.tail ++ [n])[b]? with
    | none => rw [h1, h2] at h; simp at h
    | some q =>
      rw [h1, h2] at h
      simp only [Option.some.injEq] at h
      subst h
      simp only [] at he
      have hq : q = e + 1 := by omega
      subst hq
      have := List.mem_of_getElem? h2
      rcases List.mem_append.1 this with h3 | h3
      · exact List.mem_of_mem_tail h3
      · simp at h3
        omega
/-- By numbers, or by places: one and the same. -/
theorem next_same (xs : List MI) (b e : Nat) (x : MI) (m : MB) (hg : CodeGood xs) (hb : (outL xs xs.length)[b]? = some m) (he : m.last = (e : Int)) (hx : xs[e]? = some x) : nextS xs x e = (placesL xs x e).map fun p => ((lds xs xs.length).idxOf p.toNat : Int) := by
  have hen : e < xs.length := (List.getElem?_eq_some_iff.1 hx).1
  rw [outL_build] at hb
  have hl1 : e + 1 < xs.length → leadB xs xs.length (e + 1) = true := fun h => ((lds_mem _ _ _).1 (end_lead _ _ _ _ _ hb he h)).2
  have hl2 : goesB x = true → x.c.toNat < xs.length ∧ leadB xs xs.length x.c.toNat = true ∧ (x.c.toNat : Int) = x.c := fun h => by
    obtain ⟨h1, h2⟩ := hg.2.2 e x hx h
    have h3 : (x.c.toNat : Int) = x.c := Int.toNat_of_nonneg h1
    exact ⟨by omega, leadB_of xs _ e _ x hen hx (by simp [leads, h, h3]), h3⟩
  unfold nextS placesL
  by_cases h1 : onB x = true ∧ e + 1 < xs.length
  · have n1 := numAt_lead xs (e + 1) xs.length h1.2 (hl1 h1.2)
    simp only [if_pos h1]
    by_cases h2 : goesB x = true
    · obtain ⟨c1, c2, c3⟩ := hl2 h2
      have n2 := numAt_lead xs x.c.toNat xs.length c1 c2
      have n3 := numAt_eq xs (e + 1) x.c.toNat xs.length h1.2 c1 (hl1 h1.2) c2
      by_cases h3 : x.c = ((e + 1 : Nat) : Int)
      · have k1 : ¬ (goesB x = true ∧ ([numAt xs (e + 1)] = [] ∨ ¬ [numAt xs (e + 1)] = [numAt xs x.c.toNat])) := fun h => h.2.elim (fun q => by cases q) (fun q => q (by rw [n3.2 (by omega)]))
        simp only [if_neg k1]
        rw [if_neg (fun h => h.2 ⟨h1.1, h1.2, h3⟩)]
        simp [n1]
      · have k1 : (goesB x = true ∧ ([numAt xs (e + 1)] = [] ∨ ¬ [numAt xs (e + 1)] = [numAt xs x.c.toNat])) := ⟨h2, .inr (fun q => h3 (by have := n3.1 (by simpa using q); omega))⟩
        simp only [if_pos k1]
        rw [if_pos ⟨h2, fun h => h3 h.2.2⟩]
        simp [n1, n2]
    · simp only [h2, false_and, if_false, Bool.false_eq_true]
      simp [n1]
  · simp only [if_neg h1]
    by_cases h2 : goesB x = true
    · obtain ⟨c1, c2, c3⟩ := hl2 h2
      have n2 := numAt_lead xs x.c.toNat xs.length c1 c2
      have k1 : (goesB x = true ∧ (True ∨ ¬ ([] : List Int) = [numAt xs x.c.toNat])) := ⟨h2, .inl trivial⟩
      rw [if_pos k1, if_pos ⟨h2, fun h => h1 ⟨h.1, h.2.1⟩⟩]
      simp [n2]
    · simp only [h2, false_and, if_false, Bool.false_eq_true]
      rfl
end Go.Proofs.Ytdbaghmjomdmbaa
