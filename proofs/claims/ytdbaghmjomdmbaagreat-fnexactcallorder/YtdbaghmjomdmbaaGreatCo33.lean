import Derived.Test.YtdbaghmjomdmbaaGreatCo32
namespace Go.Proofs.YtdbaghmjomdmbaaGreat
open Go.ChangeShapes Go.WideShapes Go.ChangeAt Go.RowKit
set_option linter.unusedVariables false
/-- Whom function i still waits for. -/
def restHas (fs : List MF) (zs : List Int) (i : Nat) (z : Int) : Bool := match fs[i]? with | some f => (f.code.any fun x => decide (x.op = 28) && decide (x.a = z)) && !zs.contains z | none => false
def readyE (fs : List MF) (zs : List Int) (z : Int) : Bool := match fs[z.toNat]? with | some f => (callsOf f).all fun a => zs.contains a | none => false
theorem rest_none {fs : List MF} {zs : List Int} {i : Nat} (hi : i < fs.length) : (∀ z, restHas fs zs i z = false) ↔ readyE fs zs (i : Int) = true := by
  unfold restHas readyE
  rw [Int.toNat_natCast, List.getElem?_eq_getElem hi]
  simp only [List.all_eq_true]
  constructor
  · intro h a ha
    unfold callsOf at ha
    obtain ⟨x, hx, rfl⟩ := List.mem_map.1 ha
    obtain ⟨h1, h2⟩ := List.mem_filter.1 hx
    have := h x.a
    have hany : (fs[i].code.any fun y => decide (y.op = 28) && decide (y.a = x.a)) = true := List.any_eq_true.2 ⟨x, h1, by simpa using h2⟩
    rw [hany] at this
    simpa using this
  · intro h z
    cases hz : zs.contains z with
    | true => simp
    | false =>
      simp only [Bool.not_false, Bool.and_true]
      rw [List.any_eq_false]
      intro x hx hc
      simp only [Bool.and_eq_true, decide_eq_true_eq] at hc
      have := h x.a (List.mem_map.2 ⟨x, List.mem_filter.2 ⟨hx, by simpa using hc.1⟩, rfl⟩)
      rw [hc.2, hz] at this
      cases this
theorem ready_E {fs : List MF} {zs : List Int} {i : Nat} : readyB fs zs i = (!zs.contains (i : Int) && readyE fs zs (i : Int)) := by
  unfold readyB readyE
  rw [Int.toNat_natCast]
  rfl
structure SetsAt (u : World) (fs : List MF) (base mb k : Nat) (Bk : Nat → Nat) (live : Nat → Bool) (dn : Nat → List Int) : Prop where
  set : ∀ i, i < k → live i = true → ∃ cn D, cn ≤ 1048576 ∧ SetAt u (Bk i) cn D ∧ ∀ z, Go.Maps.has D (.int .i64 z) = restHas fs (dn i) i z
  inj : ∀ i j, i < k → j < k → Bk i = Bk j → i = j
  ne : ∀ i, i < k → base ≤ Bk i ∧ Bk i ≠ mb
structure MapAt (u : World) (mb cnt k : Nat) (Bk : Nat → Nat) (zs : List Int) (W : DataW Unit) : Prop where
  own : u.ownsMap Tryz.prog 2 mapElem mb cnt W
  has : ∀ z, Go.Maps.has W (.int .i64 z) = (decide (0 ≤ z ∧ z < (k : Int)) && !zs.contains z)
  at_ : ∀ i, i < k → zs.contains (i : Int) = false → ∀ zd, W.atKey (.int .i64 (i : Int)) zd = .lit (.int .i64 (Bk i : Int))
  size : Go.Maps.size W + zs.length = k
theorem litk (z : Int) : WideAt.IsKeyLit (Lit.int .i64 z) := trivial
theorem MapAt.start {u : World} {mb : Nat} {Bk : Nat → Nat} (h : u.ownsMap Tryz.prog 2 mapElem mb 0 (.map [])) : MapAt u mb 0 0 Bk [] (.map []) := ⟨h, fun z => by
  have : ¬ (0 ≤ z ∧ z < ((0 : Nat) : Int)) := by omega
  simp only [this, decide_false, Bool.false_and]
  rfl, fun i hi => absurd hi (Nat.not_lt_zero _), rfl⟩
theorem SetsAt.start {u : World} {fs : List MF} {base mb : Nat} {Bk : Nat → Nat} {live : Nat → Bool} {dn : Nat → List Int} : SetsAt u fs base mb 0 Bk live dn := ⟨fun i hi => absurd hi (Nat.not_lt_zero _), fun i j hi => absurd hi (Nat.not_lt_zero _), fun i hi => absurd hi (Nat.not_lt_zero _)⟩
theorem MapAt.put {u u' : World} {mb k c : Nat} {Bk : Nat → Nat} {W : DataW Unit} (h : MapAt u mb k k Bk [] W) (ho : u'.ownsMap Tryz.prog 2 mapElem mb (k + 1) (W.put (.int .i64 (k : Int)) (.lit (.int .i64 (c : Int))))) : MapAt u' mb (k + 1) (k + 1) (fun i => if i = k then c else Bk i) [] (W.put (.int .i64 (k : Int)) (.lit (.int .i64 (c : Int)))) := by
  refine ⟨ho, fun z => ?_, fun i hi _ zd => ?_, ?_⟩
  · rw [has_putC W (World.ownsMap.isMap h.own), h.has z]
    simp only [List.contains_nil, Bool.not_false, Bool.and_true]
    by_cases e : (k : Int) = z
    · subst e
      have : (0 ≤ (k : Int) ∧ (k : Int) < ((k + 1 : Nat) : Int)) := by omega
      simp only [this, decide_true, Bool.or_true, and_self]
    · by_cases e2 : 0 ≤ z ∧ z < (k : Int)
      · have : (0 ≤ z ∧ z < ((k + 1 : Nat) : Int)) := by omega
        simp only [e2, this, decide_true, Bool.true_or, and_self]
      · have : ¬ (0 ≤ z ∧ z < ((k + 1 : Nat) : Int)) := by omega
        simp only [e2, this, e, decide_false, Bool.or_false]
  · by_cases e : i = k
    · subst e
      rw [Go.Maps.atKey_put_same (World.ownsMap.isMap h.own) (litk _)]
      simp
    · rw [Go.Maps.atKey_put_other (fun q => e (by injection q with _ q; omega)), h.at_ i (by omega) rfl]
      simp [e]
  · rw [Go.Maps.size_put (World.ownsMap.tidy h.own law64), h.has]
    have : ¬ (0 ≤ (k : Int) ∧ (k : Int) < (k : Int)) := by omega
    have hs := h.size
    simp only [this, decide_false, Bool.false_and, List.length_nil, Nat.add_zero] at hs ⊢
    simp [hs]
theorem SetsAt.put {u u' : World} {fs : List MF} {base mb k c : Nat} {Bk : Nat → Nat} {live : Nat → Bool} {dn : Nat → List Int} (h : SetsAt u fs base mb k Bk live dn) (hk : ∀ i, i < k → ∀ cn D, SetAt u (Bk i) cn D → SetAt u' (Bk i) cn D) (hlt : ∀ i, i < k → Bk i ≠ c) (hc : base ≤ c ∧ c ≠ mb) (hn : ∃ cn D, cn ≤ 1048576 ∧ SetAt u' c cn D ∧ ∀ z, Go.Maps.has D (.int .i64 z) = restHas fs (dn k) k z) : SetsAt u' fs base mb (k + 1) (fun i => if i = k then c else Bk i) live dn := by
  refine ⟨fun i hi hl => ?_, fun i j hi hj e => ?_, fun i hi => ?_⟩
  · by_cases e : i = k
    · subst e
      simpa using hn
    · obtain ⟨cn, D, h1, h2, h3⟩ := h.set i (by omega) hl
      simp only [e, if_false]
      exact ⟨cn, D, h1, hk i (by omega) _ _ h2, h3⟩
  · by_cases e1 : i = k
    · by_cases e2 : j = k
      · omega
      · simp only [e1, e2, if_true, if_false] at e
        exact absurd e.symm (hlt j (by omega))
    · by_cases e2 : j = k
      · simp only [e1, e2, if_true, if_false] at e
        exact absurd e (hlt i (by omega))
      · simp only [e1, e2, if_false] at e
        exact h.inj i j (by omega) (by omega) e
  · by_cases e : i = k
    · simpa [e] using hc
    · simpa [e] using h.ne i (by omega)
theorem SetsAt.kept {u u' : World} {fs : List MF} {base mb k : Nat} {Bk : Nat → Nat} {live : Nat → Bool} {dn : Nat → List Int} (h : SetsAt u fs base mb k Bk live dn) (hk : ∀ i, i < k → ∀ cn D, SetAt u (Bk i) cn D → SetAt u' (Bk i) cn D) : SetsAt u' fs base mb k Bk live dn := ⟨fun i hi hl => by
  obtain ⟨cn, D, h1, h2, h3⟩ := h.set i hi hl
  exact ⟨cn, D, h1, hk i hi _ _ h2, h3⟩, h.inj, h.ne⟩
/-- What readyOf asks of the sets. -/
theorem sets_ready {u : World} {fs : List MF} {base mb cnt : Nat} {Bk : Nat → Nat} {zs : List Int} {W : DataW Unit} (h : SetsAt u fs base mb fs.length Bk (fun i => !zs.contains (i : Int)) (fun _ => zs)) (hm : MapAt u mb cnt fs.length Bk zs W) (z : Int) (c : Nat) (hat : ∀ zd, W.atKey (.int .i64 z) zd = .lit (.int .i64 (c : Int))) : ∃ cn D, cn ≤ 1048576 ∧ SetAt u c cn D ∧ (Go.Maps.size D = 0 ↔ readyE fs zs z = true) := by
  have h1 := Go.Maps.has_true_of_atKey hat
  rw [hm.has] at h1
  simp only [Bool.and_eq_true, decide_eq_true_eq] at h1
  obtain ⟨⟨h2, h3⟩, h4⟩ := h1
  obtain ⟨i, rfl⟩ : ∃ i : Nat, z = (i : Int) := ⟨z.toNat, by omega⟩
  have hi : i < fs.length := by omega
  have e := (hat (.agg [])).symm.trans (hm.at_ i hi (by simpa using h4) (.agg []))
  obtain rfl : c = Bk i := by
    injection e with e
    injection e with _ e
    omega
  obtain ⟨cn, D, h5, h6, h7⟩ := h.set i hi h4
  refine ⟨cn, D, h5, h6, ?_⟩
  rw [set_empty h6, ← rest_none hi]
  exact ⟨fun q y => by rw [← h7]; exact q y, fun q y => by rw [h7]; exact q y⟩
theorem w64_small {z : Int} (h0 : 0 ≤ z) (h1 : z < 1048576) : W64 z := by
  simp [W64, Lit.wf, IntKind.min, IntKind.max, IntKind.signed, IntKind.bits]
  omega
/-- The first of the sorted ready ones is the least. -/
theorem ready_first {fs : List MF} {zs rs : List Int} {W : DataW Unit} (hn : fs.length ≤ 1048576) (hW : ∀ z, Go.Maps.has W (.int .i64 z) = (decide (0 ≤ z ∧ z < (fs.length : Int)) && !zs.contains z)) (hs : rs.Pairwise (· < ·)) (hm : ∀ z, z ∈ rs ↔ W64 z ∧ Go.Maps.has W (.int .i64 z) = true ∧ readyE fs zs z = true) : (rs = [] ∧ leastR fs zs = none) ∨ ∃ (q : Nat) (r : List Int), rs = (q : Int) :: r ∧ q < fs.length ∧ zs.contains (q : Int) = false ∧ leastR fs zs = some q := by
  have hiff : ∀ i : Nat, i < fs.length → (readyB fs zs i = true ↔ (i : Int) ∈ rs) := fun i hi => by
    rw [hm, hW, ready_E]
    have h1 : (0 ≤ (i : Int) ∧ (i : Int) < (fs.length : Int)) := by omega
    simp only [h1, decide_true, Bool.true_and, Bool.and_eq_true, and_self]
    exact ⟨fun q => ⟨w64_small (by omega) (by omega), q⟩, fun q => q.2⟩
  cases rs with
  | nil =>
    refine .inl ⟨rfl, leastR_none fun j hj => ?_⟩
    cases hr : readyB fs zs j with
    | false => rfl
    | true => exact absurd ((hiff j hj).1 hr) (by simp)
  | cons z r =>
    have hz := (hm z).1 (List.mem_cons_self ..)
    rw [hW] at hz
    simp only [Bool.and_eq_true, decide_eq_true_eq] at hz
    obtain ⟨i, rfl⟩ : ∃ i : Nat, z = (i : Int) := ⟨z.toNat, by omega⟩
    have hi : i < fs.length := by omega
    refine .inr ⟨i, r, rfl, hi, by simpa using hz.2.1.2, leastR_some hi ((hiff i hi).2 (List.mem_cons_self ..)) fun j hj => ?_⟩
    cases hr : readyB fs zs j with
    | false => rfl
    | true =>
      have := (hiff j (by omega)).1 hr
      rcases List.mem_cons.1 this with e | e
      · omega
      · have := (List.pairwise_cons.1 hs).1 _ e
        omega
theorem has_delC (D : DataW Unit) (z y : Int) : Go.Maps.has (D.del (.int .i64 z)) (.int .i64 y) = (Go.Maps.has D (.int .i64 y) && !decide (y = z)) := by
  by_cases h : y = z
  · subst h
    rw [Go.Maps.has_del_same]
    simp
  · rw [Go.Maps.has_del_other (fun e => h (by cases e; rfl))]
    simp [h]
theorem contains_end (zs : List Int) (q z : Int) : (zs ++ [q]).contains z = (zs.contains z || decide (z = q)) := by
  rw [Bool.eq_iff_iff]
  simp
theorem MapAt.del {u u' : World} {mb cnt k q : Nat} {Bk : Nat → Nat} {zs : List Int} {W : DataW Unit} (h : MapAt u mb cnt k Bk zs W) (hq : q < k) (hz : zs.contains (q : Int) = false) (ho : u'.ownsMap Tryz.prog 2 mapElem mb cnt (W.del (.int .i64 (q : Int)))) : MapAt u' mb cnt k Bk (zs ++ [(q : Int)]) (W.del (.int .i64 (q : Int))) := by
  refine ⟨ho, fun z => ?_, fun i hi hc zd => ?_, ?_⟩
  · rw [has_delC, h.has z, contains_end, Bool.not_or, Bool.and_assoc]
  · rw [contains_end] at hc
    simp only [Bool.or_eq_false_iff, decide_eq_false_iff_not] at hc
    rw [Go.Maps.atKey_del_other (fun e => hc.2 (by injection e)), h.at_ i hi hc.1]
  · have := Go.Maps.size_del (k := .int .i64 (q : Int)) (World.ownsMap.tidy h.own law64)
    have h1 : (0 ≤ (q : Int) ∧ (q : Int) < (k : Int)) := by omega
    rw [h.has, hz] at this
    simp only [h1, and_self, decide_true, Bool.not_false, Bool.and_true, if_true] at this
    have hs := h.size
    rw [List.length_append, List.length_singleton]
    omega
theorem rest_end (fs : List MF) (zs : List Int) (q : Int) (i : Nat) (z : Int) : restHas fs (zs ++ [q]) i z = (restHas fs zs i z && !decide (z = q)) := by
  unfold restHas
  cases fs[i]? with
  | none => rfl
  | some f => simp only [contains_end, Bool.not_or, Bool.and_assoc]
end Go.Proofs.YtdbaghmjomdmbaaGreat
