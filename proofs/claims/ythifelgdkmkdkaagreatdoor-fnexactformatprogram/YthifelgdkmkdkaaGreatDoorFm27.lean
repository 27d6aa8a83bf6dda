import Derived.Test.YthifelgdkmkdkaaGreatDoorFm26
import Derived.Lib.ItoaNum
namespace Go.Proofs.YthifelgdkmkdkaaGreatDoor
open Go.ChangeShapes Go.WideShapes Go.ChangeAt Go.RowKit
set_option linter.unusedVariables false
/-- The name of a type. -/
def tyName (t : Int) : List UInt8 := if t = 1 then [98, 111, 111, 108] else if t = 2 then [105, 110, 116] else if t = 3 then [117, 105, 110, 116] else []
/-- A number that is not below 0, in decimal. -/
def decL (n : Int) : List UInt8 := Lib.decDigits n.toNat
/-- Words with a blank ahead of each. -/
def wordsT (ws : List (List UInt8)) : List UInt8 := ws.flatMap fun w => 32 :: w
def lineT (first : List UInt8) (ws : List (List UInt8)) : List UInt8 := first ++ wordsT ws ++ [10]
def strIn : Option Value → List UInt8
  | some (.string s) => s.data.toList
  | _ => []
/-- The name of an instruction. -/
def nameOf (op : Int) : List UInt8 := strIn (infoOf op)[0]?
/-- Which of A, B and C a form names. -/
def namedL (F a b c : Int) : List Int :=
  if F = 1 ∨ F = 2 ∨ F = 5 ∨ F = 6 ∨ F = 7 ∨ F = 11 then [a] else if F = 3 ∨ F = 8 then [a, b] else if F = 4 then [a, b, c] else if F = 9 then [c] else if F = 10 then [a, c] else []
def namesT (F : Int) : Bool := decide (F = 5 ∨ F = 6 ∨ F = 7 ∨ F = 8)
def instrW (F a b c : Int) : List (List UInt8) := (namedL F a b c).map (if namesT F then tyName else decL)
def instrL (x : MI) : List UInt8 := lineT (nameOf x.op) (instrW (formOf x.op) x.a x.b x.c)
def resW (r : Int) : List UInt8 := if r = 0 then [110, 111, 110, 101] else tyName r
def funcW (f : MF) : List (List UInt8) := f.params.map tyName ++ [[58]] ++ [resW f.result, [58]] ++ f.locals.map tyName
def funcL (f : MF) : List UInt8 := lineT [102, 117, 110, 99] (funcW f) ++ f.code.flatMap instrL
def regionL (r : List Int) : List UInt8 := lineT [114, 101, 103, 105, 111, 110] (r.map tyName)
def constL (c : MC) : List UInt8 := lineT [99, 111, 110, 115, 116] [tyName c.type, decL c.word]
def certL (c : MT) : List UInt8 := lineT [108, 111, 111, 112] [decL c.func, decL c.head, decL c.counter, decL c.init]
def textL (p : MP) : List UInt8 := p.regions.flatMap regionL ++ p.consts.flatMap constL ++ p.funcs.flatMap funcL ++ p.certs.flatMap certL
/-- A string's value. -/
def strV (l : List UInt8) : Value := .string ⟨l.toArray⟩
theorem wordsT_cons (w : List UInt8) (r : List (List UInt8)) : wordsT (w :: r) = 32 :: w ++ wordsT r := by simp [wordsT]
theorem wordsT_append (a b : List (List UInt8)) : wordsT (a ++ b) = wordsT a ++ wordsT b := by simp [wordsT]
theorem wordsT_nil : wordsT [] = [] := rfl
theorem wordsT_next (ws : List (List UInt8)) (k : Nat) (x : List UInt8) (h : ws[k]? = some x) : wordsT (ws.take (k + 1)) = wordsT (ws.take k) ++ 32 :: x := by
  obtain ⟨hlt, rfl⟩ := List.getElem?_eq_some_iff.1 h
  rw [List.take_succ_eq_append_getElem hlt, wordsT_append]
  simp [wordsT]
theorem flat_next {α : Type} (f : α → List UInt8) (xs : List α) (k : Nat) (x : α) (h : xs[k]? = some x) : (xs.take (k + 1)).flatMap f = (xs.take k).flatMap f ++ f x := by
  obtain ⟨hlt, rfl⟩ := List.getElem?_eq_some_iff.1 h
  rw [List.take_succ_eq_append_getElem hlt, List.flatMap_append]
  simp
theorem tyName_length (t : Int) : (tyName t).length ≤ 4 := by
  unfold tyName
  split
  · decide
  · split
    · decide
    · split <;> decide
theorem dec_length (n k : Nat) (h : n < 10 ^ (k + 1)) : (Lib.decDigits n).length ≤ k + 1 := by
  induction k generalizing n with
  | zero => rw [Lib.decDigits, dif_pos (by simpa using h)]; simp
  | succ k ih =>
    rw [Lib.decDigits]
    by_cases e : n < 10
    · rw [dif_pos e]; simp
    · rw [dif_neg e]
      have := ih (n / 10) (by rw [Nat.pow_succ] at h; omega)
      simp
      omega
theorem decL_length (n : Int) (h1 : n ≤ 9223372036854775807) : (decL n).length ≤ 19 := by
  unfold decL
  exact dec_length _ 18 (by omega)
theorem decL_pos (n : Int) : ¬ (decL n).length = 0 := by
  unfold decL
  rw [Lib.decDigits]
  split <;> simp
theorem words_length (ws : List (List UInt8)) (m : Nat) (h : ∀ w ∈ ws, w.length ≤ m) : (wordsT ws).length ≤ ws.length * (m + 1) := by
  induction ws with
  | nil => simp [wordsT]
  | cons w r ih =>
    have h1 := h w (by simp)
    have h2 := ih fun x hx => h x (by simp [hx])
    rw [wordsT_cons, List.length_append, List.length_cons, List.length_cons, Nat.add_mul]
    omega
theorem flat_le {α : Type} (f : α → List UInt8) (m : Nat) (xs : List α) (h : ∀ x ∈ xs, (f x).length ≤ m) : (xs.flatMap f).length ≤ xs.length * m := by
  induction xs with
  | nil => simp
  | cons w r ih =>
    have h1 := h w (by simp)
    have h2 := ih fun x hx => h x (by simp [hx])
    rw [List.flatMap_cons, List.length_append, List.length_cons, Nat.add_mul]
    omega
theorem lineT_length (first : List UInt8) (ws : List (List UInt8)) : (lineT first ws).length = first.length + (wordsT ws).length + 1 := by simp [lineT]; omega
theorem nameOf_le (op : Int) : (nameOf op).length ≤ 16 := by
  by_cases h : 0 ≤ op ∧ op ≤ 29
  · obtain ⟨k, rfl⟩ := Int.eq_ofNat_of_zero_le h.1
    have hk : k < 30 := by omega
    have : ∀ k : Fin 30, (nameOf (k.val : Int)).length ≤ 16 := by decide +kernel
    exact this ⟨k, hk⟩
  · unfold nameOf
    rw [infoOf_out (by omega)]
    decide
theorem infoOf_all (op : Int) : ∃ c : Int, infoOf op = #[strV (nameOf op), .int .i64 c, .int .i64 (formOf op)] := by
  obtain ⟨s, c, h⟩ := infoOf_formOf op
  refine ⟨c, ?_⟩
  rw [h]
  have : nameOf op = s.data.toList := by unfold nameOf; rw [h]; rfl
  rw [this, strV]
end Go.Proofs.YthifelgdkmkdkaaGreatDoor
namespace Go.Proofs.YthifelgdkmkdkaaGreatDoor
open Go.ChangeShapes Go.WideShapes Go.ChangeAt Go.RowKit
set_option linter.unusedVariables false
theorem tyName_out {t : Int} (h : t < 1 ∨ 3 < t) : tyName t = [] := by
  unfold tyName
  rw [if_neg (by omega), if_neg (by omega), if_neg (by omega)]
theorem STypeName_any (t : Int) (w : World) : Calls Tryz.prog 15 #[.int .i64 t] w fun e w' => e = .returned (strV (tyName t)) ∧ Below w.heap.size w w' := by
  by_cases h1 : t < 1
  · have e1 : (t == 1) = false := by simp; omega
    have e2 : (t == 2) = false := by simp; omega
    have e3 : (t == 3) = false := by simp; omega
    have hl : ¬ 1 ≤ t := by omega
    rw [tyName_out (.inl h1)]
    go_enter Tryz.func15, Tryz.ntmps15
    go_wp2
    go_ret
    exact ⟨rfl, Below.refl _ _⟩
  · by_cases h3 : 3 < t
    · have e1 : (t == 1) = false := by simp; omega
      have e2 : (t == 2) = false := by simp; omega
      have e3 : (t == 3) = false := by simp; omega
      have hd : decide (t ≤ 3) = false := by simp; omega
      have hl : decide (1 ≤ t) = true := by simp; omega
      rw [tyName_out (.inr h3)]
      go_enter Tryz.func15, Tryz.ntmps15
      go_wp2
      go_ret
      exact ⟨rfl, Below.refl _ _⟩
    · have hc : t = 1 ∨ t = 2 ∨ t = 3 := by omega
      clear h1 h3
      rcases hc with rfl | rfl | rfl <;>
      · go_enter Tryz.func15, Tryz.ntmps15
        go_wp2
        go_ret
        exact ⟨rfl, (Below.refl _ _).alloc (Nat.le_refl _) _⟩
theorem ITypeName_any (t : Int) (w : World) : Calls Tryz.prog 52 #[.int .i64 t] w fun e w' => e = .returned (strV (tyName t)) ∧ w' = w := by
  by_cases h1 : t = 1 ∨ t = 2 ∨ t = 3
  · rcases h1 with rfl | rfl | rfl <;>
    · go_enter Tryz.func52, Tryz.ntmps52
      go_wp2
      go_ret
      exact ⟨rfl, rfl⟩
  · have e1 : (t == 1) = false := by simp; omega
    have e2 : (t == 2) = false := by simp; omega
    have e3 : (t == 3) = false := by simp; omega
    rw [tyName_out (by omega)]
    go_enter Tryz.func52, Tryz.ntmps52
    go_wp2
    go_ret
    exact ⟨rfl, rfl⟩
/-- Where the digits of v stand: u is left, out is done. -/
def DecAt (v u : Nat) (out : List UInt8) : Prop := (0 < u ∧ Lib.decDigits v = Lib.decDigits u ++ out) ∨ (u = 0 ∧ out = Lib.decDigits v)
theorem DecAt.next {v u : Nat} {out : List UInt8} (h : DecAt v u out) (hu : 0 < u) : DecAt v (u / 10) (UInt8.ofNat (48 + u % 10) :: out) := by
  rcases h with ⟨_, h⟩ | ⟨h, _⟩
  · by_cases h10 : u < 10
    · right
      refine ⟨by omega, ?_⟩
      rw [h, Lib.decDigits, dif_pos h10, Nat.mod_eq_of_lt h10]
      rfl
    · left
      refine ⟨by omega, ?_⟩
      rw [h, Lib.decDigits.eq_1 u, dif_neg h10]
      simp
  · omega
end Go.Proofs.YthifelgdkmkdkaaGreatDoor
