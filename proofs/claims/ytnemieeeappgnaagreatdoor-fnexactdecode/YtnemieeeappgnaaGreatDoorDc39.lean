import Derived.Test.YtnemieeeappgnaaGreatDoorDc38
namespace Go.Proofs.YtnemieeeappgnaaGreatDoor
open Go.ChangeShapes Go.WideShapes Go.ChangeAt Go.RowKit
set_option linter.unusedVariables false
/-- A mask that may choose among the first of these cells. -/
structure MaskIn (xs : List Int) (c : Int) : Prop where
  low : 0 ≤ c
  high : c < (xs.length : Int)
  mask : bits .and .i64 c (c + 1) = 0
  one : ∀ j : Nat, (j : Int) ≤ c → xs[j]? = xs[0]?
set_option maxHeartbeats 2000000 in
set_option maxRecDepth 100000 in
theorem maskHolds_any (a1 : Option Addr) (c1 : Nat) (xs : List Int) (c : Int) (w : World) (hn : xs.length ≤ 1048576) (hcap : xs.length ≤ c1) (h : Rd w 1 (.slice a1 xs.length c1) xs.length (xs.flatMap intCell)) :
    Calls Tryz.prog 104 #[.slice a1 xs.length c1, .int .i64 c] w fun e w' => SaysIff e (MaskIn xs c) ∧ Below w.heap.size w w' := by
  have H1 : Hid (Rd w 1 (.slice a1 xs.length c1) xs.length (xs.flatMap intCell)) := h
  clear h
  generalize hLL : xs.length = n at hn hcap H1
  have HL : Hid (xs.length = n) := hLL
  clear hLL
  by_cases q0 : 0 ≤ c ∧ c < (n : Int)
  · have hit : decide (0 ≤ c ∧ c < (n : Int)) = true := decide_eq_true q0
    obtain ⟨c, rfl⟩ := Int.eq_ofNat_of_zero_le q0.1
    have hcn : c < n := by omega
    clear q0
    by_cases q1 : bits .and .i64 (c : Int) ((c : Int) + 1) = 0
    · have HM : Hid (bits .and .i64 (c : Int) ((c : Int) + 1) = 0) := q1
      obtain ⟨y, hy⟩ : ∃ y, xs[0]? = some y := ⟨_, List.getElem?_eq_getElem (by rw [HL.out]; omega)⟩
      rcases H1.out.2 with ⟨e0, _⟩ | ⟨g, o, cc, e1, hc1⟩
      · omega
      simp only [Value.slice.injEq, true_and] at e1
      obtain ⟨rfl, rfl⟩ := e1
      have j0 := Rd.elem intCell_length hc1 0 y hy 0 _ rfl
      simp only [Nat.zero_mul, Nat.add_zero] at j0
      have HC : Hid (∀ j u, (xs.flatMap intCell)[j]? = some u → w.cell? ⟨g, o + j, none⟩ = some u) := hc1
      have HY : Hid (xs[0]? = some y) := hy
      clear hc1 hy
      go_enter Tryz.func104, Tryz.ntmps104
      go_wp2_with fail
      refine (isOneOf_any (c : Int) (n : Int) _).mono ?_
      rintro e u ⟨rfl, rfl⟩
      rw [hit]
      have k1 : (c : Int) + 1 ≤ (c1 : Int) := by omega
      have k2 : (0 : Int) ≤ (c : Int) + 1 := by omega
      have k3 : (0 : Int) < (n : Int) := by omega
      have k4 : ((c : Int) + 1).toNat = c + 1 := by omega
      go_wp2
      clear k1 k2 hit q1
      go_loopw [24] (fun i wr => ∃ k : Nat, k ≤ c + 1 ∧ i = .int .i64 k ∧ Hid (∀ j, j < k → xs[j]? = some y) ∧ ∃ m, wr = u.drewN m) (fun i _ => c + 1 - (intOf i).toNat)
      case atStart => exact ⟨0, by omega, rfl, fun j hj => by omega, 0, rfl⟩
      case round =>
        obtain ⟨k, hk, rfl, HT, m, rfl⟩ := hrel
        by_cases hlt : k < c + 1
        · obtain ⟨x, hx⟩ : ∃ x, xs[k]? = some x := ⟨_, List.getElem?_eq_getElem (by rw [HL.out]; omega)⟩
          have i0 := Rd.elem intCell_length HC.out k x hx 0 _ rfl
          rw [Nat.mul_one, Nat.add_zero] at i0
          have HX : Hid (xs[k]? = some x) := hx
          clear hx
          have hlt' : (k : Int) < (c : Int) + 1 := by omega
          by_cases hxy : x = y
          · subst hxy
            have HT2 : Hid (∀ j, j < k + 1 → xs[j]? = some x) := fun j hj => by
              by_cases e : j = k
              · rw [e]; exact HX.out
              · exact HT.out j (by omega)
            go_wp2
            go_roundw
            case rel => exact ⟨k + 1, by omega, by go_num, HT2, _, rfl⟩
            case measure => simp [intOf]; omega
          · have HN : Hid (¬ MaskIn xs c) := fun e => by
              have := e.one k (by omega)
              rw [HX.out, HY.out] at this
              exact hxy (Option.some.inj this)
            have hxy' : (x == y) = false := by simpa using hxy
            have hxy'' : (x != y) = true := by simpa using hxy
            go_wp2
            go_ret
            exact ⟨.no HN.out, below_drewN _ _ _⟩
        · have hkn : k = c + 1 := by omega
          subst hkn
          have HY2 : Hid (MaskIn xs c) := ⟨by omega, by rw [HL.out]; omega, HM.out, fun j hj => by rw [HY.out]; exact HT.out j (by omega)⟩
          go_wp2
          go_ret
          exact ⟨.yes HY2.out, below_drewN _ _ _⟩
    · have HN : Hid (¬ MaskIn xs c) := fun e => q1 e.mask
      have q1' : (bits .and .i64 (c : Int) ((c : Int) + 1) == 0) = false := by simpa using q1
      clear H1
      go_enter Tryz.func104, Tryz.ntmps104
      go_wp2_with fail
      refine (isOneOf_any (c : Int) (n : Int) _).mono ?_
      rintro e u ⟨rfl, rfl⟩
      rw [hit]
      go_wp2
      go_ret
      exact ⟨.no HN.out, Below.refl _ _⟩
  · have HN : Hid (¬ MaskIn xs c) := fun e => q0 ⟨e.low, by have := e.high; rw [HL.out] at this; exact this⟩
    have hit : decide (0 ≤ c ∧ c < (n : Int)) = false := decide_eq_false q0
    clear H1
    go_enter Tryz.func104, Tryz.ntmps104
    go_wp2_with fail
    refine (isOneOf_any c (n : Int) _).mono ?_
    rintro e u ⟨rfl, rfl⟩
    rw [hit]
    go_wp2
    go_ret
    exact ⟨.no HN.out, Below.refl _ _⟩
end Go.Proofs.YtnemieeeappgnaaGreatDoor
namespace Go.Proofs.YtnemieeeappgnaaGreatDoor
open Go.ChangeShapes Go.WideShapes Go.ChangeAt Go.RowKit
set_option linter.unusedVariables false
theorem isT_ne {t : Int} (h : isT t = true) : ¬ t = 0 := by
  unfold isT at h
  simp at h
  omega
theorem all_at {xs : List Int} (h : xs.all isT = true) {k : Nat} {x : Int} (hk : xs[k]? = some x) : isT x = true := List.all_eq_true.1 h x (List.mem_of_getElem? hk)
theorem hasLocal_iff {f : MF} (hf : FuncOk f) (n : Int) : HasLocal f n ↔ ¬ localOf f n = 0 := by
  constructor
  · rintro ⟨h0, h1⟩
    obtain ⟨k, rfl⟩ := Int.eq_ofNat_of_zero_le h0
    by_cases q : k < f.params.length
    · rw [localOf_par (List.getElem?_eq_getElem q)]
      exact isT_ne (all_at hf.pt (List.getElem?_eq_getElem q))
    · have q2 : k - f.params.length < f.locals.length := by omega
      have e := localOf_loc (f := f) (List.getElem?_eq_getElem q2)
      have ej : ((f.params.length : Int) + ((k - f.params.length : Nat) : Int)) = (k : Int) := by omega
      rw [ej] at e
      rw [e]
      exact isT_ne (all_at hf.lt (List.getElem?_eq_getElem q2))
  · intro h
    by_cases q0 : n < 0
    · exact absurd (localOf_neg q0) h
    by_cases q1 : (f.params.length : Int) + f.locals.length ≤ n
    · exact absurd (localOf_out q1) h
    · exact ⟨by omega, by omega⟩
/-- A cell that is there, by its list. -/
theorem cellOf_some {p : MP} {a b : Nat} {l : List Int} (h3 : p.regions.length = 3) (hl : p.regions[a]? = some l) : cellOf p a b = l.getD b 0 := cellOf_in (by have := (List.getElem?_eq_some_iff.1 hl).1; omega) hl
theorem cellOf_iff {p : MP} (hp : RegionsOk p.regions) (a b : Int) : ¬ cellOf p a b = 0 ↔ ∃ l, 0 ≤ a ∧ p.regions[a.toNat]? = some l ∧ 0 ≤ b ∧ b < (l.length : Int) := by
  constructor
  · intro h
    have hq : ¬ (a < 0 ∨ 2 < a ∨ b < 0) := fun e => h (cellOf_bad e)
    obtain ⟨i, rfl⟩ := Int.eq_ofNat_of_zero_le (show 0 ≤ a by omega)
    obtain ⟨j, rfl⟩ := Int.eq_ofNat_of_zero_le (show 0 ≤ b by omega)
    have hi : i < p.regions.length := by have := hp.1; omega
    rw [cellOf_some hp.1 (List.getElem?_eq_getElem hi)] at h
    refine ⟨p.regions[i], by omega, by rw [Int.toNat_natCast]; exact List.getElem?_eq_getElem hi, by omega, ?_⟩
    by_cases hj : j < p.regions[i].length
    · omega
    · exact absurd (by rw [List.getD_eq_getElem?_getD, List.getElem?_eq_none (by omega)]; rfl) h
  · rintro ⟨l, h0, hl, h1, h2⟩
    obtain ⟨i, rfl⟩ := Int.eq_ofNat_of_zero_le h0
    obtain ⟨j, rfl⟩ := Int.eq_ofNat_of_zero_le h1
    rw [Int.toNat_natCast] at hl
    rw [cellOf_some hp.1 hl]
    have hj : j < l.length := by omega
    have e : l.getD j 0 = l[j] := by rw [List.getD_eq_getElem?_getD, List.getElem?_eq_getElem hj]; rfl
    rw [e]
    have hr := hp.2 i (List.getElem?_eq_some_iff.1 hl).1 l hl
    exact isT_ne (all_at hr.2 (List.getElem?_eq_getElem hj))
theorem cellHolds_iff {p : MP} (hp : RegionsOk p.regions) (op a b : Int) (ho : op = 4 ∨ op = 5 ∨ op = 6 ∨ op = 7) : CellHolds p op a b ↔ ¬ cellOf p a b = 0 ∧ ((op = 4 ∨ op = 6) ∨ ¬ a = 0) := by
  rw [cellOf_iff hp]
  constructor
  · rintro ⟨l, h1, h2, h3, h4, h5⟩
    refine ⟨⟨l, h1, h2, h3, h4⟩, ?_⟩
    by_cases q : a = 0
    · left
      by_cases q5 : op = 5 ∨ op = 7
      · exact absurd ⟨q5, q⟩ h5
      · omega
    · exact .inr q
  · rintro ⟨⟨l, h1, h2, h3, h4⟩, h5⟩
    exact ⟨l, h1, h2, h3, h4, fun ⟨e1, e2⟩ => by omega⟩
theorem maskIn_iff {p : MP} (hp : RegionsOk p.regions) {a b : Nat} {l : List Int} (hl : p.regions[a]? = some l) (hb : b < l.length) (c : Int) : MaskIn (l.drop b) c ↔ MaskOk p a b c := by
  have hr := hp.2 a (List.getElem?_eq_some_iff.1 hl).1 l hl
  have cell : ∀ j : Nat, cellOf p (a : Int) ((b : Int) + (j : Int)) = l.getD (b + j) 0 := fun j => by
    have := cellOf_some (b := b + j) hp.1 hl
    rw [Int.natCast_add] at this
    exact this
  have cell0 : cellOf p (a : Int) (b : Int) = l.getD b 0 := cellOf_some hp.1 hl
  have dr : ∀ j : Nat, (l.drop b)[j]? = l[b + j]? := fun j => by rw [List.getElem?_drop]
  constructor
  · intro h
    have hh := h.high
    rw [List.length_drop] at hh
    have h0 := h.low
    have hlen := hr.1
    refine ⟨h.low, by omega, h.mask, ?_, fun j hj => ?_⟩
    · rw [cellOf_iff hp]
      exact ⟨l, by omega, by rw [Int.toNat_natCast]; exact hl, by omega, by omega⟩
    · have := h.one j hj
      rw [dr, dr] at this
      rw [cell, cell0, List.getD_eq_getElem?_getD, List.getD_eq_getElem?_getD, this]
      rfl
  · intro h
    have key : ∀ j : Nat, (j : Int) ≤ c → b + j < l.length := fun j hj => by
      have e := h.one j hj
      have hne := h.there
      rw [← e, cell] at hne
      by_cases q : b + j < l.length
      · exact q
      · exact absurd (by rw [List.getD_eq_getElem?_getD, List.getElem?_eq_none (by omega)]; rfl) hne
    obtain ⟨k, rfl⟩ := Int.eq_ofNat_of_zero_le h.low
    have hk := key k (by omega)
    refine ⟨h.low, by rw [List.length_drop]; omega, h.mask, fun j hj => ?_⟩
    have hj' := key j hj
    have e := h.one j hj
    rw [cell, cell0, List.getD_eq_getElem?_getD, List.getD_eq_getElem?_getD, List.getElem?_eq_getElem hj', List.getElem?_eq_getElem hb] at e
    rw [dr, dr, Nat.add_zero, List.getElem?_eq_getElem hj', List.getElem?_eq_getElem hb]
    simpa using e
end Go.Proofs.YtnemieeeappgnaaGreatDoor
