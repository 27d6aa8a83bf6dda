import Derived.Test.YtdfmdgbolmbffaaGreatLf5
import Derived.Test.YtdfmdgbolmbffaaGreatLf6
import Derived.Test.YtdfmdgbolmbffaaGreatLf9
namespace Go.Proofs.YtdfmdgbolmbffaaGreat
open Go.ChangeShapes Go.WideShapes Go.ChangeAt Go.RowKit
set_option linter.unusedVariables false
theorem same_ne {α : Type} {xs ys : List α} {k : Nat} {x y : α} (h1 : xs[k]? = some x) (h2 : ys[k]? = some y) (h : ¬ x = y) : ¬ xs = ys := by
  rintro rfl
  rw [h1] at h2
  exact h (Option.some.inj h2)
theorem same_next {α : Type} {xs ys : List α} {k : Nat} {x : α} (h1 : xs[k]? = some x) (h2 : ys[k]? = some x) (h : ∀ j, j < k → xs[j]? = ys[j]?) : ∀ j, j < k + 1 → xs[j]? = ys[j]? := by
  intro j hj
  by_cases e : j = k
  · subst e
    rw [h1, h2]
  · exact h j (by omega)
theorem same_all {α : Type} {xs ys : List α} {n : Nat} (h1 : xs.length = n) (h2 : ys.length = n) (h : ∀ j, j < n → xs[j]? = ys[j]?) : xs = ys := by
  apply List.ext_getElem?
  intro j
  by_cases hj : j < n
  · exact h j hj
  · rw [List.getElem?_eq_none (by omega), List.getElem?_eq_none (by omega)]
set_option maxHeartbeats 1000000 in
theorem l3Same_any (s s' : Value) (xs ys : List Int) (w : World) (hn : xs.length ≤ 1048576) (hn' : ys.length ≤ 1048576) (h : Rd w 1 s xs.length (xs.flatMap intCell)) (h' : Rd w 1 s' ys.length (ys.flatMap intCell)) :
    Calls Tryz.prog 30 #[s, s'] w fun e w' => SaysIff e (xs = ys) ∧ ∃ m, w' = w.drewN m := by
  have H1 : Hid (Rd w 1 s xs.length (xs.flatMap intCell)) := h
  have H2 : Hid (Rd w 1 s' ys.length (ys.flatMap intCell)) := h'
  obtain ⟨a1, c1, rfl⟩ := h.is_slice
  obtain ⟨a2, c2, rfl⟩ := h'.is_slice
  clear h h'
  by_cases hll : xs.length = ys.length
  · rw [← hll] at H2
    rw [← hll]
    clear hn'
    generalize hLL : xs.length = n at hn H1 H2
    have HL : Hid (xs.length = n ∧ ys.length = n) := ⟨hLL, hll ▸ hLL⟩
    clear hLL hll
    go_enter Tryz.func30, Tryz.ntmps30
    go_wp2
    go_loopw [5] (fun i wr => ∃ k : Nat, k ≤ n ∧ i = .int .i64 k ∧ Hid (∀ j, j < k → xs[j]? = ys[j]?) ∧ ∃ m, wr = w.drewN m) (fun i _ => n - (intOf i).toNat)
    case atStart => exact ⟨0, by omega, rfl, fun j hj => by omega, 0, rfl⟩
    case round =>
      obtain ⟨k, hk, rfl, HT, m, rfl⟩ := hrel
      by_cases hlt : k < n
      · obtain ⟨x, hx⟩ : ∃ x, xs[k]? = some x := ⟨_, List.getElem?_eq_getElem (by rw [HL.out.1]; exact hlt)⟩
        obtain ⟨y, hy⟩ : ∃ y, ys[k]? = some y := ⟨_, List.getElem?_eq_getElem (by rw [HL.out.2]; exact hlt)⟩
        rcases H1.out.2 with ⟨e0, _⟩ | ⟨g, o, c, e1, hc1⟩
        · omega
        · rcases H2.out.2 with ⟨e0, _⟩ | ⟨g', o', c', e2, hc2⟩
          · omega
          · simp only [Value.slice.injEq, true_and] at e1 e2
            obtain ⟨rfl, rfl⟩ := e1
            obtain ⟨rfl, rfl⟩ := e2
            have i0 := Rd.elem intCell_length hc1 k x hx 0 _ rfl
            have j0 := Rd.elem intCell_length hc2 k y hy 0 _ rfl
            rw [Nat.mul_one, Nat.add_zero] at i0 j0
            have HX : Hid (xs[k]? = some x ∧ ys[k]? = some y) := ⟨hx, hy⟩
            clear hc1 hc2 hx hy
            by_cases hxy : x = y
            · subst hxy
              go_wp2
              go_quiet (fail)
              go_wp2
              go_roundw
              case rel => exact ⟨k + 1, by omega, by go_num, same_next HX.out.1 HX.out.2 HT.out, _, rfl⟩
              case measure => simp [intOf]; omega
            · go_wp2
              go_quiet (fail)
              go_wp2
              go_ret
              exact ⟨.no (same_ne HX.out.1 HX.out.2 hxy), m + nq, World.drewN_drewN _ _ _⟩
      · have hkn : k = n := by omega
        subst hkn
        go_wp2
        go_ret
        exact ⟨.yes (same_all HL.out.1 HL.out.2 HT.out), _, rfl⟩
  · have hne : ¬ xs = ys := fun e => hll (by rw [e])
    clear H1 H2
    generalize xs.length = n at *
    generalize ys.length = n' at *
    have HN : Hid (¬ xs = ys) := hne
    clear hne
    have hi : ¬ (n : Int) = (n' : Int) := by omega
    go_enter Tryz.func30, Tryz.ntmps30
    go_wp2
    go_ret
    exact ⟨.no HN.out, 0, rfl⟩
set_option maxHeartbeats 1000000 in
theorem slicesEq64_any (s s' : Value) (xs ys : List Int) (w : World) (hn : xs.length ≤ 1048576) (hn' : ys.length ≤ 1048576) (h : Rd w 1 s xs.length (xs.flatMap intCell)) (h' : Rd w 1 s' ys.length (ys.flatMap intCell)) :
    Calls Tryz.prog 89 #[s, s'] w fun e w' => SaysIff e (xs = ys) ∧ ∃ m, w' = w.drewN m := by
  have H1 : Hid (Rd w 1 s xs.length (xs.flatMap intCell)) := h
  have H2 : Hid (Rd w 1 s' ys.length (ys.flatMap intCell)) := h'
  obtain ⟨a1, c1, rfl⟩ := h.is_slice
  obtain ⟨a2, c2, rfl⟩ := h'.is_slice
  clear h h'
  by_cases hll : xs.length = ys.length
  · rw [← hll] at H2
    rw [← hll]
    clear hn'
    generalize hLL : xs.length = n at hn H1 H2
    have HL : Hid (xs.length = n ∧ ys.length = n) := ⟨hLL, hll ▸ hLL⟩
    clear hLL hll
    go_enter Tryz.func89, Tryz.ntmps89
    go_wp2
    go_loopw [13] (fun i wr => ∃ k : Nat, k ≤ n ∧ i = .int .i64 k ∧ Hid (∀ j, j < k → xs[j]? = ys[j]?) ∧ ∃ m, wr = w.drewN m) (fun i _ => n - (intOf i).toNat)
    case atStart => exact ⟨0, by omega, rfl, fun j hj => by omega, 0, rfl⟩
    case round =>
      obtain ⟨k, hk, rfl, HT, m, rfl⟩ := hrel
      by_cases hlt : k < n
      · obtain ⟨x, hx⟩ : ∃ x, xs[k]? = some x := ⟨_, List.getElem?_eq_getElem (by rw [HL.out.1]; exact hlt)⟩
        obtain ⟨y, hy⟩ : ∃ y, ys[k]? = some y := ⟨_, List.getElem?_eq_getElem (by rw [HL.out.2]; exact hlt)⟩
        rcases H1.out.2 with ⟨e0, _⟩ | ⟨g, o, c, e1, hc1⟩
        · omega
        · rcases H2.out.2 with ⟨e0, _⟩ | ⟨g', o', c', e2, hc2⟩
          · omega
          · simp only [Value.slice.injEq, true_and] at e1 e2
            obtain ⟨rfl, rfl⟩ := e1
            obtain ⟨rfl, rfl⟩ := e2
            have i0 := Rd.elem intCell_length hc1 k x hx 0 _ rfl
            have j0 := Rd.elem intCell_length hc2 k y hy 0 _ rfl
            rw [Nat.mul_one, Nat.add_zero] at i0 j0
            have HX : Hid (xs[k]? = some x ∧ ys[k]? = some y) := ⟨hx, hy⟩
            clear hc1 hc2 hx hy
            by_cases hxy : x = y
            · subst hxy
              go_wp2
              go_quiet (fail)
              go_wp2
              go_roundw
              case rel => exact ⟨k + 1, by omega, by go_num, same_next HX.out.1 HX.out.2 HT.out, _, rfl⟩
              case measure => simp [intOf]; omega
            · go_wp2
              go_quiet (fail)
              go_wp2
              go_ret
              exact ⟨.no (same_ne HX.out.1 HX.out.2 hxy), m + nq, World.drewN_drewN _ _ _⟩
      · have hkn : k = n := by omega
        subst hkn
        go_wp2
        go_ret
        exact ⟨.yes (same_all HL.out.1 HL.out.2 HT.out), _, rfl⟩
  · have hne : ¬ xs = ys := fun e => hll (by rw [e])
    clear H1 H2
    generalize xs.length = n at *
    generalize ys.length = n' at *
    have HN : Hid (¬ xs = ys) := hne
    clear hne
    have hi : ¬ (n : Int) = (n' : Int) := by omega
    go_enter Tryz.func89, Tryz.ntmps89
    go_wp2
    go_ret
    exact ⟨.no HN.out, 0, rfl⟩
end Go.Proofs.YtdfmdgbolmbffaaGreat
namespace Go.Proofs.YtdfmdgbolmbffaaGreat
open Go.ChangeShapes Go.WideShapes Go.ChangeAt Go.RowKit
set_option linter.unusedVariables false
set_option maxHeartbeats 1000000 in
theorem l7In_any (s : Value) (xs : List Int) (v : Int) (w : World) (hn : xs.length ≤ 1048576) (h : Rd w 1 s xs.length (xs.flatMap intCell)) :
    Calls Tryz.prog 54 #[s, .int .i64 v] w fun e w' => SaysIff e (v ∈ xs) ∧ w' = w := by
  have H1 : Hid (Rd w 1 s xs.length (xs.flatMap intCell)) := h
  obtain ⟨a1, c1, rfl⟩ := h.is_slice
  clear h
  generalize hLL : xs.length = n at hn H1 ⊢
  have HL : Hid (xs.length = n) := hLL
  clear hLL
  go_enter Tryz.func54, Tryz.ntmps54
  go_wp2
  go_loopw [5] (fun i wr => ∃ k : Nat, k ≤ n ∧ i = .int .i64 k ∧ Hid (∀ j, j < k → ¬ xs[j]? = some v) ∧ wr = w) (fun i _ => n - (intOf i).toNat)
  case atStart => exact ⟨0, by omega, rfl, fun j hj => by omega, rfl⟩
  case round =>
    obtain ⟨k, hk, rfl, HT, rfl⟩ := hrel
    by_cases hlt : k < n
    · obtain ⟨x, hx⟩ : ∃ x, xs[k]? = some x := ⟨_, List.getElem?_eq_getElem (by rw [HL.out]; exact hlt)⟩
      rcases H1.out.2 with ⟨e0, _⟩ | ⟨g, o, c, e1, hc1⟩
      · omega
      simp only [Value.slice.injEq, true_and] at e1
      obtain ⟨rfl, rfl⟩ := e1
      have i0 := Rd.elem intCell_length hc1 k x hx 0 _ rfl
      rw [Nat.mul_one, Nat.add_zero] at i0
      have HX : Hid (xs[k]? = some x) := hx
      clear hc1 hx
      by_cases hxy : x = v
      · subst hxy
        go_wp2
        go_ret
        exact ⟨.yes (List.mem_of_getElem? HX.out), rfl⟩
      · go_wp2
        go_roundw
        case rel =>
          refine ⟨k + 1, by omega, by go_num, fun j hj => ?_, trivial⟩
          by_cases e : j = k
          · subst e
            rw [HX.out]
            exact fun e => hxy (Option.some.inj e)
          · exact HT.out j (by omega)
        case measure => simp [intOf]; omega
    · have hkn : k = n := by omega
      subst hkn
      go_wp2
      go_ret
      refine ⟨.no fun hm => ?_, rfl⟩
      obtain ⟨j, hj⟩ := List.getElem?_of_mem hm
      exact HT.out j (by have := (List.getElem?_eq_some_iff.1 hj).1; rw [HL.out] at this; exact this) hj
/-- The place of the certificate; -1: none. -/
def CertIs (ts : List MT) (fi hd n : Int) : Prop := (n = -1 ∧ certAt ts fi hd = none) ∨ ∃ (k : Nat) (c : MT), n = (k : Int) ∧ ts[k]? = some c ∧ certAt ts fi hd = some c
set_option maxHeartbeats 4000000 in
set_option maxRecDepth 100000 in
theorem l7Cert_any (v : VP) (p : MP) (fi hd : Int) (w : World) (hs : p.small) (h : RdP w v p) :
    Calls Tryz.prog 53 #[.agg #[v.r, v.k, v.f, v.t], .int .i64 fi, .int .i64 hd] w fun e w' => (∃ n, e = .returned (.int .i64 n) ∧ CertIs p.certs fi hd n) ∧ Below w.heap.size w w' := by
  obtain ⟨vr, vk, vf, vt⟩ := v
  have H1 : Hid (Rd w 4 vt p.certs.length (p.certs.flatMap MT.cells)) := h.certs
  have hn := hs.certs
  obtain ⟨a1, c1, e1⟩ : ∃ a c, vt = .slice a p.certs.length c := h.certs.is_slice
  subst e1
  clear h hs
  have HW : Hid (Below w.heap.size w (w.alloc (.cells #[vr, vk, vf, .slice a1 p.certs.length c1] 36)) ∧ At4 (w.alloc (.cells #[vr, vk, vf, .slice a1 p.certs.length c1] 36)) w.heap.size vr vk vf (.slice a1 p.certs.length c1)) := ⟨below_alloc _ _, At4.new _ _ _ _ _ _⟩
  generalize hcs : p.certs.length = n at hn H1 HW ⊢
  have HL : Hid (p.certs.length = n) := hcs
  clear hcs
  go_enter Tryz.func53, Tryz.ntmps53
  go_wp2
  go_loopw [7] (fun i wr => ∃ k : Nat, k ≤ n ∧ i = .int .i64 k ∧ Hid (∀ j c, j < k → p.certs[j]? = some c → ¬ (c.func = fi ∧ c.head = hd)) ∧ Hid (Below w.heap.size w wr ∧ At4 wr w.heap.size vr vk vf (.slice a1 n c1))) (fun i _ => n - (intOf i).toNat)
  case atStart => exact ⟨0, by omega, rfl, fun j c hj => by omega, HW⟩
  case round =>
    clear HW
    obtain ⟨k, hk, rfl, HT, HW⟩ := hrel
    obtain ⟨p0, p1, p2, p3⟩ := HW.out.2
    by_cases hlt : k < n
    · obtain ⟨x, hx⟩ : ∃ x, p.certs[k]? = some x := ⟨_, List.getElem?_eq_getElem (by rw [HL.out]; exact hlt)⟩
      rcases H1.out.2 with ⟨e0, _⟩ | ⟨b, o, c, e1, hc1⟩
      · omega
      simp only [Value.slice.injEq, true_and] at e1
      obtain ⟨rfl, rfl⟩ := e1
      have i0 := Rd.elem MT.cells_length hc1 k x hx 0 _ rfl
      have i1 := Rd.elem MT.cells_length hc1 k x hx 1 _ rfl
      rw [← HW.out.1.cell (block_lt_of_cell i0), Nat.add_zero] at i0
      rw [← HW.out.1.cell (block_lt_of_cell i1)] at i1
      have HX : Hid (p.certs[k]? = some x) := hx
      clear hc1 hx
      by_cases q : x.func = fi ∧ x.head = hd
      · obtain ⟨q1, q2⟩ := q
        have HC : Hid (certAt p.certs fi hd = some x) := certAt_some HX.out ⟨q1, q2⟩ fun j c hj hc => HT.out j c hj hc
        rw [q1] at i0
        rw [q2] at i1
        clear q1 q2
        go_wp2
        go_ret
        exact ⟨⟨_, rfl, .inr ⟨k, x, rfl, HX.out, HC.out⟩⟩, HW.out.1⟩
      · have HT' : Hid (∀ j c, j < k + 1 → p.certs[j]? = some c → ¬ (c.func = fi ∧ c.head = hd)) := fun j c hj hc => by
          by_cases e : j = k
          · subst e
            rw [HX.out] at hc
            cases hc
            exact q
          · exact HT.out j c (by omega) hc
        by_cases q1 : x.func = fi
        · have q2 : ¬ x.head = hd := fun e => q ⟨q1, e⟩
          clear q
          go_wp2
          go_roundw
          case rel => exact ⟨k + 1, by omega, by go_num, HT'.out, HW.out⟩
          case measure => simp [intOf]; omega
        · clear q
          go_wp2
          go_roundw
          case rel => exact ⟨k + 1, by omega, by go_num, HT'.out, HW.out⟩
          case measure => simp [intOf]; omega
    · have hkn : k = n := by omega
      subst hkn
      go_wp2
      go_ret
      exact ⟨⟨_, rfl, .inl ⟨by go_num, certAt_none fun j c hj => HT.out j c (by have := (List.getElem?_eq_some_iff.1 hj).1; rw [HL.out] at this; exact this) hj⟩⟩, HW.out.1⟩
end Go.Proofs.YtdfmdgbolmbffaaGreat
namespace Go.Proofs.YtdfmdgbolmbffaaGreat
open Go.ChangeShapes Go.WideShapes Go.ChangeAt Go.RowKit
set_option linter.unusedVariables false
def nv (l : List Nat) : List Value := l.map fun (k : Nat) => Value.int .i64 (k : Int)
theorem nv_length (l : List Nat) : (nv l).length = l.length := by simp [nv]
theorem nv_app (l m : List Nat) : nv (l ++ m) = nv l ++ nv m := by simp [nv]
theorem nv_flat (l : List Nat) : nv l = (ints l).flatMap intCell := by
  induction l with
  | nil => rfl
  | cons x r ih =>
    simp only [nv, ints, List.map_cons, List.flatMap_cons] at ih ⊢
    rw [ih]
    rfl
theorem nv_at {l : List Nat} {k x : Nat} (h : l[k]? = some x) : (nv l)[k]? = some (.int .i64 (x : Int)) := by simp [nv, h]
def RdN (w : World) (s : Value) (l : List Nat) : Prop := Rd w 1 s l.length (nv l)
def OwN (w : World) (base : Nat) (s : Value) (l : List Nat) : Prop := w.ownsRow base 2 1 s l.length (nv l)
theorem OwN.rd {w : World} {base : Nat} {s : Value} {l : List Nat} (h : OwN w base s l) : RdN w s l := Rd.of_own h
theorem OwN.keep {w w' : World} {base : Nat} {s : Value} {l : List Nat} (h : OwN w base s l) (hb : Below w.heap.size w w') : OwN w' base s l := own_keep h hb (Nat.le_refl _)
theorem RdN.keep {w w' : World} {s : Value} {l : List Nat} (h : RdN w s l) (hb : Below w.heap.size w w') : RdN w' s l := Rd.keep h hb (Nat.le_refl _)
/-- An element of a row that is read. -/
theorem RdN.at_ {w : World} {a : Option Addr} {n c : Nat} {l : List Nat} (h : RdN w (.slice a n c) l) {k x : Nat} (hk : l[k]? = some x) : ∃ g o, a = some ⟨g, o, none⟩ ∧ n = l.length ∧ w.cell? ⟨g, o + k, none⟩ = some (.int .i64 (x : Int)) := by
  rcases h.2 with ⟨e0, _⟩ | ⟨g, o, c', e1, hc⟩
  · have := (List.getElem?_eq_some_iff.1 hk).1
    omega
  · simp only [Value.slice.injEq] at e1
    obtain ⟨rfl, rfl, rfl⟩ := e1
    exact ⟨g, o, rfl, rfl, hc k _ (nv_at hk)⟩
/-- All elements at once. -/
theorem RdN.all {w : World} {a : Option Addr} {n c : Nat} {l : List Nat} (h : RdN w (.slice a n c) l) (hl : 0 < l.length) : ∃ g o, a = some ⟨g, o, none⟩ ∧ n = l.length ∧ ∀ k x : Nat, l[k]? = some x → w.cell? ⟨g, o + k, none⟩ = some (.int .i64 (x : Int)) := by
  rcases h.2 with ⟨e0, _⟩ | ⟨g, o, c', e1, hc⟩
  · omega
  · simp only [Value.slice.injEq] at e1
    obtain ⟨rfl, rfl, rfl⟩ := e1
    exact ⟨g, o, rfl, rfl, fun k x hk => hc k _ (nv_at hk)⟩
def bv (P : Nat → Bool) (n : Nat) : List Value := (List.range n).map fun i => Value.bool (P i)
theorem bv_length (P : Nat → Bool) (n : Nat) : (bv P n).length = n := by simp [bv]
theorem bv_at (P : Nat → Bool) (n i : Nat) (h : i < n) : (bv P n)[i]? = some (.bool (P i)) := by simp [bv, h]
theorem bv_congr {P Q : Nat → Bool} {n : Nat} (h : ∀ i, i < n → P i = Q i) : bv P n = bv Q n := by
  unfold bv
  apply List.map_congr_left
  intro i hi
  rw [h i (List.mem_range.1 hi)]
theorem bv_set {P Q : Nat → Bool} {n i : Nat} {b : Bool} (h : ∀ j, j < n → Q j = if j = i then b else P j) : (bv P n).set i (.bool b) = bv Q n := by
  apply List.ext_getElem?
  intro j
  by_cases hj : j < n
  · rw [bv_at _ _ _ hj, h j hj]
    by_cases e : j = i
    · subst e
      rw [List.getElem?_set_self (by rw [bv_length]; exact hj), if_pos rfl]
    · rw [List.getElem?_set_ne (by omega), bv_at _ _ _ hj, if_neg e]
  · rw [List.getElem?_eq_none (by simp [bv_length]; omega), List.getElem?_eq_none (by rw [bv_length]; omega)]
theorem bv_zero (n : Nat) : List.replicate n (Value.bool false) = bv (fun _ => false) n := by
  apply List.ext_getElem?
  intro j
  by_cases hj : j < n
  · rw [bv_at _ _ _ hj]
    simp [hj]
  · rw [List.getElem?_eq_none (by simp; omega), List.getElem?_eq_none (by rw [bv_length]; omega)]
def OwB (w : World) (base g n : Nat) (P : Nat → Bool) : Prop := w.ownsRow base 4 1 (.slice (some ⟨g, 0, none⟩) n n) n (bv P n)
theorem OwB.keep {w w' : World} {base g n : Nat} {P : Nat → Bool} (h : OwB w base g n P) (hb : Below w.heap.size w w') : OwB w' base g n P := own_keep h hb (Nat.le_refl _)
theorem OwB.cell {w : World} {base g n : Nat} {P : Nat → Bool} (h : OwB w base g n P) {i : Nat} (hi : i < n) : w.cell? ⟨g, i, none⟩ = some (.bool (P i)) := by
  have := World.ownsRow.cellAt h i (by omega)
  rw [bv_at _ _ _ hi] at this
  exact this
theorem OwB.frozen {w : World} {base g n : Nat} {P : Nat → Bool} (h : OwB w base g n P) (i : Nat) : w.frozen? ⟨g, i, none⟩ = false := World.ownsRow.frozenAt h i
theorem OwB.set {w : World} {base g n : Nat} {P Q : Nat → Bool} (h : OwB w base g n P) (i : Nat) (b : Bool) (hQ : ∀ j, j < n → Q j = if j = i then b else P j) : OwB (w.setCell ⟨g, i, none⟩ (.bool b)) base g n Q := by
  have := (World.ownsRow.stored h i (.bool b)).1
  rw [bv_set hQ] at this
  exact this
/-- Blocks as a graph. -/
def GrAt (w : World) (g o n : Nat) (E : Nat → List Nat) : Prop := ∀ b, b < n → ∃ a c, w.cell? ⟨g, o + b * 3 + 2, none⟩ = some (.slice a (E b).length c) ∧ RdN w (.slice a (E b).length c) (E b)
theorem GrAt.keep {w w' : World} {g o n : Nat} {E : Nat → List Nat} (h : GrAt w g o n E) (hb : Below w.heap.size w w') : GrAt w' g o n E := fun b hb' => by
  obtain ⟨a, c, h1, h2⟩ := h b hb'
  exact ⟨a, c, bcell_keep hb h1, h2.keep hb⟩
theorem RdBs.graph {w : World} {V : Value} {xs : List MI} (hg : CodeGood xs) (h : RdBs w V (specL xs)) : ∃ g o c, V = .slice (some ⟨g, o, none⟩) (specL xs).length c ∧ GrAt w g o (specL xs).length (nx (specL xs)) ∧ ∀ b m, (specL xs)[b]? = some m → w.cell? ⟨g, o + b * 3, none⟩ = some (.int .i64 m.first) := by
  obtain ⟨ys, h1, h2, h3⟩ := h
  have hp := lds_pos hg
  rcases h2.2 with ⟨e0, _⟩ | ⟨g, o, c, e1, hc⟩
  · omega
  · have hyb : ∀ b m, (specL xs)[b]? = some m → ∃ v, ys[b]? = some (m, v) := fun b m hm => by
      rw [← h1, List.getElem?_map] at hm
      obtain ⟨⟨m', v⟩, q1, q2⟩ := Option.map_eq_some_iff.1 hm
      simp only [] at q2
      subst q2
      exact ⟨v, q1⟩
    refine ⟨g, o, c, e1, fun b hb => ?_, fun b m hm => ?_⟩
    · obtain ⟨v, hv⟩ := hyb b _ (List.getElem?_eq_getElem hb)
      have r := h3 _ (List.mem_of_getElem? hv)
      have e := nx_ints hg (List.getElem?_eq_getElem hb)
      have r' : RdN w v (nx (specL xs) b) := by
        unfold RdN
        rw [nv_flat]
        unfold RdB at r
        simp only [e] at r
        rw [ints_length] at r
        exact r
      obtain ⟨a, cc, ev⟩ := Rd.is_slice r'
      subst ev
      exact ⟨a, cc, Rd.elem bCells_length hc b _ hv 2 _ rfl, r'⟩
    · obtain ⟨v, hv⟩ := hyb b m hm
      have := Rd.elem bCells_length hc b _ hv 0 _ rfl
      rw [Nat.add_zero] at this
      exact this
theorem own_two {w w' : World} {base B : Nat} {s v : Value} {m : Nat} {g n : Nat} {P : Nat → Bool} {bs : List Value} (h : OwB w base g n P) (hg : w.grownBy w' v.ownBlock) (ho : w.ownsRow B 2 1 v m bs) : OwB w' base g n P := own_grown h hg ho (by decide)
end Go.Proofs.YtdfmdgbolmbffaaGreat
