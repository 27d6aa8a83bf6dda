import Derived.Test.YtdbaghmjomdmbaaFo39
import Derived.Deep.AppendLies
namespace Go.Proofs.Ytdbaghmjomdmbaa
open Go.ChangeShapes Go.WideShapes Go.ChangeAt Go.RowKit
set_option linter.unusedVariables false
theorem placesL_on (xs : List MI) (x : MI) (e : Nat) (h1 : onB x = true ∧ e + 1 < xs.length) (h2 : ¬ goesB x = true) : placesL xs x e = [] ++ [((e : Int) + 1)] := by
  unfold placesL
  rw [if_pos h1, if_neg (fun q => h2 q.1)]
  rfl
theorem placesL_eq (xs : List MI) (x : MI) (e : Nat) (h1 : onB x = true ∧ e + 1 < xs.length) (h2 : goesB x = true) (h : x.c = ((e + 1 : Nat) : Int)) : placesL xs x e = [] ++ [((e : Int) + 1)] := by
  unfold placesL
  rw [if_pos h1, if_neg (fun q => q.2 ⟨h1.1, h1.2, h⟩)]
  rfl
theorem placesL_ne (xs : List MI) (x : MI) (e : Nat) (h1 : onB x = true ∧ e + 1 < xs.length) (h2 : goesB x = true) (h : ¬ x.c = ((e + 1 : Nat) : Int)) : placesL xs x e = [] ++ [((e : Int) + 1)] ++ [x.c] := by
  unfold placesL
  rw [if_pos h1, if_pos ⟨h2, fun q => h q.2.2⟩]
  rfl
theorem placesL_go (xs : List MI) (x : MI) (e : Nat) (h1 : ¬ (onB x = true ∧ e + 1 < xs.length)) (h2 : goesB x = true) : placesL xs x e = [] ++ [x.c] := by
  unfold placesL
  rw [if_neg h1, if_pos ⟨h2, fun q => h1 ⟨q.1, q.2.1⟩⟩]
theorem placesL_no (xs : List MI) (x : MI) (e : Nat) (h1 : ¬ (onB x = true ∧ e + 1 < xs.length)) (h2 : ¬ goesB x = true) : placesL xs x e = [] := by
  unfold placesL
  rw [if_neg h1, if_neg (fun q => h2 q.1)]
  rfl
set_option maxHeartbeats 4000000 in
set_option maxRecDepth 100000 in
theorem placesFrom_any (s : Value) (xs : List MI) (x : MI) (e : Nat) (w : World) (hn : xs.length ≤ 1024) (hp : PlacesOk xs) (hx : xs[e]? = some x) (h : Rd w 4 s xs.length (xs.flatMap MI.cells)) :
    Calls Try.prog 24 #[s, .int .i64 (e : Int)] w fun e1 w' => ∃ r, e1 = .returned r ∧ w'.ownsRow w.heap.size 2 1 r (placesL xs x e).length ((placesL xs x e).flatMap intCell) ∧ Below w.heap.size w w' := by
  obtain ⟨k0, hk, hx0, hx1, hx2⟩ := info_parts info64
  have hen : e < xs.length := (List.getElem?_eq_some_iff.1 hx).1
  have HX : Hid (xs[e]? = some x) := hx
  have HG : Hid (PlacesOk xs) := hp
  rcases h.2 with ⟨e0, _⟩ | ⟨g, o, c, rfl, hc1⟩
  · omega
  have HC : Hid (∀ j v, (xs.flatMap MI.cells)[j]? = some v → w.cell? ⟨g, o + j, none⟩ = some v) := hc1
  clear h hc1 hp hx
  generalize hLL : xs.length = n at hn hen
  have HL : Hid (xs.length = n) := hLL
  clear hLL
  have hel : (e : Int) < (n : Int) := by omega
  have HU0 : Hid (NP w w (.slice none 0 0) []) := ⟨Below.refl _ _, World.ownsRow_nil _ _ _ _⟩
  obtain ⟨x0, x1, x2, x3⟩ := MI.at4 (n := 0) HC.out HX.out (Below.refl w.heap.size w)
  go_enter Try.func24, Try.ntmps24
  go_wp2_with fail
  refine (goesOn_any x _).mono ?_
  rintro e1 u1 ⟨rfl, b1⟩
  have HU1 : Hid (NP w u1 (.slice none 0 0) []) := HU0.out.keep b1
  clear b1 x0 x1 x2 x3 HU0
  cases hon : onB x
  · have h1 : ¬ (onB x = true ∧ e + 1 < xs.length) := fun q => by rw [hon] at q; exact absurd q.1 Bool.false_ne_true
    obtain ⟨x0, x1, x2, x3⟩ := MI.at4 (n := 0) HC.out HX.out HU1.out.bel
    go_wp2_with fail
    refine (namesPlace_any x _).mono ?_
    rintro e4 u4 ⟨rfl, b4⟩
    have HU4 : Hid (NP w u4 (.slice none 0 0) []) := HU1.out.keep b4
    clear b4
    clear x0 x1 x2 x3
    cases hgo : goesB x
    · go_wp2
      go_ret
      exact ⟨_, rfl, by rw [placesL_no xs x e h1 (by rw [hgo]; exact Bool.false_ne_true)]; exact HU4.out.row, HU4.out.bel⟩
    · obtain ⟨hc0, hc1⟩ := HG.out e x HX.out hgo
      go_wp2_with fail
      refine (contains_none none 0 x.c _).mono ?_
      rintro e5 u5 ⟨rfl, hu⟩
      have hu2 := hu.symm
      clear hu
      subst hu2
      go_wp2_with (at_builtin; refine wpList_append_lies _ rfl _ _ 33 rfl w.heap.size 2 k0 (.int .i64 0) 1 8 Try.underlying33 hk hx0 hx1 hx2 rfl (by decide) _ ([] : List Int).length (([] : List Int).flatMap intCell) rfl (HU4.out.keep (below_alloc _ (.cells #[.int .i64 (x.c)] 2))).row ⟨u4.heap.size, 0, none⟩ 1 1 [.int .i64 (x.c)] rfl rfl (one_cell u4 (x.c)) (fun u hu => by simp at hu; subst hu; rfl) (by omega) (by simp [maxLen]) (by simp) (HU4.out.keep (below_alloc _ (.cells #[.int .i64 (x.c)] 2))).bel.size _ rfl ?_; intro g3 cap3 w3 hown hgrow hat hlt3; have HU5 : Hid (NP w w3 (.slice (some ⟨g3, 0, none⟩) (0 + 1) cap3) ([] ++ [x.c])) := HU4.out.app hown rfl hgrow; clear hown hgrow hat hlt3)
      go_wp2
      go_ret
      exact ⟨_, rfl, by rw [placesL_go xs x e h1 hgo]; exact HU5.out.row, HU5.out.bel⟩
  · go_wp2_with fail
    refine (isOneOf_any ((e : Int) + 1) n _ (by omega)).mono ?_
    rintro e2 u2 ⟨rfl, hu⟩
    have hu2 := hu.symm
    clear hu
    subst hu2
    by_cases hb : e + 1 < n
    · have h1 : onB x = true ∧ e + 1 < xs.length := ⟨hon, by rw [HL.out]; exact hb⟩
      rw [show decide (0 ≤ (e : Int) + 1 ∧ (e : Int) + 1 < (n : Int)) = true from by simp; omega]
      obtain ⟨x0, x1, x2, x3⟩ := MI.at4 (n := 0) HC.out HX.out HU1.out.bel
      go_wp2_with (at_builtin; refine wpList_append_lies _ rfl _ _ 33 rfl w.heap.size 2 k0 (.int .i64 0) 1 8 Try.underlying33 hk hx0 hx1 hx2 rfl (by decide) _ ([] : List Int).length (([] : List Int).flatMap intCell) rfl (HU1.out.keep (below_alloc _ (.cells #[.int .i64 ((e : Int) + 1)] 2))).row ⟨u1.heap.size, 0, none⟩ 1 1 [.int .i64 ((e : Int) + 1)] rfl rfl (one_cell u1 ((e : Int) + 1)) (fun u hu => by simp at hu; subst hu; rfl) (by omega) (by simp [maxLen]) (by simp) (HU1.out.keep (below_alloc _ (.cells #[.int .i64 ((e : Int) + 1)] 2))).bel.size _ rfl ?_; intro g3 cap3 w3 hown hgrow hat hlt3; have HU3 : Hid (NP w w3 (.slice (some ⟨g3, 0, none⟩) (0 + 1) cap3) ([] ++ [(e : Int) + 1])) := HU1.out.app hown rfl hgrow; clear hown hgrow hat hlt3; obtain ⟨x0, x1, x2, x3⟩ := MI.at4 (n := 0) HC.out HX.out HU3.out.bel)
      go_wp2_with fail
      refine (namesPlace_any x _).mono ?_
      rintro e4 u4 ⟨rfl, b4⟩
      have HU4 : Hid (NP w u4 (.slice (some ⟨g3, 0, none⟩) (0 + 1) cap3) ([] ++ [((e : Int) + 1)])) := HU3.out.keep b4
      clear b4
      clear x0 x1 x2 x3
      cases hgo : goesB x
      · go_wp2
        go_ret
        exact ⟨_, rfl, by rw [placesL_on xs x e h1 (by rw [hgo]; exact Bool.false_ne_true)]; exact HU4.out.row, HU4.out.bel⟩
      · obtain ⟨hc0, hc1⟩ := HG.out e x HX.out hgo
        have f5 := HU4.out.row.cellAt 0 (by simp)
        simp only [List.nil_append, List.flatMap_cons, intCell, List.cons_append, List.getElem?_cons_zero] at f5
        go_wp2_with fail
        refine (contains_one g3 cap3 ((e : Int) + 1) x.c _ f5).mono ?_
        rintro e5 u5 ⟨rfl, hu⟩
        have hu2 := hu.symm
        clear hu
        subst hu2
        by_cases heq : x.c = (e : Int) + 1
        · rw [show decide (x.c = (e : Int) + 1) = true from by simpa using heq]
          go_wp2
          go_ret
          exact ⟨_, rfl, by rw [placesL_eq xs x e h1 hgo (by rw [heq]; push_cast; rfl)]; exact HU4.out.row, HU4.out.bel⟩
        · rw [show decide (x.c = (e : Int) + 1) = false from by simpa using heq]
          go_wp2_with (at_builtin; refine wpList_append_lies _ rfl _ _ 33 rfl w.heap.size 2 k0 (.int .i64 0) 1 8 Try.underlying33 hk hx0 hx1 hx2 rfl (by decide) _ (([] ++ [((e : Int) + 1)]) : List Int).length ((([] ++ [((e : Int) + 1)]) : List Int).flatMap intCell) rfl (HU4.out.keep (below_alloc _ (.cells #[.int .i64 (x.c)] 2))).row ⟨u4.heap.size, 0, none⟩ 1 1 [.int .i64 (x.c)] rfl rfl (one_cell u4 (x.c)) (fun u hu => by simp at hu; subst hu; rfl) (by omega) (by simp [maxLen]) (by simp) (HU4.out.keep (below_alloc _ (.cells #[.int .i64 (x.c)] 2))).bel.size _ rfl ?_; intro g5 cap5 w5 hown hgrow hat hlt3; have HU5 : Hid (NP w w5 (.slice (some ⟨g5, 0, none⟩) ((([] ++ [((e : Int) + 1)]) : List Int).length + 1) cap5) (([] ++ [((e : Int) + 1)]) ++ [x.c])) := HU4.out.app hown rfl hgrow; clear hown hgrow hat hlt3)
          go_wp2
          go_ret
          exact ⟨_, rfl, by rw [placesL_ne xs x e h1 hgo (fun q => heq (by rw [q]; push_cast; rfl))]; exact HU5.out.row, HU5.out.bel⟩
    · have h1 : ¬ (onB x = true ∧ e + 1 < xs.length) := fun q => hb (by rw [← HL.out]; exact q.2)
      rw [show decide (0 ≤ (e : Int) + 1 ∧ (e : Int) + 1 < (n : Int)) = false from by simp; omega]
      obtain ⟨x0, x1, x2, x3⟩ := MI.at4 (n := 0) HC.out HX.out HU1.out.bel
      go_wp2_with fail
      refine (namesPlace_any x _).mono ?_
      rintro e4 u4 ⟨rfl, b4⟩
      have HU4 : Hid (NP w u4 (.slice none 0 0) []) := HU1.out.keep b4
      clear b4
      clear x0 x1 x2 x3
      cases hgo : goesB x
      · go_wp2
        go_ret
        exact ⟨_, rfl, by rw [placesL_no xs x e h1 (by rw [hgo]; exact Bool.false_ne_true)]; exact HU4.out.row, HU4.out.bel⟩
      · obtain ⟨hc0, hc1⟩ := HG.out e x HX.out hgo
        go_wp2_with fail
        refine (contains_none none 0 x.c _).mono ?_
        rintro e5 u5 ⟨rfl, hu⟩
        have hu2 := hu.symm
        clear hu
        subst hu2
        go_wp2_with (at_builtin; refine wpList_append_lies _ rfl _ _ 33 rfl w.heap.size 2 k0 (.int .i64 0) 1 8 Try.underlying33 hk hx0 hx1 hx2 rfl (by decide) _ ([] : List Int).length (([] : List Int).flatMap intCell) rfl (HU4.out.keep (below_alloc _ (.cells #[.int .i64 (x.c)] 2))).row ⟨u4.heap.size, 0, none⟩ 1 1 [.int .i64 (x.c)] rfl rfl (one_cell u4 (x.c)) (fun u hu => by simp at hu; subst hu; rfl) (by omega) (by simp [maxLen]) (by simp) (HU4.out.keep (below_alloc _ (.cells #[.int .i64 (x.c)] 2))).bel.size _ rfl ?_; intro g3 cap3 w3 hown hgrow hat hlt3; have HU5 : Hid (NP w w3 (.slice (some ⟨g3, 0, none⟩) (0 + 1) cap3) ([] ++ [x.c])) := HU4.out.app hown rfl hgrow; clear hown hgrow hat hlt3)
        go_wp2
        go_ret
        exact ⟨_, rfl, by rw [placesL_go xs x e h1 hgo]; exact HU5.out.row, HU5.out.bel⟩
end Go.Proofs.Ytdbaghmjomdmbaa
