import Derived.Test.YtifpjgdnikkekaaGreatSh41
import Derived.Deep.AppendLies
import Derived.Test.YtifpjgdnikkekaaGreatSh25
import Derived.Test.YtifpjgdnikkekaaGreatSh39
import Derived.Test.YtifpjgdnikkekaaGreatSh9
import Derived.Deep.RegionWith
namespace Go.Proofs.YtifpjgdnikkekaaGreat
open Go.ChangeShapes Go.WideShapes Go.ChangeAt Go.RowKit
set_option linter.unusedVariables false
theorem placesL_on (xs : List MI) (x : MI) (e : Nat) (h1 : onB x = true ∧ e + 1 < xs.length) (h2 : ¬ goesB x = true) : placesL xs x e = [] ++ [((e : Int) + 1)] := by
  unfold placesL
  rw [if_pos h1, if_neg (fun q => h2 q.1)]
  rfl
theorem placesL_eq (xs : List MI) (x : MI) (e : Nat) (h1 : onB x = true ∧ e + 1 < xs.length) (h2 : goesB x = true) (h : x.c = ((e + 1 : Nat) : Int)) : placesL xs x e = [] ++ [((e : Int) + 1)] := by
  unfold placesL
  rw [if_pos h1, if_neg (fun q => q.2 ⟨h1.1, h1.2, h⟩)]
  rfl
theorem placesL_ne (xs : List MI) (x : MI) (e : Nat) (h1 : onB x = true ∧ e + 1 < xs.length) (h2 : goesB x = true) (h : ¬ x.c = ((e + 1 : Nat) : Int)) : placesL xs x e = [] ++ [((e : Int) + 1)] ++ [x.c] := by
  unfold placesL
  rw [if_pos h1, if_pos ⟨h2, fun q => h q.2.2⟩]
  rfl
theorem placesL_go (xs : List MI) (x : MI) (e : Nat) (h1 : ¬ (onB x = true ∧ e + 1 < xs.length)) (h2 : goesB x = true) : placesL xs x e = [] ++ [x.c] := by
  unfold placesL
  rw [if_neg h1, if_pos ⟨h2, fun q => h1 ⟨q.1, q.2.1⟩⟩]
theorem placesL_no (xs : List MI) (x : MI) (e : Nat) (h1 : ¬ (onB x = true ∧ e + 1 < xs.length)) (h2 : ¬ goesB x = true) : placesL xs x e = [] := by
  unfold placesL
  rw [if_neg h1, if_neg (fun q => h2 q.1)]
  rfl
set_option maxHeartbeats 4000000 in
set_option maxRecDepth 100000 in
theorem placesFrom_any (s : Value) (xs : List MI) (x : MI) (e : Nat) (w : World) (hn : xs.length ≤ 1024) (hp : PlacesOk xs) (hx : xs[e]? = some x) (h : Rd w 4 s xs.length (xs.flatMap MI.cells)) :
    Calls Tryz.prog 125 #[s, .int .i64 (e : Int)] w fun e1 w' => ∃ r, e1 = .returned r ∧ w'.ownsRow w.heap.size 2 1 r (placesL xs x e).length ((placesL xs x e).flatMap intCell) ∧ Below w.heap.size w w' := by
  obtain ⟨k0, hk, hx0, hx1, hx2⟩ := info_parts info64
  have hen : e < xs.length := (List.getElem?_eq_some_iff.1 hx).1
  have HX : Hid (xs[e]? = some x) := hx
  have HG : Hid (PlacesOk xs) := hp
  rcases h.2 with ⟨e0, _⟩ | ⟨g, o, c, rfl, hc1⟩
  · omega
  have HC : Hid (∀ j v, (xs.flatMap MI.cells)[j]? = some v → w.cell? ⟨g, o + j, none⟩ = some v) := hc1
  clear h hc1 hp hx
  generalize hLL : xs.length = n at hn hen
  have HL : Hid (xs.length = n) := hLL
  clear hLL
  have hel : (e : Int) < (n : Int) := by omega
  have HU0 : Hid (NP w w (.slice none 0 0) []) := ⟨Below.refl _ _, World.ownsRow_nil _ _ _ _⟩
  obtain ⟨x0, x1, x2, x3⟩ := MI.at4 (n := 0) HC.out HX.out (Below.refl w.heap.size w)
  go_enter Tryz.func125, Tryz.ntmps125
  go_wp2_with fail
  refine (goesOn_any x _).mono ?_
  rintro e1 u1 ⟨rfl, b1⟩
  have HU1 : Hid (NP w u1 (.slice none 0 0) []) := HU0.out.keep b1
  clear b1 x0 x1 x2 x3 HU0
  cases hon : onB x
  · have h1 : ¬ (onB x = true ∧ e + 1 < xs.length) := fun q => by rw [hon] at q; exact absurd q.1 Bool.false_ne_true
    obtain ⟨x0, x1, x2, x3⟩ := MI.at4 (n := 0) HC.out HX.out HU1.out.bel
    go_wp2_with fail
    refine (namesPlace_any x _).mono ?_
    rintro e4 u4 ⟨rfl, b4⟩
    have HU4 : Hid (NP w u4 (.slice none 0 0) []) := HU1.out.keep b4
    clear b4
    clear x0 x1 x2 x3
    cases hgo : goesB x
    · go_wp2
      go_ret
      exact ⟨_, rfl, by rw [placesL_no xs x e h1 (by rw [hgo]; exact Bool.false_ne_true)]; exact HU4.out.row, HU4.out.bel⟩
    · obtain ⟨hc0, hc1⟩ := HG.out e x HX.out hgo
      go_wp2_with fail
      refine (contains_none none 0 x.c _).mono ?_
      rintro e5 u5 ⟨rfl, hu⟩
      have hu2 := hu.symm
      clear hu
      subst hu2
      go_wp2_with (at_builtin; refine wpList_append_lies _ rfl _ _ 48 rfl w.heap.size 2 k0 (.int .i64 0) 1 8 Tryz.underlying48 hk hx0 hx1 hx2 rfl (by decide) _ ([] : List Int).length (([] : List Int).flatMap intCell) rfl (HU4.out.keep (below_alloc _ (.cells #[.int .i64 (x.c)] 2))).row ⟨u4.heap.size, 0, none⟩ 1 1 [.int .i64 (x.c)] rfl rfl (one_cell u4 (x.c)) (fun u hu => by simp at hu; subst hu; rfl) (by omega) (by simp [maxLen]) (by simp) (HU4.out.keep (below_alloc _ (.cells #[.int .i64 (x.c)] 2))).bel.size _ rfl ?_; intro g3 cap3 w3 hown hgrow hat hlt3; have HU5 : Hid (NP w w3 (.slice (some ⟨g3, 0, none⟩) (0 + 1) cap3) ([] ++ [x.c])) := HU4.out.app hown rfl hgrow; clear hown hgrow hat hlt3)
      go_wp2
      go_ret
      exact ⟨_, rfl, by rw [placesL_go xs x e h1 hgo]; exact HU5.out.row, HU5.out.bel⟩
  · go_wp2_with fail
    refine (isOneOf_f ((e : Int) + 1) n _ (by omega)).mono ?_
    rintro e2 u2 ⟨rfl, hu⟩
    have hu2 := hu.symm
    clear hu
    subst hu2
    by_cases hb : e + 1 < n
    · have h1 : onB x = true ∧ e + 1 < xs.length := ⟨hon, by rw [HL.out]; exact hb⟩
      rw [show decide (0 ≤ (e : Int) + 1 ∧ (e : Int) + 1 < (n : Int)) = true from by simp; omega]
      obtain ⟨x0, x1, x2, x3⟩ := MI.at4 (n := 0) HC.out HX.out HU1.out.bel
      go_wp2_with (at_builtin; refine wpList_append_lies _ rfl _ _ 48 rfl w.heap.size 2 k0 (.int .i64 0) 1 8 Tryz.underlying48 hk hx0 hx1 hx2 rfl (by decide) _ ([] : List Int).length (([] : List Int).flatMap intCell) rfl (HU1.out.keep (below_alloc _ (.cells #[.int .i64 ((e : Int) + 1)] 2))).row ⟨u1.heap.size, 0, none⟩ 1 1 [.int .i64 ((e : Int) + 1)] rfl rfl (one_cell u1 ((e : Int) + 1)) (fun u hu => by simp at hu; subst hu; rfl) (by omega) (by simp [maxLen]) (by simp) (HU1.out.keep (below_alloc _ (.cells #[.int .i64 ((e : Int) + 1)] 2))).bel.size _ rfl ?_; intro g3 cap3 w3 hown hgrow hat hlt3; have HU3 : Hid (NP w w3 (.slice (some ⟨g3, 0, none⟩) (0 + 1) cap3) ([] ++ [(e : Int) + 1])) := HU1.out.app hown rfl hgrow; clear hown hgrow hat hlt3; obtain ⟨x0, x1, x2, x3⟩ := MI.at4 (n := 0) HC.out HX.out HU3.out.bel)
      go_wp2_with fail
      refine (namesPlace_any x _).mono ?_
      rintro e4 u4 ⟨rfl, b4⟩
      have HU4 : Hid (NP w u4 (.slice (some ⟨g3, 0, none⟩) (0 + 1) cap3) ([] ++ [((e : Int) + 1)])) := HU3.out.keep b4
      clear b4
      clear x0 x1 x2 x3
      cases hgo : goesB x
      · go_wp2
        go_ret
        exact ⟨_, rfl, by rw [placesL_on xs x e h1 (by rw [hgo]; exact Bool.false_ne_true)]; exact HU4.out.row, HU4.out.bel⟩
      · obtain ⟨hc0, hc1⟩ := HG.out e x HX.out hgo
        have f5 := HU4.out.row.cellAt 0 (by simp)
        simp only [List.nil_append, List.flatMap_cons, intCell, List.cons_append, List.getElem?_cons_zero] at f5
        go_wp2_with fail
        refine (contains_one g3 cap3 ((e : Int) + 1) x.c _ f5).mono ?_
        rintro e5 u5 ⟨rfl, hu⟩
        have hu2 := hu.symm
        clear hu
        subst hu2
        by_cases heq : x.c = (e : Int) + 1
        · rw [show decide (x.c = (e : Int) + 1) = true from by simpa using heq]
          go_wp2
          go_ret
          exact ⟨_, rfl, by rw [placesL_eq xs x e h1 hgo (by rw [heq]; push_cast; rfl)]; exact HU4.out.row, HU4.out.bel⟩
        · rw [show decide (x.c = (e : Int) + 1) = false from by simpa using heq]
          go_wp2_with (at_builtin; refine wpList_append_lies _ rfl _ _ 48 rfl w.heap.size 2 k0 (.int .i64 0) 1 8 Tryz.underlying48 hk hx0 hx1 hx2 rfl (by decide) _ (([] ++ [((e : Int) + 1)]) : List Int).length ((([] ++ [((e : Int) + 1)]) : List Int).flatMap intCell) rfl (HU4.out.keep (below_alloc _ (.cells #[.int .i64 (x.c)] 2))).row ⟨u4.heap.size, 0, none⟩ 1 1 [.int .i64 (x.c)] rfl rfl (one_cell u4 (x.c)) (fun u hu => by simp at hu; subst hu; rfl) (by omega) (by simp [maxLen]) (by simp) (HU4.out.keep (below_alloc _ (.cells #[.int .i64 (x.c)] 2))).bel.size _ rfl ?_; intro g5 cap5 w5 hown hgrow hat hlt3; have HU5 : Hid (NP w w5 (.slice (some ⟨g5, 0, none⟩) ((([] ++ [((e : Int) + 1)]) : List Int).length + 1) cap5) (([] ++ [((e : Int) + 1)]) ++ [x.c])) := HU4.out.app hown rfl hgrow; clear hown hgrow hat hlt3)
          go_wp2
          go_ret
          exact ⟨_, rfl, by rw [placesL_ne xs x e h1 hgo (fun q => heq (by rw [q]; push_cast; rfl))]; exact HU5.out.row, HU5.out.bel⟩
    · have h1 : ¬ (onB x = true ∧ e + 1 < xs.length) := fun q => hb (by rw [← HL.out]; exact q.2)
      rw [show decide (0 ≤ (e : Int) + 1 ∧ (e : Int) + 1 < (n : Int)) = false from by simp; omega]
      obtain ⟨x0, x1, x2, x3⟩ := MI.at4 (n := 0) HC.out HX.out HU1.out.bel
      go_wp2_with fail
      refine (namesPlace_any x _).mono ?_
      rintro e4 u4 ⟨rfl, b4⟩
      have HU4 : Hid (NP w u4 (.slice none 0 0) []) := HU1.out.keep b4
      clear b4
      clear x0 x1 x2 x3
      cases hgo : goesB x
      · go_wp2
        go_ret
        exact ⟨_, rfl, by rw [placesL_no xs x e h1 (by rw [hgo]; exact Bool.false_ne_true)]; exact HU4.out.row, HU4.out.bel⟩
      · obtain ⟨hc0, hc1⟩ := HG.out e x HX.out hgo
        go_wp2_with fail
        refine (contains_none none 0 x.c _).mono ?_
        rintro e5 u5 ⟨rfl, hu⟩
        have hu2 := hu.symm
        clear hu
        subst hu2
        go_wp2_with (at_builtin; refine wpList_append_lies _ rfl _ _ 48 rfl w.heap.size 2 k0 (.int .i64 0) 1 8 Tryz.underlying48 hk hx0 hx1 hx2 rfl (by decide) _ ([] : List Int).length (([] : List Int).flatMap intCell) rfl (HU4.out.keep (below_alloc _ (.cells #[.int .i64 (x.c)] 2))).row ⟨u4.heap.size, 0, none⟩ 1 1 [.int .i64 (x.c)] rfl rfl (one_cell u4 (x.c)) (fun u hu => by simp at hu; subst hu; rfl) (by omega) (by simp [maxLen]) (by simp) (HU4.out.keep (below_alloc _ (.cells #[.int .i64 (x.c)] 2))).bel.size _ rfl ?_; intro g3 cap3 w3 hown hgrow hat hlt3; have HU5 : Hid (NP w w3 (.slice (some ⟨g3, 0, none⟩) (0 + 1) cap3) ([] ++ [x.c])) := HU4.out.app hown rfl hgrow; clear hown hgrow hat hlt3)
        go_wp2
        go_ret
        exact ⟨_, rfl, by rw [placesL_go xs x e h1 hgo]; exact HU5.out.row, HU5.out.bel⟩
end Go.Proofs.YtifpjgdnikkekaaGreat
namespace Go.Proofs.YtifpjgdnikkekaaGreat
open Go.ChangeShapes Go.WideShapes Go.ChangeAt Go.RowKit
set_option linter.unusedVariables false
/-- Shapes hold at an instruction, as the program asks it. -/
theorem holds_iff {p : MP} {f : MF} {shs : List (List Int)} {k : Nat} {x : MI} {sh : List Int} (hlast : onB x = true → k + 1 < f.code.length) (hpl : goesB x = true → 0 ≤ x.c) :
    HoldsT p f shs k x sh ↔ sh.length ≤ 64 ∧ sh.all isT = true ∧ codeI p f x sh = 0 ∧ ∀ z ∈ placesL f.code x k, shs[z.toNat]? = some (outI p f x sh) := by
  have hon : onB x = true ↔ x.op ≠ 29 ∧ x.op ≠ 25 := by simp [onB]; exact And.comm
  constructor
  · intro h
    have hc : codeI p f x sh = 0 := by
      unfold codeI
      split
      · rename_i e; rw [if_pos (h.ret e)]
      · rename_i e; exact h.code e
    refine ⟨h.high, h.types, hc, fun z hz => ?_⟩
    unfold placesL at hz
    rw [List.mem_append] at hz
    rcases hz with hz | hz
    · split at hz
      · rename_i e
        simp only [List.mem_singleton] at hz
        subst hz
        have e2 := hon.1 e.1
        rw [Int.toNat_natCast, h.next e2.1 e2.2]
        unfold outI
        rw [if_neg e2.1]
      · cases hz
    · split at hz
      · rename_i e
        simp only [List.mem_singleton] at hz
        subst hz
        have hg := goesB_iff.1 e.1
        rw [h.named hg]
        unfold outI
        rw [if_neg (by unfold goesT at hg; omega)]
      · cases hz
  · rintro ⟨h1, h2, h3, h4⟩
    refine ⟨h2, h1, fun e => ?_, fun e => ?_, fun e e2 => ?_, fun e => ?_⟩
    · unfold codeI at h3
      rw [if_pos e] at h3
      split at h3
      · assumption
      · cases h3
    · unfold codeI at h3
      rw [if_neg e] at h3
      exact h3
    · have ho := hon.2 ⟨e, e2⟩
      have := h4 ((k + 1 : Nat) : Int) (by unfold placesL; rw [if_pos ⟨ho, hlast ho⟩]; simp)
      rw [Int.toNat_natCast] at this
      rw [this]
      unfold outI
      rw [if_neg e]
    · have hg := goesB_iff.2 e
      have h29 : x.op ≠ 29 := by unfold goesT at e; omega
      have ho : outI p f x sh = outT p f x sh := by unfold outI; rw [if_neg h29]
      rw [← ho]
      by_cases hq : onB x = true ∧ k + 1 < f.code.length ∧ x.c = ((k + 1 : Nat) : Int)
      · rw [hq.2.2]
        exact h4 ((k + 1 : Nat) : Int) (by unfold placesL; rw [if_pos ⟨hq.1, hq.2.1⟩]; simp)
      · exact h4 x.c (by unfold placesL; rw [List.mem_append]; exact .inr (by rw [if_pos ⟨hg, hq⟩]; simp))
theorem placesL_in {xs : List MI} (hp : PlacesOk xs) {x : MI} {e : Nat} (hx : xs[e]? = some x) : ∀ z ∈ placesL xs x e, ∃ q : Nat, z = q ∧ q < xs.length := fun z hz => by
  unfold placesL at hz
  rw [List.mem_append] at hz
  rcases hz with hz | hz
  · split at hz
    · rename_i e
      simp only [List.mem_singleton] at hz
      exact ⟨_, hz, e.2⟩
    · cases hz
  · split at hz
    · rename_i e2
      simp only [List.mem_singleton] at hz
      have := hp e x hx e2.1
      exact ⟨x.c.toNat, by omega, by omega⟩
    · cases hz
theorem placesL_len (xs : List MI) (x : MI) (e : Nat) : (placesL xs x e).length ≤ 2 := by
  unfold placesL
  rw [List.length_append]
  split <;> split <;> simp
end Go.Proofs.YtifpjgdnikkekaaGreat
namespace Go.Proofs.YtifpjgdnikkekaaGreat
open Go.ChangeShapes Go.WideShapes Go.ChangeAt Go.RowKit
set_option linter.unusedVariables false
/-- What is asked of a scope whose shapes are looked at. -/
structure ShIn (w : World) (v : VP) (p : MP) (g : VF) (f : MF) (shv : Value) (shs : List (List Int)) : Prop where
  ps : p.small
  pf : FaultIs p 0
  fs : f.small
  rp : RdP w v p
  rf : RdF w g f
  rs : RdRc w shv shs
  len : shs.length = f.code.length
  cl : f.code.length ≤ 1024
  pl : PlacesOk f.code
  rows : ∀ r ∈ shs, r.length ≤ 1048576
  ok : ∀ x ∈ f.code, InstrOk p f x
theorem ShIn.keep {w w' : World} {v : VP} {p : MP} {g : VF} {f : MF} {shv : Value} {shs : List (List Int)} (h : ShIn w v p g f shv shs) (hb : Below w.heap.size w w') : ShIn w' v p g f shv shs := ⟨h.ps, h.pf, h.fs, h.rp.keep hb (Nat.le_refl _), h.rf.keep hb (Nat.le_refl _), h.rs.keep hb (Nat.le_refl _), h.len, h.cl, h.pl, h.rows, h.ok⟩
set_option maxHeartbeats 8000000 in
set_option maxRecDepth 100000 in
theorem shapeHolds_any (v : VP) (p : MP) (g : VF) (f : MF) (shv : Value) (shs : List (List Int)) (k : Nat) (x : MI) (sh : List Int) (w : World) (h : ShIn w v p g f shv shs) (hx : f.code[k]? = some x) (hsh : shs[k]? = some sh) (hlast : onB x = true → k + 1 < f.code.length) :
    Calls Tryz.prog 88 #[.agg #[v.r, v.k, v.f, v.t, g.p, .int .i64 f.result, g.l, g.c], shv, .int .i64 (k : Int)] w fun e w' => SaysIff e (HoldsT p f shs k x sh) ∧ Below w.heap.size w w' := by
  have HQ : Hid (HoldsT p f shs k x sh ↔ sh.length ≤ 64 ∧ sh.all isT = true ∧ codeI p f x sh = 0 ∧ ∀ z ∈ placesL f.code x k, shs[z.toNat]? = some (outI p f x sh)) := holds_iff hlast (fun e => (h.pl k x hx e).1)
  obtain ⟨r1, r3, k1, k3, t1, t3, f1, f3, rfl⟩ := h.rp.sl
  obtain ⟨g1, g3, g4, g6, g7, g9, rfl⟩ := rdF_sl h.rf
  obtain ⟨ha, hc, rfl⟩ : ∃ a c, shv = .slice a shs.length c := by obtain ⟨_, _, h2, _⟩ := h.rs; exact h2.is_slice
  obtain ⟨gg, oo, sa, sc, eha, j0, hr0, hcp⟩ := shape_row h.rs rfl hsh
  subst eha
  obtain ⟨gi, oi, ci, ei, i0, i1, i2, i3⟩ := in_at h.rf.2.2 hx
  simp only [Value.slice.injEq, true_and] at ei
  obtain ⟨rfl, rfl⟩ := ei
  have H : Hid (ShIn w ⟨.slice r1 p.regions.length r3, .slice k1 p.consts.length k3, .slice f1 p.funcs.length f3, .slice t1 p.certs.length t3⟩ p ⟨.slice g1 f.params.length g3, .slice g4 f.locals.length g6, .slice (some ⟨gi, oi, none⟩) f.code.length g9⟩ f (.slice (some ⟨gg, oo, none⟩) shs.length hc) shs ∧ f.code[k]? = some x ∧ shs[k]? = some sh ∧ Rd w 1 (.slice sa sh.length sc) sh.length (sh.flatMap intCell) ∧ sh.length ≤ 1048576) := ⟨h, hx, hsh, hr0, h.rows sh (List.mem_of_getElem? hsh)⟩
  have hkc : k < f.code.length := (List.getElem?_eq_some_iff.1 hx).1
  have hks : k < shs.length := (List.getElem?_eq_some_iff.1 hsh).1
  have hcl : f.code.length ≤ 1024 := h.cl
  have HCU : Hid (∀ u, Below w.heap.size w u → u.cell? ⟨gg, oo + k, none⟩ = some (.slice sa sh.length sc) ∧ u.cell? ⟨gi, oi + k * 4, none⟩ = some (.int .i64 x.op) ∧ u.cell? ⟨gi, oi + k * 4 + 1, none⟩ = some (.int .i64 x.a) ∧ u.cell? ⟨gi, oi + k * 4 + 2, none⟩ = some (.int .i64 x.b) ∧ u.cell? ⟨gi, oi + k * 4 + 3, none⟩ = some (.int .i64 x.c)) := fun u hu => ⟨bcell_lt hu j0, bcell_lt hu i0, bcell_lt hu i1, bcell_lt hu i2, bcell_lt hu i3⟩
  have hSL : shs.length ≤ 1024 := by rw [h.len]; exact hcl
  clear h hx hsh hr0 hcp j0 i0 i1 i2 i3 hlast
  generalize p.regions.length = nr at H ⊢
  generalize p.consts.length = nk at H ⊢
  generalize p.funcs.length = nf at H ⊢
  generalize p.certs.length = nt at H ⊢
  generalize f.params.length = np at H ⊢
  generalize f.locals.length = nl at H ⊢
  generalize hnc : f.code.length = nc at H hkc hcl ⊢
  have HNC : Hid (f.code.length = nc) := hnc
  clear hnc
  generalize hns : shs.length = ns at H hks hSL ⊢
  have HNS : Hid (shs.length = ns) := hns
  clear hns
  have hkI : (k : Int) < (nc : Int) := by omega
  have hkS : (k : Int) < (ns : Int) := by omega
  have E0 : Hid (Blk (w.alloc (.cells #[.slice r1 nr r3, .slice k1 nk k3, .slice f1 nf f3, .slice t1 nt t3, .slice g1 np g3, .int .i64 f.result, .slice g4 nl g6, .slice (some ⟨gi, oi, none⟩) nc g9] 85)) w.heap.size #[.slice r1 nr r3, .slice k1 nk k3, .slice f1 nf f3, .slice t1 nt t3, .slice g1 np g3, .int .i64 f.result, .slice g4 nl g6, .slice (some ⟨gi, oi, none⟩) nc g9] 85 ∧ Below w.heap.size w (w.alloc (.cells #[.slice r1 nr r3, .slice k1 nk k3, .slice f1 nf f3, .slice t1 nt t3, .slice g1 np g3, .int .i64 f.result, .slice g4 nl g6, .slice (some ⟨gi, oi, none⟩) nc g9] 85))) := ⟨Blk.new _ _ _, below_alloc _ _⟩
  go_enter Tryz.func88, Tryz.ntmps88
  go_upto_region 1 with fail
  refine wp_world (fun u => Hid (Blk u w.heap.size #[.slice r1 nr r3, .slice k1 nk k3, .slice f1 nf f3, .slice t1 nt t3, .slice g1 np g3, .int .i64 f.result, .slice g4 nl g6, .slice (some ⟨gi, oi, none⟩) nc g9] 85 ∧ Below w.heap.size w u)) E0 ?_
  rintro U E1
  clear E0
  obtain ⟨j0, i0, i1, i2, i3⟩ := HCU.out U E1.out.2
  by_cases h64 : 64 < sh.length
  · have h64' : (64 : Int) < (sh.length : Int) := by omega
    have HN : Hid (¬ HoldsT p f shs k x sh) := fun e => by have := (HQ.out.1 e).1; omega
    clear h64
    go_wp2_with fail
    go_ret
    exact ⟨.no HN.out, E1.out.2⟩
  have h64' : ¬ (64 : Int) < (sh.length : Int) := by omega
  have H64 : Hid (sh.length ≤ 64) := by show sh.length ≤ 64; omega
  clear h64
  go_wp2_with fail
  refine (allTypes_any (.slice sa sh.length sc) sh U H.out.2.2.2.2 (H.out.2.2.2.1.keep E1.out.2 (Nat.le_refl _))).mono ?_
  rintro e u9 ⟨rfl, rfl⟩
  cases hty : sh.all isT with
  | false =>
    have HN : Hid (¬ HoldsT p f shs k x sh) := fun e => by have := (HQ.out.1 e).2.1; rw [hty] at this; cases this
    clear hty
    go_wp2_with fail
    go_ret
    exact ⟨.no HN.out, E1.out.2⟩
  | true =>
    have HTY : Hid (sh.all isT = true) := hty
    clear hty
    go_wp2_with fail
    refine (stackOf_any (.slice sa sh.length sc) sh u9 (H.out.2.2.2.1.keep E1.out.2 (Nat.le_refl _)) H.out.2.2.2.2).mono ?_
    rintro e u1 ⟨rfl, ⟨V, hst⟩, b1⟩
    have HSW : Hid (ShIn u9 ⟨.slice r1 nr r3, .slice k1 nk k3, .slice f1 nf f3, .slice t1 nt t3⟩ p ⟨.slice g1 np g3, .slice g4 nl g6, .slice (some ⟨gi, oi, none⟩) nc g9⟩ f (.slice (some ⟨gg, oo, none⟩) ns hc) shs) := H.out.1.keep E1.out.2
    have E2 : Hid (Blk u1 w.heap.size #[.slice r1 nr r3, .slice k1 nk k3, .slice f1 nf f3, .slice t1 nt t3, .slice g1 np g3, .int .i64 f.result, .slice g4 nl g6, .slice (some ⟨gi, oi, none⟩) nc g9] 85 ∧ Below w.heap.size w u1 ∧ Below u9.heap.size u9 u1 ∧ Stk u1 u9.heap.size V sh ∧ Below w.heap.size w u9 ∧ w.heap.size < u9.heap.size) := ⟨E1.out.1.keep b1, below_on E1.out.2 (Nat.le_refl _) b1, b1, hst, E1.out.2, E1.out.1.lt⟩
    clear hst b1 E1 j0 i0 i1 i2 i3
    go_upto_region 4 with fail
    have bD := below_drew1 u1
    obtain ⟨s0, s1, s2, s3, s4, s5, s6, s7⟩ := cel8 (E2.out.1.keep bD)
    obtain ⟨j0, i0, i1, i2, i3⟩ := HCU.out u1.drew (below_on E2.out.2.1 (Nat.le_refl _) bD)
    clear bD
    go_cut [38] (fun s wx => ∃ bb : Bool, s = .bool bb ∧ Hid (bb = true ↔ ¬ codeI p f x sh = 0) ∧ Hid (ChT u1.drew u9.heap.size V (codeI p f x sh) (outI p f x sh) wx))
    case first =>
      go_region_with (go_at_call 120; refine (change_any ⟨.slice r1 nr r3, .slice k1 nk k3, .slice f1 nf f3, .slice t1 nt t3⟩ p ⟨.slice g1 np g3, .slice g4 nl g6, .slice (some ⟨gi, oi, none⟩) nc g9⟩ f x u9.heap.size V sh u9 u1.drew HSW.out.ps HSW.out.pf HSW.out.fs HSW.out.rp HSW.out.rf (HSW.out.ok x (List.mem_of_getElem? H.out.2.1)) (Nat.le_refl _) (below_on E2.out.2.2.1 (Nat.le_refl _) (below_drew1 _)) (E2.out.2.2.2.1.keep (below_drew1 _)) H.out.2.2.2.2).mono ?_; rintro e u2 ⟨rfl, hch⟩; have HCH : Hid (ChT u1.drew u9.heap.size V (codeI p f x sh) (outI p f x sh) u2) := hch; clear hch)
      all_goals
        go_wp2_with fail
        go_meet
        exact ⟨_, rfl, by show (_ = true ↔ _); simp, HCH⟩
    case rest =>
      obtain ⟨bb, rfl, HBB, HCH⟩ := hcut
      clear s0 s1 s2 s3 s4 s5 s6 s7 j0 i0 i1 i2 i3
      obtain ⟨W2, hW2⟩ : ∃ W, W = wc := ⟨_, rfl⟩
      subst hW2
      have HB9 : Hid (Below u9.heap.size u9 W2) := (below_on E2.out.2.2.1 (Nat.le_refl _) (below_drew1 _)).trans (HCH.out.1.below (Nat.le_trans E2.out.2.2.1.size (Nat.le_refl _)) (fun j hj e => by have := (RStk.ge E2.out.2.2.2.1 e).1; omega))
      have HBW : Hid (Below w.heap.size w W2) := below_on E2.out.2.2.2.2.1 (Nat.le_refl _) HB9.out
      have HSB : Hid (Blk W2 w.heap.size #[.slice r1 nr r3, .slice k1 nk k3, .slice f1 nf f3, .slice t1 nt t3, .slice g1 np g3, .int .i64 f.result, .slice g4 nl g6, .slice (some ⟨gi, oi, none⟩) nc g9] 85) := HCH.out.1.blk (E2.out.1.keep (below_drew1 _)) (fun e => by have := (RStk.ge E2.out.2.2.2.1 e).1; have := E2.out.2.2.2.2.2; omega)
      cases bb
      case true =>
        have HN : Hid (¬ HoldsT p f shs k x sh) := fun e => HBB.out.1 (by first | rfl | trivial) (HQ.out.1 e).2.2.1
        go_wp2_with fail
        go_ret
        exact ⟨.no HN.out, HBW.out⟩
      case false =>
        have HC0 : Hid (codeI p f x sh = 0) := Classical.byContradiction fun e => by have := HBB.out.2 e; cases this
        obtain ⟨V', hst', hvv⟩ := HCH.out.2 HC0.out
        clear hvv
        have HST : Hid (Stk W2 u9.heap.size V' (outI p f x sh)) := hst'
        have HOL : Hid ((outI p f x sh).length ≤ 1048576) := by
          have h1 := HC0.out
          show (outI p f x sh).length ≤ 1048576
          unfold codeI at h1
          unfold outI
          split
          · simp
          · rename_i hn
            rw [if_neg hn] at h1
            unfold codeT at h1
            split at h1
            · cases h1
            · split at h1
              · cases h1
              · split at h1
                · cases h1
                · omega
        clear hst' HCH HBB E2
        clear u1
        generalize u9.heap.size = S at HST HB9 ⊢
        obtain ⟨s0, s1, s2, s3, s4, s5, s6, s7⟩ := cel8 HSB.out
        go_wp2_with fail
        refine (placesFrom_any (.slice (some ⟨gi, oi, none⟩) nc g9) f.code x k W2 (by rw [HNC.out]; exact hcl) H.out.1.pl H.out.2.1 (by have := (H.out.1.keep HBW.out).rf.2.2; rw [HNC.out] at this ⊢; exact this)).mono ?_
        rintro e u3 ⟨pv, rfl, hop, b3⟩
        obtain ⟨pa, pc, epv⟩ := own_slice hop
        subst epv
        have HPI : Hid (∀ z ∈ placesL f.code x k, ∃ q : Nat, z = q ∧ q < f.code.length) := placesL_in H.out.1.pl H.out.2.1
        have hpl2 := placesL_len f.code x k
        generalize hpl : placesL f.code x k = pl at HQ hop hpl2 HPI ⊢
        clear hpl
        have E4 : Hid (Rd u3 1 (.slice pa pl.length pc) pl.length (pl.flatMap intCell) ∧ Stk u3 S V' (outI p f x sh) ∧ Below w.heap.size w u3) := ⟨Rd.of_own hop, HST.out.keep b3, below_on HBW.out (Nat.le_refl _) b3⟩
        clear hop b3 HST HBW HSB HB9 s0 s1 s2 s3 s4 s5 s6 s7
        clear W2
        generalize hpll : pl.length = ll at E4 hpl2 ⊢
        have HLL : Hid (pl.length = ll) := hpll
        clear hpll
        go_wp2_with fail
        go_loopw [9, 45] (fun _ i wr => ∃ j : Nat, j ≤ ll ∧ i = .int .i64 (j : Int) ∧ Hid ((∀ (m : Nat) z, m < j → pl[m]? = some z → shs[z.toNat]? = some (outI p f x sh)) ∧ Rd wr 1 (.slice pa ll pc) ll (pl.flatMap intCell) ∧ Stk wr S V' (outI p f x sh) ∧ Below w.heap.size w wr)) (fun _ i _ => ll - (intOf i).toNat)
        case atStart => exact ⟨0, by omega, rfl, fun m z hm => absurd hm (by omega), E4.out.1, E4.out.2.1, E4.out.2.2⟩
        case round =>
          clear E4
          obtain ⟨j, hj, rfl, HI⟩ := hrel
          by_cases hjl : j < ll
          · obtain ⟨z, hz⟩ : ∃ z, pl[j]? = some z := ⟨_, List.getElem?_eq_getElem (by rw [HLL.out]; exact hjl)⟩
            obtain ⟨q, hzq, hqc⟩ := HPI.out z (List.mem_of_getElem? hz)
            subst hzq
            obtain ⟨s1, hs1⟩ : ∃ s, shs[q]? = some s := ⟨_, List.getElem?_eq_getElem (by rw [H.out.1.len]; exact hqc)⟩
            obtain ⟨gg', oo', sb, sd, e', j1, hr1, hcp1⟩ := shape_row (H.out.1.keep HI.out.2.2.2).rs HNS.out.symm hs1
            simp only [Option.some.injEq, Addr.mk.injEq, and_true] at e'
            obtain ⟨rfl, rfl⟩ := e'
            obtain ⟨gp, op, ep, p0⟩ := row_at (a := pa) (n := ll) (c := pc) (zs := pl) (by rw [HLL.out]; exact HI.out.2.1) HLL.out.symm hz
            subst ep
            have hqS : (q : Int) < (ns : Int) := by have h1 := H.out.1.len; have h2 := HNS.out; omega
            have HZ : Hid (pl[j]? = some (q : Int) ∧ shs[q]? = some s1 ∧ Rd wr 1 (.slice sb s1.length sd) s1.length (s1.flatMap intCell) ∧ s1.length ≤ 1048576) := ⟨hz, hs1, hr1, H.out.1.rows s1 (List.mem_of_getElem? hs1)⟩
            clear hz hs1 hr1 hcp1 hqc
            go_wp2_with fail
            refine (isJust_any S V' (.slice sb s1.length sd) (outI p f x sh) s1 wr HI.out.2.2.1 HZ.out.2.2.1 HOL.out HZ.out.2.2.2).mono ?_
            rintro e u5 ⟨⟨b5, rfl, hb5⟩, bl5⟩
            have E5 : Hid (Rd u5 1 (.slice (some ⟨gp, op, none⟩) ll pc) ll (pl.flatMap intCell) ∧ Stk u5 S V' (outI p f x sh) ∧ Below w.heap.size w u5) := ⟨HI.out.2.1.keep bl5 (Nat.le_refl _), HI.out.2.2.1.keep bl5, below_on HI.out.2.2.2 (Nat.le_refl _) bl5⟩
            have HB5 : Hid (b5 = true ↔ outI p f x sh = s1) := hb5
            have HI1 : Hid (∀ (m : Nat) z, m < j → pl[m]? = some z → shs[z.toNat]? = some (outI p f x sh)) := HI.out.1
            clear hb5 bl5 HI j1 p0
            cases b5
            · have HN : Hid (¬ HoldsT p f shs k x sh) := fun e => by
                have h1 := (HQ.out.1 e).2.2.2 (q : Int) (List.mem_of_getElem? HZ.out.1)
                rw [Int.toNat_natCast, HZ.out.2.1] at h1
                have := HB5.out.2 (Option.some.inj h1).symm
                cases this
              go_wp2_with fail
              go_ret
              exact ⟨.no HN.out, E5.out.2.2⟩
            · have HN : Hid (∀ (m : Nat) z, m < j + 1 → pl[m]? = some z → shs[z.toNat]? = some (outI p f x sh)) := fun m z hm hz => by
                by_cases e : m = j
                · subst e
                  rw [HZ.out.1] at hz
                  obtain rfl := Option.some.inj hz
                  rw [Int.toNat_natCast, HZ.out.2.1, HB5.out.1 (by first | rfl | trivial)]
                · exact HI1.out m z (by omega) hz
              go_wp2_with fail
              go_roundw
              case rel => exact ⟨j + 1, by omega, by go_num, HN.out, E5.out⟩
              case measure => simp [intOf]; omega
          · have hjn : j = ll := by omega
            subst hjn
            have HY : Hid (HoldsT p f shs k x sh) := HQ.out.2 ⟨H64.out, HTY.out, HC0.out, fun z hz => by
              obtain ⟨m, hm⟩ := List.getElem?_of_mem hz
              exact HI.out.1 m z (by have := (List.getElem?_eq_some_iff.1 hm).1; rw [HLL.out] at this; exact this) hm⟩
            go_wp2_with fail
            go_ret
            exact ⟨.yes HY.out, HI.out.2.2.2⟩
end Go.Proofs.YtifpjgdnikkekaaGreat
