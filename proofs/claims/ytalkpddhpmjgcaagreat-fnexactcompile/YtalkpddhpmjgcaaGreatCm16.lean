import Derived.Test.YtalkpddhpmjgcaaGreatCm15
import Derived.OneCell
import Derived.Maps.AppendAt
import Derived.Test.YtalkpddhpmjgcaaGreatRows
import Derived.WalkKit
import Derived.ProofKit
import Derived.OpenShut
import Derived.Test.YtalkpddhpmjgcaaGreatCm3
namespace Go.Proofs.YtalkpddhpmjgcaaGreat
open Go.ChangeShapes Go.WideShapes Go.ChangeAt Go.RowKit
set_option linter.unusedVariables false
theorem Sep.sub {w : World} {base : Nat} {L M : List RowI} (h : Sep w base L) (hs : M.Sublist L) : Sep w base M := ⟨fun r hr => h.own r (hs.subset hr), h.sep.sublist hs⟩
theorem bRow.set {w : World} {base X : Nat} {t : TypeId} {k : Nat} {xs : List Value} (h : (bRow X t k xs).own w base) (i : Nat) (hi : i < k) (x : Value) : (bRow X t k (xs.set i x)).own (w.setCell ⟨X, i, none⟩ x) base := by
  have h' : w.ownsRow base t k (.slice (some ⟨X, 0, none⟩) 1 1) 1 xs := h
  have := h'.stored i x
  exact this.1
theorem Sep.setBox {w : World} {base X : Nat} {A B : List RowI} {t : TypeId} {k : Nat} {xs : List Value} (h : Sep w base (A ++ bRow X t k xs :: B)) (i : Nat) (hi : i < k) (x : Value) : Sep (w.setCell ⟨X, i, none⟩ x) base (A ++ bRow X t k (xs.set i x) :: B) :=
  h.put (xs.set i x) (bRow.set (h.own _ (by simp)) i hi x) (grown_set' (⟨rfl, rfl, rfl, Nat.le_refl _, fun _ _ _ => rfl⟩ : w.grownBy w (some X)) i x)
structure Bl (w u : World) (Ls : List RowI) : Prop where
  sep : Sep u w.heap.size Ls
  bel : Below w.heap.size w u
abbrev gb (X : Nat) (v : VP) : RowI := bRow X 31 4 [v.r, v.k, v.f, v.t]
theorem pItems_app (v : VP) (F : List (List Int × Value)) (cs : List MC) (G : List (MF × VF)) (ts : List MT) (B C : List RowI) : pItems v F cs G ts (B ++ C) = pItems v F cs G ts B ++ C := by simp [pItems, List.append_assoc]
theorem pItems_nil (v : VP) (F : List (List Int × Value)) (cs : List MC) (G : List (MF × VF)) (ts : List MT) (B : List RowI) : pItems v F cs G ts B = pItems v F cs G ts [] ++ B := by simp [pItems, List.append_assoc]
theorem fItems_snoc (G : List (MF × VF)) (y : MF × VF) : fItems (G ++ [y]) = fItems G ++ fItem y := by simp [fItems]
theorem hat_of {o : Option Nat} {g H n c : Nat} (h : o = some g ∨ g = H) : (Value.slice (some ⟨g, 0, none⟩) n c).ownBlock = o ∨ (Value.slice (some ⟨g, 0, none⟩) n c).ownBlock = some H := h.elim (fun e => .inl e.symm) (fun e => .inr (by rw [e]; rfl))
section
variable {w u u' : World} {Ls : List RowI} {v : VP} {F : List (List Int × Value)} {cs : List MC} {G : List (MF × VF)} {ts : List MT} {D : List RowI}
theorem Bl.start (w : World) : Bl w w [] := ⟨Sep.nil _ _, Below.refl _ _⟩
theorem Bl.size (h : Bl w u Ls) : w.heap.size ≤ u.heap.size := h.bel.size
theorem Bl.keep (h : Bl w u Ls) (hb : Below u.heap.size u u') : Bl w u' Ls := ⟨h.sep.keep hb, below_on h.bel (Nat.le_refl _) hb⟩
theorem Bl.box (h : Bl w u Ls) (t : TypeId) (q : Nat) (xs : List Value) (hk : xs.length = q) : Bl w (u.alloc (.cells xs.toArray t)) (Ls ++ [bRow u.heap.size t q xs]) := ⟨h.sep.box h.size t q xs hk, below_on h.bel (Nat.le_refl _) (below_alloc _ _)⟩
theorem Bl.rows (h : Bl w u Ls) (hb : Below u.heap.size u u') {M : List RowI} (hs : Sep u' u.heap.size M) : Bl w u' (Ls ++ M) :=
  ⟨(h.keep hb).sep.app hs (fun x hx g hgx => (h.sep.lt x hx g hgx).2) h.size, (h.keep hb).bel⟩
theorem Bl.row (h : Bl w u Ls) (hb : Below u.heap.size u u') {r : RowI} (ho : r.own u' u.heap.size) : Bl w u' (Ls ++ [r]) :=
  h.rows hb ⟨fun x hx => by rw [List.mem_singleton.1 hx]; exact ho, List.pairwise_singleton _ _⟩
theorem Bl.set {A C : List RowI} {X : Nat} {t : TypeId} {q : Nat} {xs : List Value} (h : Bl w u (A ++ bRow X t q xs :: C)) (i : Nat) (hi : i < q) (x : Value) : Bl w (u.setCell ⟨X, i, none⟩ x) (A ++ bRow X t q (xs.set i x) :: C) :=
  ⟨h.sep.setBox i hi x, h.bel.setCell ((h.sep.lt (bRow X t q xs) (by simp) X rfl).1) _⟩
theorem Bl.grow {A C : List RowI} {r : RowI} (h : Bl w u (A ++ r :: C)) (r' : RowI) (ho : r'.own u' w.heap.size) (hg : u.grownBy u' r.v.ownBlock) (hat : r'.v.ownBlock = r.v.ownBlock ∨ ∀ g, r'.v.ownBlock = some g → u.heap.size ≤ g) : Bl w u' (A ++ r' :: C) :=
  ⟨h.sep.grow r' ho hg hat, h.bel.grown hg h.size (fun k hk => (h.sep.lt r (by simp) k hk).1)⟩
theorem Bl.app {A C : List RowI} {r : RowI} (h : Bl w u (A ++ r :: C)) (r' : RowI) (ho : r'.own u' w.heap.size) (hg : u.grownBy u' r.v.ownBlock) (hat : r'.v.ownBlock = r.v.ownBlock ∨ r'.v.ownBlock = some u.heap.size) : Bl w u' (A ++ r' :: C) :=
  h.grow r' ho hg (hat.imp_right fun e g hg => by rw [e] at hg; cases hg; exact Nat.le_refl _)
theorem Bl.sub {M : List RowI} (h : Bl w u Ls) (hs : M.Sublist Ls) : Bl w u M := ⟨h.sep.sub hs, h.bel⟩
theorem Bl.perm {M : List RowI} (h : Bl w u Ls) (hs : Ls.Perm M) : Bl w u M := ⟨h.sep.perm hs, h.bel⟩
theorem Bl.nil (h : Bl w u Ls) (e : TypeId) (q : Nat) : Bl w u (Ls ++ [⟨e, q, .slice none 0 0, 0, []⟩]) :=
  ⟨h.sep.snoc (N := u.heap.size) (fun x hx g hg => (h.sep.lt x hx g hg).2) (World.ownsRow_nil _ _ _ _) h.size, h.bel⟩
theorem Bl.cell {X : Nat} {t : TypeId} {q : Nat} {xs : List Value} (h : Bl w u Ls) (hm : bRow X t q xs ∈ Ls) (i : Nat) (hi : i < q) : u.cell? ⟨X, i, none⟩ = xs[i]? := bRow.cell (h.sep.own _ hm) i hi
theorem Bl.frozen {X : Nat} {t : TypeId} {q : Nat} {xs : List Value} (h : Bl w u Ls) (hm : bRow X t q xs ∈ Ls) (i : Nat) : u.frozen? ⟨X, i, none⟩ = false := World.ownsRow.frozenAt (show u.ownsRow w.heap.size t q (.slice (some ⟨X, 0, none⟩) 1 1) 1 xs from h.sep.own _ hm) i
/-- The row of the code grows. -/
theorem Bl.push_n {vc : Value} {code : List MI} (h : Bl w u (pItems v F cs G ts (nRow vc code :: D))) (xs : List MI) (V : Value) (ho : u'.ownsRow w.heap.size 92 4 V (code.length + xs.length) (code.flatMap MI.cells ++ xs.flatMap MI.cells)) (hg : u.grownBy u' vc.ownBlock) (hat : V.ownBlock = vc.ownBlock ∨ V.ownBlock = some u.heap.size) : Bl w u' (pItems v F cs G ts (nRow V (code ++ xs) :: D)) := by
  rw [pItems_nil] at h ⊢
  exact h.app (nRow V (code ++ xs)) (by simpa [RowI.own, nRow] using ho) hg hat
theorem Bl.push_c (h : Bl w u (pItems v F cs G ts D)) (x : MC) (V : Value) (ho : u'.ownsRow w.heap.size 108 2 V (cs.length + 1) (cs.flatMap MC.cells ++ x.cells)) (hg : u.grownBy u' v.k.ownBlock) (hat : V.ownBlock = v.k.ownBlock ∨ V.ownBlock = some u.heap.size) : Bl w u' (pItems { v with k := V } F (cs ++ [x]) G ts D) :=
  Bl.app (A := rHead v.r F :: rItems F) h (cRow V (cs ++ [x])) (by simpa [RowI.own, cRow] using ho) hg hat
theorem Bl.push_f {y : MF × VF} (h : Bl w u (pItems v F cs G ts D ++ fItem y)) (V : Value) (ho : u'.ownsRow w.heap.size 86 4 V (G.length + 1) (G.flatMap fCells ++ fCells y)) (hg : u.grownBy u' v.f.ownBlock) (hat : V.ownBlock = v.f.ownBlock ∨ V.ownBlock = some u.heap.size) : Bl w u' (pItems { v with f := V } F cs (G ++ [y]) ts D) := by
  have h1 : Bl w u ((rHead v.r F :: rItems F ++ [cRow v.k cs]) ++ fHead v.f G :: (fItems G ++ (fItem y ++ (tRow v.t ts :: D)))) := h.perm (by
    simp only [pItems, List.cons_append, List.append_assoc, List.nil_append]
    refine .cons _ (List.Perm.append_left _ (.cons _ (.cons _ (List.Perm.append_left _ ?_))))
    exact (List.perm_append_comm (l₁ := tRow v.t ts :: D) (l₂ := fItem y)))
  have h2 := h1.app (fHead V (G ++ [y])) (by simpa [RowI.own, fHead] using ho) hg hat
  have e : (rHead v.r F :: rItems F ++ [cRow v.k cs]) ++ fHead V (G ++ [y]) :: (fItems G ++ (fItem y ++ (tRow v.t ts :: D))) = pItems { v with f := V } F cs (G ++ [y]) ts D := by simp [pItems, fItems_snoc, List.append_assoc]
  rwa [e] at h2
theorem Bl.push_t (h : Bl w u (pItems v F cs G ts D)) (x : MT) (V : Value) (ho : u'.ownsRow w.heap.size 112 4 V (ts.length + 1) (ts.flatMap MT.cells ++ x.cells)) (hg : u.grownBy u' v.t.ownBlock) (hat : V.ownBlock = v.t.ownBlock ∨ V.ownBlock = some u.heap.size) : Bl w u' (pItems { v with t := V } F cs G (ts ++ [x]) D) := by
  have h1 : Bl w u ((rHead v.r F :: rItems F ++ (cRow v.k cs :: (fHead v.f G :: fItems G))) ++ tRow v.t ts :: D) := by simpa [pItems, List.append_assoc] using h
  have h2 := h1.app (tRow V (ts ++ [x])) (by simpa [RowI.own, tRow] using ho) hg hat
  have e : (rHead v.r F :: rItems F ++ (cRow v.k cs :: (fHead v.f G :: fItems G))) ++ tRow V (ts ++ [x]) :: D = pItems { v with t := V } F cs G (ts ++ [x]) D := by simp [pItems, List.append_assoc]
  rwa [e] at h2
theorem Bl.setp {X : Nat} {t : TypeId} {q : Nat} {xs : List Value} {E : List RowI} (h : Bl w u (pItems v F cs G ts (D ++ bRow X t q xs :: E))) (i : Nat) (hi : i < q) (x : Value) : Bl w (u.setCell ⟨X, i, none⟩ x) (pItems v F cs G ts (D ++ bRow X t q (xs.set i x) :: E)) := by
  rw [pItems_app] at h ⊢
  exact h.set i hi x
theorem pItems_in {r : RowI} (h : r ∈ D) : r ∈ pItems v F cs G ts D := by simp [pItems, h]
theorem Bl.prow (h : Bl w u (pItems v F cs G ts D)) : (∃ a1 c1 a2 c2 a3 c3 a4 c4, v = ⟨.slice a1 F.length c1, .slice a2 cs.length c2, .slice a3 G.length c3, .slice a4 ts.length c4⟩) ∧ u.ownsRow w.heap.size 49 1 v.r F.length (F.flatMap rCells) ∧ u.ownsRow w.heap.size 108 2 v.k cs.length (cs.flatMap MC.cells) ∧ u.ownsRow w.heap.size 86 4 v.f G.length (G.flatMap fCells) ∧ u.ownsRow w.heap.size 112 4 v.t ts.length (ts.flatMap MT.cells) := by
  refine ⟨?_, h.sep.own (rHead v.r F) (by simp [pItems]), h.sep.own (cRow v.k cs) (by simp [pItems]), h.sep.own (fHead v.f G) (by simp [pItems]), h.sep.own (tRow v.t ts) (by simp [pItems])⟩
  obtain ⟨v1, v2, v3, v4⟩ := v
  obtain ⟨a1, c1, e1⟩ : ∃ a c, v1 = .slice a F.length c := own_sl (h.sep.own (rHead v1 F) (by simp [pItems]))
  obtain ⟨a2, c2, e2⟩ : ∃ a c, v2 = .slice a cs.length c := own_sl (h.sep.own (cRow v2 cs) (by simp [pItems]))
  obtain ⟨a3, c3, e3⟩ : ∃ a c, v3 = .slice a G.length c := own_sl (h.sep.own (fHead v3 G) (by simp [pItems]))
  obtain ⟨a4, c4, e4⟩ : ∃ a c, v4 = .slice a ts.length c := own_sl (h.sep.own (tRow v4 ts) (by simp [pItems]))
  exact ⟨a1, c1, a2, c2, a3, c3, a4, c4, by rw [e1, e2, e3, e4]⟩
/-- One cell of the code. -/
theorem Bl.set_n {vc : Value} {g : Nat} {n cap : Nat} {code code' : List MI} (hv : vc = .slice (some ⟨g, 0, none⟩) code.length cap) (hl : code'.length = code.length) (h : Bl w u (pItems v F cs G ts (nRow vc code :: D))) (i : Nat) (x : Value) (hx : (code.flatMap MI.cells).set i x = code'.flatMap MI.cells) : Bl w (u.setCell ⟨g, i, none⟩ x) (pItems v F cs G ts (nRow vc code' :: D)) := by
  subst hv
  rw [pItems_nil] at h ⊢
  have ho : u.ownsRow w.heap.size 92 4 (.slice (some ⟨g, 0, none⟩) code.length cap) code.length (code.flatMap MI.cells) := h.sep.own (nRow (.slice (some ⟨g, 0, none⟩) code.length cap) code) (by simp)
  have hs := ho.stored i x
  have hlt := (ho.lt g rfl).1
  have := h.sep.put (A := pItems v F cs G ts []) (r := nRow (.slice (some ⟨g, 0, none⟩) code.length cap) code) (code'.flatMap MI.cells) (by rw [← hx]; exact hs.1) (grown_set' (⟨rfl, rfl, rfl, Nat.le_refl _, fun _ _ _ => rfl⟩ : u.grownBy u (some g)) i x)
  refine ⟨?_, h.bel.setCell hlt _⟩
  simpa [nRow, hl] using this
theorem Bl.nrow {vc : Value} {code : List MI} (h : Bl w u (pItems v F cs G ts (nRow vc code :: D))) : (∃ a c, vc = .slice a code.length c) ∧ u.ownsRow w.heap.size 92 4 vc code.length (code.flatMap MI.cells) := ⟨own_sl (h.sep.own (nRow vc code) (by simp [pItems])), h.sep.own (nRow vc code) (by simp [pItems])⟩
end
end Go.Proofs.YtalkpddhpmjgcaaGreat
namespace Go.Proofs.YtalkpddhpmjgcaaGreat
open Go.ChangeShapes Go.WideShapes Go.ChangeAt Go.RowKit
set_option linter.unusedVariables false

def isT (t : Int) : Bool := decide (1 ≤ t ∧ t ≤ 3)
theorem isT_true {t : Int} (h : 1 ≤ t) (h' : t ≤ 3) : isT t = true := by unfold isT; simp; omega
theorem isT_false {t : Int} (h : t < 1 ∨ 3 < t) : isT t = false := by unfold isT; simp; omega
def word (b : Bool) : Int := if b then 1 else 0
theorem isType_any (t : Int) (w : World) : Calls Tryz.prog 93 #[.int .i64 t] w fun e w' => e = .returned (.bool (isT t)) ∧ w' = w := by
  by_cases h1 : 1 ≤ t
  · by_cases h3 : t ≤ 3
    · rw [isT_true h1 h3]
      go_enter Tryz.func93, Tryz.ntmps93
      go_wp2
      go_ret
      exact ⟨rfl, rfl⟩
    · rw [isT_false (by omega)]
      go_enter Tryz.func93, Tryz.ntmps93
      go_wp2
      go_ret
      exact ⟨rfl, rfl⟩
  · rw [isT_false (by omega)]
    go_enter Tryz.func93, Tryz.ntmps93
    go_wp2
    go_ret
    exact ⟨rfl, rfl⟩
theorem l2Type_any (t : Int) (w : World) : Calls Tryz.prog 70 #[.int .i64 t] w fun e w' => e = .returned (.bool (isT t)) ∧ w' = w := by
  by_cases h1 : 1 ≤ t
  · by_cases h3 : t ≤ 3
    · rw [isT_true h1 h3]
      go_enter Tryz.func70, Tryz.ntmps70
      go_wp2
      go_ret
      exact ⟨rfl, rfl⟩
    · rw [isT_false (by omega)]
      go_enter Tryz.func70, Tryz.ntmps70
      go_wp2
      go_ret
      exact ⟨rfl, rfl⟩
  · rw [isT_false (by omega)]
    go_enter Tryz.func70, Tryz.ntmps70
    go_wp2
    go_ret
    exact ⟨rfl, rfl⟩
theorem wordOf_any (b : Bool) (w : World) : Calls Tryz.prog 123 #[.bool b] w fun e w' => e = .returned (.int .u32 (word b)) ∧ w' = w := by
  cases b <;>
  · go_enter Tryz.func123, Tryz.ntmps123
    go_wp2
    go_ret
    exact ⟨rfl, rfl⟩
end Go.Proofs.YtalkpddhpmjgcaaGreat
namespace Go.Proofs.YtalkpddhpmjgcaaGreat
open Go.ChangeShapes Go.WideShapes Go.ChangeAt Go.RowKit
set_option linter.unusedVariables false
theorem all_next {α : Type} (q : α → Bool) (ys : List α) (k : Nat) (x : α) (hx : ys[k]? = some x) (h : (ys.take k).all q = true) : (ys.take (k + 1)).all q = q x := by
  obtain ⟨hlt, rfl⟩ := List.getElem?_eq_some_iff.1 hx
  rw [List.take_succ_eq_append_getElem hlt, List.all_append, h]
  simp
theorem all_not {α : Type} (q : α → Bool) (ys : List α) (x : α) (hx : x ∈ ys) (h : q x = false) : ys.all q = false := by
  rw [List.all_eq_false]
  exact ⟨x, hx, by simp [h]⟩
set_option maxHeartbeats 1000000 in
theorem l3Types_any (s : Value) (ys : List Int) (w : World) (hn : ys.length ≤ 1048576) (h : Rd w 1 s ys.length (ys.flatMap intCell)) :
    Calls Tryz.prog 44 #[s] w fun e w' => e = .returned (.bool (ys.all isT)) ∧ w' = w := by
  have H1 : Hid (Rd w 1 s ys.length (ys.flatMap intCell)) := h
  obtain ⟨a1, c1, rfl⟩ := h.is_slice
  clear h
  generalize hLL : ys.length = n at hn H1
  have HL : Hid (ys.length = n) := hLL
  clear hLL
  generalize hR : ys.all isT = R
  have HR : Hid (ys.all isT = R) := hR
  clear hR
  go_enter Tryz.func44, Tryz.ntmps44
  go_wp2
  go_loopw [3] (fun i wr => ∃ k : Nat, k ≤ n ∧ i = .int .i64 k ∧ Hid ((ys.take k).all isT = true) ∧ wr = w) (fun i _ => n - (intOf i).toNat)
  case atStart => exact ⟨0, by omega, rfl, by simp [Hid], rfl⟩
  case round =>
    obtain ⟨k, hk, rfl, HT, rfl⟩ := hrel
    by_cases hlt : k < n
    · obtain ⟨x, hx⟩ : ∃ x, ys[k]? = some x := ⟨_, List.getElem?_eq_getElem (by rw [HL.out]; exact hlt)⟩
      rcases H1.out.2 with ⟨e0, _⟩ | ⟨g, o, c, e1, hc1⟩
      · omega
      · simp only [Value.slice.injEq, true_and] at e1
        obtain ⟨rfl, rfl⟩ := e1
        have i0 := Rd.elem intCell_length hc1 k x hx 0 _ rfl
        rw [Nat.mul_one, Nat.add_zero] at i0
        have HX : Hid (ys[k]? = some x) := hx
        clear hc1 hx
        go_wp2_with fail
        refine (l2Type_any x wr).mono ?_
        rintro e u ⟨rfl, rfl⟩
        cases hq : isT x with
        | false =>
          have hR : R = false := by
            rw [← HR.out]
            exact all_not _ _ _ (List.mem_of_getElem? HX.out) hq
          subst hR
          clear hq
          go_wp2
          go_ret
          exact ⟨rfl, rfl⟩
        | true =>
          have HN : Hid ((ys.take (k + 1)).all isT = true) := by
            show _ = _
            rw [all_next _ _ _ _ HX.out HT.out]
            exact hq
          clear hq
          go_wp2
          go_roundw
          case rel => exact ⟨k + 1, by omega, by go_num, HN, by trivial⟩
          case measure => simp [intOf]; omega
    · have hkn : k = n := by omega
      subst hkn
      have hR : R = true := by
        rw [← HR.out, ← HT.out, ← HL.out, List.take_length]
      subst hR
      go_wp2
      go_ret
      exact ⟨rfl, rfl⟩
end Go.Proofs.YtalkpddhpmjgcaaGreat
