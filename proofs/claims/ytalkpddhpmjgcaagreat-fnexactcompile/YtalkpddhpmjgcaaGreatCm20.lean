import Derived.Test.YtalkpddhpmjgcaaGreatCm15
import Derived.Test.YtalkpddhpmjgcaaGreatCm8
import Derived.Test.YtalkpddhpmjgcaaGreatCm19
import Derived.Test.YtalkpddhpmjgcaaGreatCm16
import Derived.Deep.AppendLies
import Derived.Deep.DeepCutAuto
namespace Go.Proofs.YtalkpddhpmjgcaaGreat
open Go.ChangeShapes Go.WideShapes Go.ChangeAt Go.RowKit
set_option linter.unusedVariables false
/-- How much there may be. -/
structure GnLe (g g' : Gn) (m : Nat) : Prop where
  code : g'.code.length ≤ g.code.length + 5 * m
  consts : g'.consts.length ≤ g.consts.length + m
  certs : g'.certs.length ≤ g.certs.length + m
theorem GnLe.refl (g : Gn) : GnLe g g 0 := ⟨by omega, by omega, by omega⟩
theorem GnLe.trans {g g' g'' : Gn} {m m' : Nat} (h : GnLe g g' m) (h' : GnLe g' g'' m') : GnLe g g'' (m + m') := ⟨by have := h.code; have := h'.code; omega, by have := h.consts; have := h'.consts; omega, by have := h.certs; have := h'.certs; omega⟩
theorem GnLe.mono {g g' : Gn} {m m' : Nat} (h : GnLe g g' m) (hm : m ≤ m') : GnLe g g' m' := ⟨by have := h.code; omega, by have := h.consts; omega, by have := h.certs; omega⟩
theorem cnstL_le (cs : List MC) (v : Int) : (cnstL cs v).length ≤ cs.length + 1 := by
  unfold cnstL
  split <;> simp
theorem genS_le (n : Nat) (fn : Int) (gen : TL n → Nat → Gn → Gn) (h : ∀ t lev g, GnLe g (gen t lev g) (sizeT n t)) (s : SS (TL n)) (lev : Nat) (g : Gn) : GnLe g (genS n fn gen s lev g) (1 + sizeT n s.body + sizeT n s.els) := by
  unfold genS
  split
  · exact ⟨by rw [Gn.put_len]; simp; omega, by simp [Gn.put], by simp [Gn.put]⟩
  · split
    · have h1 := h s.body lev (g.put [ldK s.a, ldK s.b, ⟨21, 3, 0, 0⟩, ⟨26, 0, 0, 0⟩])
      have h2 := h s.els lev ((((gen s.body lev (g.put [ldK s.a, ldK s.b, ⟨21, 3, 0, 0⟩, ⟨26, 0, 0, 0⟩])).put [⟨25, 0, 0, 0⟩]).land (g.code.length + 3)))
      have a1 := h1.code; have a2 := h1.consts; have a3 := h1.certs
      have b1 := h2.code; have b2 := h2.consts; have b3 := h2.certs
      rw [Gn.land_len, Gn.put_len] at b1
      rw [Gn.put_len] at a1
      simp [Gn.put, Gn.land] at a1 a2 a3 b1 b2 b3
      refine ⟨?_, ?_, ?_⟩
      · simp only [Gn.land_len]
        simp [Gn.put, Gn.land]
        omega
      · simp [Gn.put, Gn.land]
        omega
      · simp [Gn.put, Gn.land]
        omega
    · split
      · have h1 := h s.body (lev + 1) ⟨g.code ++ [⟨1, (cnstI g.consts s.b : Int), 0, 0⟩, ⟨3, (lev : Int), 0, 0⟩, ⟨27, (lev : Int), 0, 0⟩], cnstL g.consts s.b, g.certs ++ [⟨fn, (g.code.length + 2 : Nat), (lev : Int), s.b⟩]⟩
        have a1 := h1.code; have a2 := h1.consts; have a3 := h1.certs
        have c1 := cnstL_le g.consts s.b
        simp at a1 a2 a3
        refine ⟨?_, ?_, ?_⟩
        · simp only [Gn.land_len, Gn.put_len]
          simp
          omega
        · simp [Gn.put, Gn.land]
          omega
        · simp [Gn.put, Gn.land]
          omega
      · split
        · exact ⟨by rw [Gn.put_len]; simp; omega, by simp [Gn.put], by simp [Gn.put]⟩
        · exact (GnLe.refl g).mono (by omega)
/-- The first i statements. -/
def genN (n : Nat) (fn : Int) (l : List (SS (TL n))) (lev : Nat) (i : Nat) (g : Gn) : Gn := (l.take i).foldl (fun g s => genS n fn (genT n fn) s lev g) g
theorem genN_zero (n : Nat) (fn : Int) (l : List (SS (TL n))) (lev : Nat) (g : Gn) : genN n fn l lev 0 g = g := rfl
theorem genN_next {n : Nat} {fn : Int} {l : List (SS (TL n))} {lev i : Nat} {g : Gn} {x : SS (TL n)} (hx : l[i]? = some x) : genN n fn l lev (i + 1) g = genS n fn (genT n fn) x lev (genN n fn l lev i g) := by
  unfold genN
  obtain ⟨hlt, rfl⟩ := List.getElem?_eq_some_iff.1 hx
  rw [List.take_succ_eq_append_getElem hlt, List.foldl_append]
  rfl
theorem genN_all {n : Nat} {fn : Int} {l : List (SS (TL n))} {lev i : Nat} {g : Gn} (h : l.length ≤ i) : genN n fn l lev i g = genT (n + 1) fn l lev g := by
  unfold genN
  rw [List.take_of_length_le h]
  rfl
theorem gen_items (n : Nat) (fn : Int) (t : TL n) (lev : Nat) (g : Gn) : genT n fn t lev g = genN (n - 1) fn (itemsT n t) lev (lenT n t) g := by
  cases n with
  | zero => rfl
  | succ n => exact (genN_all (Nat.le_refl _)).symm
theorem genN_le {n : Nat} (fn : Int) (ih : ∀ (t : TL n) lev g, GnLe g (genT n fn t lev g) (sizeT n t)) (l : List (SS (TL n))) (lev : Nat) (g : Gn) (i : Nat) (hi : i ≤ l.length) : GnLe g (genN n fn l lev i g) (i + sumT n l i) := by
  induction i with
  | zero => exact GnLe.refl g
  | succ i ih2 =>
    have hx : l[i]? = some l[i] := List.getElem?_eq_getElem (by omega)
    rw [genN_next hx, sumT_next hx]
    exact ((ih2 (by omega)).trans (genS_le n fn _ ih _ lev _)).mono (by omega)
theorem genT_le (n : Nat) (fn : Int) : ∀ (t : TL n) (lev : Nat) (g : Gn), GnLe g (genT n fn t lev g) (sizeT n t) := by
  induction n with
  | zero => intro t lev g; exact GnLe.refl g
  | succ n ih =>
    intro t lev g
    have h := genN_le fn ih t lev g (List.length t) (Nat.le_refl _)
    have e : genN n fn t lev (List.length t) g = genT (n + 1) fn t lev g := genN_all (Nat.le_refl _)
    rw [e] at h
    exact h.mono (sumT_le _)
/-- All numbers are in their bounds. -/
structure GnOk (g : Gn) : Prop where
  code : ∀ x ∈ g.code, x.wf
  consts : ∀ x ∈ g.consts, x.type = 3 ∧ 0 ≤ x.word ∧ x.word < 256
  certs : ∀ x ∈ g.certs, x.wf
theorem W32_of {z : Int} (h0 : 0 ≤ z) (h1 : z ≤ 4294967295) : W32 z := by simp [W32, Lit.wf, IntKind.min, IntKind.max, IntKind.signed, IntKind.bits]; omega
theorem mi_wf {a b c d : Int} (h0 : 0 ≤ a ∧ a ≤ 1152921504606846976) (h1 : 0 ≤ b ∧ b ≤ 1152921504606846976) (h2 : 0 ≤ c ∧ c ≤ 1152921504606846976) (h3 : 0 ≤ d ∧ d ≤ 1152921504606846976) : (⟨a, b, c, d⟩ : MI).wf :=
  ⟨W64_of (z := a) (by omega) (by omega), W64_of (z := b) (by omega) (by omega), W64_of (z := c) (by omega) (by omega), W64_of (z := d) (by omega) (by omega)⟩
theorem mt_wf {a b c d : Int} (h0 : 0 ≤ a ∧ a ≤ 1152921504606846976) (h1 : 0 ≤ b ∧ b ≤ 1152921504606846976) (h2 : 0 ≤ c ∧ c ≤ 1152921504606846976) (h3 : 0 ≤ d ∧ d < 256) : (⟨a, b, c, d⟩ : MT).wf :=
  ⟨W64_of (z := a) (by omega) (by omega), W64_of (z := b) (by omega) (by omega), W64_of (z := c) (by omega) (by omega), W32_of (z := d) (by omega) (by omega)⟩
theorem GnOk.put {g : Gn} (h : GnOk g) {xs : List MI} (hx : ∀ x ∈ xs, x.wf) : GnOk (g.put xs) := ⟨fun x hm => (List.mem_append.1 hm).elim (h.code x) (hx x), h.consts, h.certs⟩
theorem GnOk.land {g : Gn} (h : GnOk g) (i : Nat) (hl : g.code.length ≤ 1048576) : GnOk (g.land i) := by
  refine ⟨fun x hx => ?_, h.consts, h.certs⟩
  have hx' : x ∈ landL g.code i := hx
  unfold landL at hx'
  split at hx'
  · rename_i y hy
    rcases List.mem_or_eq_of_mem_set hx' with hx' | rfl
    · exact h.code x hx'
    · have := h.code y (List.mem_of_getElem? hy)
      exact ⟨this.1, this.2.1, this.2.2.1, W64_of (z := (g.code.length : Int)) (by omega) (by omega)⟩
  · exact h.code x hx'
theorem cnst_ok {cs : List MC} (h : ∀ x ∈ cs, x.type = 3 ∧ 0 ≤ x.word ∧ x.word < 256) {v : Int} (hv : 0 ≤ v ∧ v < 256) : ∀ x ∈ cnstL cs v, x.type = 3 ∧ 0 ≤ x.word ∧ x.word < 256 := by
  intro x hx
  unfold cnstL at hx
  split at hx
  · exact h x hx
  · rcases List.mem_append.1 hx with hx | hx
    · exact h x hx
    · rw [List.mem_singleton.1 hx]
      exact ⟨rfl, hv⟩
theorem cnstI_le (cs : List MC) (v : Int) : cnstI cs v ≤ cs.length := List.findIdx_le_length
theorem genS_ok (n : Nat) (fn : Int) (hf : 0 ≤ fn ∧ fn ≤ 1048576) (s : SS (TL n)) (hs : okS s.k s.a s.b (lenT n s.body) (lenT n s.els)) (lev : Nat) (g : Gn) (hg : GnOk g) (hl : g.code.length + 5 * (1 + sizeT n s.body + sizeT n s.els) ≤ 1048576) (hc : g.consts.length ≤ 1048576) (hv : lev ≤ 1048576)
    (ihb : ∀ lev' g', GnOk g' → g'.code.length + 5 * sizeT n s.body ≤ 1048576 → g'.consts.length ≤ g.consts.length + 1 → lev' ≤ lev + 1 → GnOk (genT n fn s.body lev' g'))
    (ihe : ∀ lev' g', GnOk g' → g'.code.length + 5 * sizeT n s.els ≤ 1048576 → g'.consts.length ≤ g.consts.length + 1 + sizeT n s.body → lev' ≤ lev → GnOk (genT n fn s.els lev' g')) : GnOk (genS n fn (genT n fn) s lev g) := by
  have hk1 := cnstI_le g.consts s.b
  unfold okS at hs
  unfold genS
  split
  · refine hg.put fun x hx => ?_
    simp only [ldK, List.mem_cons, List.not_mem_nil, or_false] at hx
    rcases hx with rfl | rfl | rfl | rfl <;> exact mi_wf (by omega) (by omega) (by omega) (by omega)
  · split
    · have h1 : GnOk (g.put [ldK s.a, ldK s.b, ⟨21, 3, 0, 0⟩, ⟨26, 0, 0, 0⟩]) := hg.put fun x hx => by
        simp only [ldK, List.mem_cons, List.not_mem_nil, or_false] at hx
        rcases hx with rfl | rfl | rfl | rfl <;> exact mi_wf (by omega) (by omega) (by omega) (by omega)
      have l1 := genT_le n fn s.body lev (g.put [ldK s.a, ldK s.b, ⟨21, 3, 0, 0⟩, ⟨26, 0, 0, 0⟩])
      have a1 := l1.code; have a2 := l1.consts
      rw [Gn.put_len] at a1
      simp [Gn.put] at a1 a2
      have h2 := ihb lev _ h1 (by rw [Gn.put_len]; simp; omega) (by simp [Gn.put]) (by omega)
      have h3 : GnOk (((genT n fn s.body lev (g.put [ldK s.a, ldK s.b, ⟨21, 3, 0, 0⟩, ⟨26, 0, 0, 0⟩])).put [⟨25, 0, 0, 0⟩]).land (g.code.length + 3)) := (h2.put fun x hx => by
        simp only [List.mem_cons, List.not_mem_nil, or_false] at hx
        subst hx
        exact mi_wf (by omega) (by omega) (by omega) (by omega)).land _ (by rw [Gn.put_len]; simp [Gn.put]; omega)
      have l2 := genT_le n fn s.els lev (((genT n fn s.body lev (g.put [ldK s.a, ldK s.b, ⟨21, 3, 0, 0⟩, ⟨26, 0, 0, 0⟩])).put [⟨25, 0, 0, 0⟩]).land (g.code.length + 3))
      have b1 := l2.code
      rw [Gn.land_len, Gn.put_len] at b1
      simp [Gn.put] at b1
      have h4 := ihe lev _ h3 (by rw [Gn.land_len, Gn.put_len]; simp [Gn.put]; omega) (by simp [Gn.put, Gn.land]; omega) (by omega)
      exact h4.land _ (by simp [Gn.put]; omega)
    · split
      · have h1 : GnOk ⟨g.code ++ [⟨1, (cnstI g.consts s.b : Int), 0, 0⟩, ⟨3, (lev : Int), 0, 0⟩, ⟨27, (lev : Int), 0, 0⟩], cnstL g.consts s.b, g.certs ++ [⟨fn, (g.code.length + 2 : Nat), (lev : Int), s.b⟩]⟩ := by
          refine ⟨fun x hx => ?_, cnst_ok hg.consts (by omega), fun x hx => ?_⟩
          · rcases List.mem_append.1 hx with hx | hx
            · exact hg.code x hx
            · simp only [List.mem_cons, List.not_mem_nil, or_false] at hx
              rcases hx with rfl | rfl | rfl <;> exact mi_wf (by omega) (by omega) (by omega) (by omega)
          · rcases List.mem_append.1 hx with hx | hx
            · exact hg.certs x hx
            · rw [List.mem_singleton.1 hx]
              exact mt_wf (by omega) (by omega) (by omega) (by omega)
        have l1 := genT_le n fn s.body (lev + 1) ⟨g.code ++ [⟨1, (cnstI g.consts s.b : Int), 0, 0⟩, ⟨3, (lev : Int), 0, 0⟩, ⟨27, (lev : Int), 0, 0⟩], cnstL g.consts s.b, g.certs ++ [⟨fn, (g.code.length + 2 : Nat), (lev : Int), s.b⟩]⟩
        have a1 := l1.code
        have c1 := cnstL_le g.consts s.b
        simp at a1
        have h2 := ihb (lev + 1) _ h1 (by simp; omega) (by simp; omega) (by omega)
        refine (h2.put fun x hx => ?_).land _ (by rw [Gn.put_len]; simp; omega)
        simp only [List.mem_cons, List.not_mem_nil, or_false] at hx
        subst hx
        exact mi_wf (by omega) (by omega) (by omega) (by omega)
      · split
        · refine hg.put fun x hx => ?_
          simp only [List.mem_cons, List.not_mem_nil, or_false] at hx
          subst hx
          exact mi_wf (by omega) (by omega) (by omega) (by omega)
        · exact hg
theorem genN_ok {n : Nat} (fn : Int) (hf : 0 ≤ fn ∧ fn ≤ 1048576) (ih : ∀ (t : TL n) (lev : Nat) (g : Gn), allOkT n t → GnOk g → g.code.length + 5 * sizeT n t ≤ 1048576 → g.consts.length + sizeT n t ≤ 1048576 → lev + sizeT n t ≤ 1048576 → GnOk (genT n fn t lev g)) (l : List (SS (TL n))) (lev : Nat) (g : Gn) (hok : allOkT (n + 1) l) (hg : GnOk g) (hl : g.code.length + 5 * sizeT (n + 1) l ≤ 1048576) (hc : g.consts.length + sizeT (n + 1) l ≤ 1048576) (hv : lev + sizeT (n + 1) l ≤ 1048576) (i : Nat) (hi : i ≤ l.length) : GnOk (genN n fn l lev i g) := by
  induction i with
  | zero => exact hg
  | succ i ih2 =>
    obtain ⟨x, hx⟩ : ∃ x, l[i]? = some x := ⟨l[i], List.getElem?_eq_getElem (by omega)⟩
    rw [genN_next hx]
    have h1 := genN_le fn (genT_le n fn) l lev g i (by omega)
    have a1 := h1.code; have a2 := h1.consts
    have s1 := sumT_next hx
    have s2 := sumT_le (n := n) (l := l) (i + 1)
    have hxo := hok x (List.mem_of_getElem? hx)
    refine genS_ok n fn hf x hxo.1 lev _ (ih2 (by omega)) (by omega) (by omega) (by omega) (fun lev' g' h2 h3 h4 h5 => ih x.body lev' g' hxo.2.1 h2 h3 ?_ ?_) (fun lev' g' h2 h3 h4 h5 => ih x.els lev' g' hxo.2.2 h2 h3 ?_ ?_) <;> omega
theorem genT_ok (n : Nat) (fn : Int) (hf : 0 ≤ fn ∧ fn ≤ 1048576) : ∀ (t : TL n) (lev : Nat) (g : Gn), allOkT n t → GnOk g → g.code.length + 5 * sizeT n t ≤ 1048576 → g.consts.length + sizeT n t ≤ 1048576 → lev + sizeT n t ≤ 1048576 → GnOk (genT n fn t lev g) := by
  induction n with
  | zero => intro t lev g _ hg _ _ _; exact hg
  | succ n ih =>
    intro t lev g hok hg hl hc hv
    have e : genN n fn t lev (List.length t) g = genT (n + 1) fn t lev g := genN_all (Nat.le_refl _)
    rw [← e]
    exact genN_ok fn hf ih t lev g hok hg hl hc hv _ (Nat.le_refl _)
/-- A cell of the code that is set. -/
theorem land_cells (l : List MI) (i : Nat) (hi : i < l.length) : (l.flatMap MI.cells).set (i * 4 + 3) (.int .i64 (l.length : Int)) = (landL l i).flatMap MI.cells := by
  have hx : l[i]? = some l[i] := List.getElem?_eq_getElem hi
  have e1 : l = l.take i ++ l[i] :: l.drop (i + 1) := by rw [← List.drop_eq_getElem_cons hi]; exact (List.take_append_drop i l).symm
  unfold landL
  rw [hx]
  simp only []
  have e2 : l.set i (setC l[i] (l.length : Int)) = l.take i ++ setC l[i] (l.length : Int) :: l.drop (i + 1) := by rw [List.set_eq_take_append_cons_drop, if_pos hi]
  rw [e2]
  clear e2
  generalize hL : (l.length : Int) = L
  generalize l[i] = x at e1 ⊢
  have ht : (l.take i).length = i := by simp; omega
  have hf : ((l.take i).flatMap MI.cells).length = i * 4 := by rw [flat_length MI.cells 4 MI.cells_length, ht]
  conv => lhs; rw [e1]
  rw [List.flatMap_append, List.flatMap_cons, List.flatMap_append, List.flatMap_cons, List.set_append_right _ _ (by omega), hf]
  have : i * 4 + 3 - i * 4 = 3 := by omega
  rw [this]
  rfl
end Go.Proofs.YtalkpddhpmjgcaaGreat
namespace Go.Proofs.YtalkpddhpmjgcaaGreat
open Go.ChangeShapes Go.WideShapes Go.ChangeAt Go.RowKit
set_option linter.unusedVariables false
theorem lit_at (w : World) (cs : List Value) (t : TypeId) : ∀ j u, cs[j]? = some u → (w.alloc (.cells cs.toArray t)).cell? ((⟨w.heap.size, 0, none⟩ : Addr).add j) = some u := fun j u hj => by
  rw [add_at, Nat.zero_add, (Blk.new w cs.toArray t).cell j]
  simpa using hj
theorem mi_one (l : List MI) : ∀ u ∈ l.flatMap MI.cells, u.oneCell' = true := fun u hu => by
  obtain ⟨x, _, hx⟩ := List.mem_flatMap.1 hu
  simp only [MI.cells, List.mem_cons, List.not_mem_nil, or_false] at hx
  rcases hx with rfl | rfl | rfl | rfl <;> rfl
def sgb (P Gb : Nat) (fn : Int) (vc : Value) : RowI := bRow Gb 82 3 [.pointer (some ⟨P, 0, none⟩), .int .i64 fn, vc]
/-- What the functions of chapter 10's model have at hand. -/
structure SG (w u : World) (v : VP) (F : List (List Int × Value)) (G : List (MF × VF)) (P Gb : Nat) (fn : Int) (vc : Value) (g : Gn) (D : List RowI) : Prop where
  bl : Bl w u (pItems v F g.consts G g.certs (nRow vc g.code :: gb P v :: sgb P Gb fn vc :: D))
section
variable {w u u' : World} {v : VP} {F : List (List Int × Value)} {G : List (MF × VF)} {P Gb : Nat} {fn : Int} {vc : Value} {g : Gn} {D : List RowI}
theorem SG.keep (h : SG w u v F G P Gb fn vc g D) (hb : Below u.heap.size u u') : SG w u' v F G P Gb fn vc g D := ⟨h.bl.keep hb⟩
theorem SG.cells (h : SG w u v F G P Gb fn vc g D) : u.cell? ⟨Gb, 0, none⟩ = some (.pointer (some ⟨P, 0, none⟩)) ∧ u.cell? ⟨Gb, 1, none⟩ = some (.int .i64 fn) ∧ u.cell? ⟨Gb, 2, none⟩ = some vc :=
  ⟨h.bl.cell (pItems_in (show sgb P Gb fn vc ∈ _ by simp)) 0 (by omega), h.bl.cell (pItems_in (show sgb P Gb fn vc ∈ _ by simp)) 1 (by omega), h.bl.cell (pItems_in (show sgb P Gb fn vc ∈ _ by simp)) 2 (by omega)⟩
theorem SG.frozen (h : SG w u v F G P Gb fn vc g D) (i : Nat) : u.frozen? ⟨Gb, i, none⟩ = false := h.bl.frozen (pItems_in (show sgb P Gb fn vc ∈ _ by simp)) i
theorem SG.pcells (h : SG w u v F G P Gb fn vc g D) : u.cell? ⟨P, 0, none⟩ = some v.r ∧ u.cell? ⟨P, 1, none⟩ = some v.k ∧ u.cell? ⟨P, 2, none⟩ = some v.f ∧ u.cell? ⟨P, 3, none⟩ = some v.t :=
  ⟨h.bl.cell (pItems_in (show gb P v ∈ _ by simp)) 0 (by omega), h.bl.cell (pItems_in (show gb P v ∈ _ by simp)) 1 (by omega), h.bl.cell (pItems_in (show gb P v ∈ _ by simp)) 2 (by omega), h.bl.cell (pItems_in (show gb P v ∈ _ by simp)) 3 (by omega)⟩
theorem SG.pfrozen (h : SG w u v F G P Gb fn vc g D) (i : Nat) : u.frozen? ⟨P, i, none⟩ = false := h.bl.frozen (pItems_in (show gb P v ∈ _ by simp)) i
/-- More code, and the slice laid in the block. -/
theorem SG.push (h : SG w u v F G P Gb fn vc g D) (xs : List MI) (V : Value) (ho : u'.ownsRow w.heap.size 92 4 V (g.code.length + xs.length) (g.code.flatMap MI.cells ++ xs.flatMap MI.cells)) (hg : u.grownBy u' vc.ownBlock) (hat : V.ownBlock = vc.ownBlock ∨ V.ownBlock = some u.heap.size) : SG w (u'.setCell ⟨Gb, 2, none⟩ V) v F G P Gb fn V (g.put xs) D ∧ u'.cell? ⟨Gb, 2, none⟩ = some vc ∧ u'.frozen? ⟨Gb, 2, none⟩ = false := by
  have h1 := h.bl.push_n xs V ho hg hat
  exact ⟨⟨h1.setp (D := [nRow V (g.code ++ xs), gb P v]) 2 (by omega) V⟩, h1.cell (pItems_in (show sgb P Gb fn vc ∈ _ by simp)) 2 (by omega), h1.frozen (pItems_in (show sgb P Gb fn vc ∈ _ by simp)) 2⟩
end
set_option maxHeartbeats 4000000 in
set_option maxRecDepth 100000 in
theorem l10Put_any (w u : World) (v : VP) (F : List (List Int × Value)) (G : List (MF × VF)) (P Gb : Nat) (fn : Int) (vc : Value) (g : Gn) (D : List RowI) (op a b c : Int) (h : SG w u v F G P Gb fn vc g D) (hl : g.code.length ≤ 1048576) :
    Calls Tryz.prog 43 #[.pointer (some ⟨Gb, 0, none⟩), .int .i64 op, .int .i64 a, .int .i64 b, .int .i64 c] u fun e u' => e = .returned (.int .i64 (g.code.length : Int)) ∧ ∃ vc', SG w u' v F G P Gb fn vc' (g.put [⟨op, a, b, c⟩]) D := by
  obtain ⟨iI, hi, hz0, hz1, hz2⟩ := info_parts infoI
  obtain ⟨⟨a1, c1, e1⟩, _⟩ := h.bl.nrow
  subst e1
  have H : Hid (SG w u v F G P Gb fn (.slice a1 g.code.length c1) g D) := h
  obtain ⟨_, _, q2⟩ := h.cells
  clear h
  generalize hn : g.code.length = n at H q2 hl ⊢
  have HN : Hid (g.code.length = n) := hn
  clear hn
  go_enter Tryz.func43, Tryz.ntmps43
  have E2 : Hid (SG w (u.alloc (.cells #[.int .i64 op, .int .i64 a, .int .i64 b, .int .i64 c] 92)) v F G P Gb fn (.slice a1 n c1) g D) := H.out.keep (below_alloc _ _)
  go_upto_region 2 with (at_builtin; refine wpList_append_lies _ rfl _ _ 61 rfl w.heap.size 92 iI (.agg #[.int .i64 0, .int .i64 0, .int .i64 0, .int .i64 0]) 4 32 Tryz.underlying61 hi hz0 hz1 hz2 rfl (by decide) _ n (g.code.flatMap MI.cells) rfl (by have := E2.out.bl.nrow.2; rw [HN.out] at this; exact this) ⟨u.heap.size, 0, none⟩ 1 1 [.int .i64 op, .int .i64 a, .int .i64 b, .int .i64 c] rfl rfl (lit_at u _ _) (mi_one [⟨op, a, b, c⟩]) (by omega) (by simp [maxLen]; omega) (by omega) E2.out.bl.size _ rfl ?_; intro g5 cap5 w5 hown hgrow hat hlt5; have HU : Hid (SG w (w5.setCell ⟨Gb, 2, none⟩ (.slice (some ⟨g5, 0, none⟩) (n + 1) cap5)) v F G P Gb fn (.slice (some ⟨g5, 0, none⟩) (n + 1) cap5) (g.put [⟨op, a, b, c⟩]) D ∧ w5.cell? ⟨Gb, 2, none⟩ = some (.slice a1 n c1) ∧ w5.frozen? ⟨Gb, 2, none⟩ = false) := E2.out.push [⟨op, a, b, c⟩] (.slice (some ⟨g5, 0, none⟩) (n + 1) cap5) (by rw [HN.out]; exact hown) hgrow (hat_of hat); have k1 := HU.out.2.1; have k2 := HU.out.2.2; clear hown hgrow hat hlt5)
  refine wp_world (fun U => Hid (SG w U v F G P Gb fn (.slice (some ⟨g5, 0, none⟩) (n + 1) cap5) (g.put [⟨op, a, b, c⟩]) D)) HU.out.1 ?_
  clear k1 k2 HU E2 q2
  intro U E3
  obtain ⟨_, _, q3⟩ := E3.out.cells
  go_wp2_with fail
  go_ret
  exact ⟨by simp, _, E3.out⟩
end Go.Proofs.YtalkpddhpmjgcaaGreat
