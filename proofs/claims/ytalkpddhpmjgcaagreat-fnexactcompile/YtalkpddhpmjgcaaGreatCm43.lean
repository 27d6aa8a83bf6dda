import Derived.Test.YtalkpddhpmjgcaaGreatCm42
import Derived.Test.YtalkpddhpmjgcaaGreatCm36
import Derived.Test.YtalkpddhpmjgcaaGreatCm35
namespace Go.Proofs.YtalkpddhpmjgcaaGreat
open Go.ChangeShapes Go.WideShapes Go.ChangeAt Go.RowKit
set_option linter.unusedVariables false
abbrev vN : VP := ⟨.slice none 0 0, .slice none 0 0, .slice none 0 0, .slice none 0 0⟩
section
variable {w u u' : World} {v : VP} {F : List (List Int × Value)} {cs : List MC} {G : List (MF × VF)} {ts : List MT} {P RB : Nat} {C D : List RowI}
theorem Bl.set4 (h : Bl w u (gb RB v :: C)) (y0 y1 y2 y3 : Value) : Bl w ((((u.setCell ⟨RB, 0, none⟩ y0).setCell ⟨RB, 1, none⟩ y1).setCell ⟨RB, 2, none⟩ y2).setCell ⟨RB, 3, none⟩ y3) (gb RB ⟨y0, y1, y2, y3⟩ :: C) :=
  Bl.set (A := []) (Bl.set (A := []) (Bl.set (A := []) (Bl.set (A := []) h 0 (by omega) y0) 1 (by omega) y1) 2 (by omega) y2) 3 (by omega) y3
theorem Bl.four (h : Bl w u C) (hm : gb P v ∈ C) : (u.cell? ⟨P, 0, none⟩ = some v.r ∧ u.cell? ⟨P, 1, none⟩ = some v.k ∧ u.cell? ⟨P, 2, none⟩ = some v.f ∧ u.cell? ⟨P, 3, none⟩ = some v.t) ∧ (u.frozen? ⟨P, 0, none⟩ = false ∧ u.frozen? ⟨P, 1, none⟩ = false ∧ u.frozen? ⟨P, 2, none⟩ = false ∧ u.frozen? ⟨P, 3, none⟩ = false) :=
  ⟨⟨h.cell hm 0 (by omega), h.cell hm 1 (by omega), h.cell hm 2 (by omega), h.cell hm 3 (by omega)⟩, h.frozen hm 0, h.frozen hm 1, h.frozen hm 2, h.frozen hm 3⟩
/-- Nothing is told. -/
theorem Bl.zero (h : Bl w u C) : Bl w u (pItems vN [] [] [] [] []) := by
  have h1 := ((((h.sub (List.nil_sublist _)).nil 49 1).nil 108 2).nil 86 4).nil 112 4
  exact h1
/-- The third region grows. -/
theorem Bl.reg2 {s1 s2 s3 : Value} {ls : List Int} {rb cr : Nat} (h : Bl w u (pItems v [([], s1), ([], s2), (ls, s3)] cs G ts D)) (hv : v.r = .slice (some ⟨rb, 0, none⟩) 3 cr) (z : Int) (V : Value) (ho : u'.ownsRow w.heap.size 2 1 V (ls.length + 1) (ls.flatMap intCell ++ [.int .i64 z])) (hg : u.grownBy u' s3.ownBlock) (hat : V.ownBlock = s3.ownBlock ∨ V.ownBlock = some u.heap.size) : Bl w (u'.setCell ⟨rb, 2, none⟩ V) (pItems v [([], s1), ([], s2), (ls ++ [z], V)] cs G ts D) ∧ (u'.cell? ⟨rb, 2, none⟩ = some s3 ∧ u'.frozen? ⟨rb, 2, none⟩ = false) ∧ ∀ (Q : Nat) (y : VP), gb Q y ∈ D → u'.cell? ⟨Q, 0, none⟩ = some y.r := by
  have h0 : Bl w u ([rHead v.r [([], s1), ([], s2), (ls, s3)], iRow s1 [], iRow s2 []] ++ iRow s3 ls :: (cRow v.k cs :: (fHead v.f G :: fItems G ++ (tRow v.t ts :: D)))) := by simpa [pItems, rItems] using h
  have h1 := h0.app (iRow V (ls ++ [z])) (by simpa [RowI.own, iRow, intCell] using ho) hg hat
  have ho2 : u'.ownsRow w.heap.size 49 1 (.slice (some ⟨rb, 0, none⟩) 3 cr) 3 [s1, s2, s3] := by
    have := h1.sep.own (rHead v.r [([], s1), ([], s2), (ls, s3)]) (by simp)
    rw [hv] at this
    simpa [RowI.own, rHead, rCells] using this
  have hs := ho2.stored 2 V
  have hlt := (ho2.lt rb rfl).1
  have h2 : Sep u' w.heap.size ([] ++ rHead v.r [([], s1), ([], s2), (ls, s3)] :: ([iRow s1 [], iRow s2 []] ++ iRow V (ls ++ [z]) :: (cRow v.k cs :: (fHead v.f G :: fItems G ++ (tRow v.t ts :: D))))) := by simpa using h1.sep
  have h3 := h2.put [s1, s2, V] (by rw [show (rHead v.r [([], s1), ([], s2), (ls, s3)]).v = v.r from rfl, hv]; exact hs.1) (by rw [show (rHead v.r [([], s1), ([], s2), (ls, s3)]).v = v.r from rfl, hv]; exact grown_set' (⟨rfl, rfl, rfl, Nat.le_refl _, fun _ _ _ => rfl⟩ : u'.grownBy u' (some rb)) 2 V)
  refine ⟨⟨?_, h1.bel.setCell hlt _⟩, ⟨?_, ho2.frozenAt 2⟩, fun Q y hy => h1.cell (X := Q) (t := 31) (q := 4) (xs := [y.r, y.k, y.f, y.t]) (by simp [hy]) 0 (by omega)⟩
  · simpa [pItems, rItems, rHead, rCells] using h3
  · have := World.ownsRow.cellAt ho2 2 (by omega)
    simpa using this
theorem Bl.rcell {s1 s2 s3 : Value} {l1 l2 l3 : List Int} {rb cr : Nat} {k f t : Value} (h : Bl w u (pItems ⟨.slice (some ⟨rb, 0, none⟩) 3 cr, k, f, t⟩ [(l1, s1), (l2, s2), (l3, s3)] cs G ts D)) : u.cell? ⟨rb, 2, none⟩ = some s3 := by
  have ho2 : u.ownsRow w.heap.size 49 1 (.slice (some ⟨rb, 0, none⟩) 3 cr) 3 [s1, s2, s3] := by
    have := h.sep.own (rHead (.slice (some ⟨rb, 0, none⟩) 3 cr) [(l1, s1), (l2, s2), (l3, s3)]) (by simp [pItems])
    simpa [RowI.own, rHead, rCells] using this
  have := World.ownsRow.cellAt ho2 2 (by omega)
  simpa using this
theorem Bl.give (h : Bl w u (pItems v F cs G ts [gb P v, gb RB vN])) : Bl w ((((u.setCell ⟨RB, 0, none⟩ v.r).setCell ⟨RB, 1, none⟩ v.k).setCell ⟨RB, 2, none⟩ v.f).setCell ⟨RB, 3, none⟩ v.t) (pItems v F cs G ts []) ∧ (let W := (((u.setCell ⟨RB, 0, none⟩ v.r).setCell ⟨RB, 1, none⟩ v.k).setCell ⟨RB, 2, none⟩ v.f).setCell ⟨RB, 3, none⟩ v.t; W.cell? ⟨RB, 0, none⟩ = some v.r ∧ W.cell? ⟨RB, 1, none⟩ = some v.k ∧ W.cell? ⟨RB, 2, none⟩ = some v.f ∧ W.cell? ⟨RB, 3, none⟩ = some v.t) := by
  have h1 := Bl.setp (D := [gb P v]) (E := []) (Bl.setp (D := [gb P v]) (E := []) (Bl.setp (D := [gb P v]) (E := []) (Bl.setp (D := [gb P v]) (E := []) h 0 (by omega) v.r) 1 (by omega) v.k) 2 (by omega) v.f) 3 (by omega) v.t
  have hm : gb RB v ∈ pItems v F cs G ts [gb P v, gb RB v] := pItems_in (by simp)
  refine ⟨h1.sub ?_, (Bl.four h1 hm).1⟩
  rw [pItems_nil (B := [gb P v] ++ _)]
  exact List.sublist_append_left _ _
/-- A program of three regions. -/
theorem Bl.regions (h : Bl w u D) : Bl w (((((u.alloc (.cells #[] 2)).alloc (.cells #[] 2)).alloc (.cells #[] 2)).alloc (.cells #[.slice (some ⟨u.heap.size, 0, none⟩) 0 0, .slice (some ⟨u.heap.size + 1, 0, none⟩) 0 0, .slice (some ⟨u.heap.size + 1 + 1, 0, none⟩) 0 0] 49)).alloc (.cells #[.slice (some ⟨u.heap.size + 1 + 1 + 1, 0, none⟩) 3 3, .slice none 0 0, .slice none 0 0, .slice none 0 0] 31))
    (pItems ⟨.slice (some ⟨u.heap.size + 1 + 1 + 1, 0, none⟩) 3 3, .slice none 0 0, .slice none 0 0, .slice none 0 0⟩ [([], .slice (some ⟨u.heap.size, 0, none⟩) 0 0), ([], .slice (some ⟨u.heap.size + 1, 0, none⟩) 0 0), ([], .slice (some ⟨u.heap.size + 1 + 1, 0, none⟩) 0 0)] [] [] [] (gb (u.heap.size + 1 + 1 + 1 + 1) ⟨.slice (some ⟨u.heap.size + 1 + 1 + 1, 0, none⟩) 3 3, .slice none 0 0, .slice none 0 0, .slice none 0 0⟩ :: D)) := by
  have lit0 : ∀ (x : World), (iRow (.slice (some ⟨x.heap.size, 0, none⟩) 0 0) []).own (x.alloc (.cells #[] 2)) x.heap.size := fun x => World.ownsRow_lit (base := x.heap.size) (e := 2) (size := 1) x #[] 0 (Nat.le_refl _) (by unfold maxLen; omega) rfl
  have lit3 : ∀ (x : World) (a b c : Value), (⟨49, 1, .slice (some ⟨x.heap.size, 0, none⟩) 3 3, 3, [a, b, c]⟩ : RowI).own (x.alloc (.cells #[a, b, c] 49)) x.heap.size := fun x a b c => World.ownsRow_lit (base := x.heap.size) (e := 49) (size := 1) x #[a, b, c] 3 (Nat.le_refl _) (by unfold maxLen; omega) rfl
  have h1 := h.row (below_alloc u (.cells #[] 2)) (lit0 u)
  have h2 := h1.row (below_alloc _ (.cells #[] 2)) (lit0 _)
  have h3 := h2.row (below_alloc _ (.cells #[] 2)) (lit0 _)
  have h4 := h3.row (below_alloc _ _) (lit3 _ (.slice (some ⟨u.heap.size, 0, none⟩) 0 0) (.slice (some ⟨u.heap.size + 1, 0, none⟩) 0 0) (.slice (some ⟨u.heap.size + 1 + 1, 0, none⟩) 0 0))
  have h5 := h4.box 31 4 [.slice (some ⟨u.heap.size + 1 + 1 + 1, 0, none⟩) 3 3, .slice none 0 0, .slice none 0 0, .slice none 0 0] rfl
  have h6 := ((h5.nil 108 2).nil 86 4).nil 112 4
  simp only [World.size_alloc, List.append_assoc, List.cons_append, List.nil_append] at h6
  refine h6.perm ?_
  refine (List.perm_append_comm (l₁ := D)).trans ?_
  simp only [pItems, rItems, rHead, rCells, cRow, fHead, fItems, tRow, List.map, List.flatMap_cons, List.flatMap_nil, List.cons_append, List.nil_append, List.length_cons, List.length_nil, List.append_nil]
  generalize iRow (.slice (some ⟨u.heap.size, 0, none⟩) 0 0) [] = A1
  generalize iRow (.slice (some ⟨u.heap.size + 1, 0, none⟩) 0 0) [] = A2
  generalize iRow (.slice (some ⟨u.heap.size + 1 + 1, 0, none⟩) 0 0) [] = A3
  refine List.Perm.trans ?_ ((List.perm_append_comm (l₁ := [A1, A2, A3]) (l₂ := [_])).append_right _)
  simp only [List.cons_append, List.nil_append]
  refine .cons _ (.cons _ (.cons _ (.cons _ ?_)))
  exact List.perm_append_comm (l₁ := [_]) (l₂ := [_, _, _]) |>.append_right D
end
def HsTo {n2 : Nat} (hs : List (TL n2)) (k : Nat) : Prop := ∀ j h, j < k → hs[j]? = some h → GoodX hs.length (j + 1) ⟨n2, h⟩
theorem HsTo.next {n2 : Nat} {hs : List (TL n2)} {k : Nat} (h : HsTo hs k) {x : TL n2} (hx : hs[k]? = some x) (hk : GoodX hs.length (k + 1) ⟨n2, x⟩) : HsTo hs (k + 1) := fun j y hj hy => by
  by_cases e : j = k
  · subst e
    rw [hx] at hy
    obtain rfl := Option.some.inj hy
    exact hk
  · exact h j y (by omega) hy
set_option maxHeartbeats 8000000 in
set_option maxRecDepth 100000 in
theorem specCompile_any (n1 : Nat) (t : TL n1) (n2 : Nat) (hs : List (TL n2)) (s0 s1 : Value) (w : World) (h0 : RdT w n1 s0 t) (h1 : RdHs w n2 s1 hs) (z0 : sizeT n1 t ≤ 1048576) (z1 : ∀ h ∈ hs, sizeT n2 h ≤ 1048576) (z2 : hs.length ≤ 1048576) :
    Calls Tryz.prog 6 #[s0, s1] w (CmRes (allA n1 t n2 hs) w) := by
  obtain ⟨k0, hk0, hx0, hx1, hx2⟩ := info_parts info64
  have H : Hid (RdT w n1 s0 t ∧ RdHs w n2 s1 hs ∧ sizeT n1 t ≤ 1048576 ∧ (∀ h ∈ hs, sizeT n2 h ≤ 1048576)) := ⟨h0, h1, z0, z1⟩
  obtain ⟨a0, c0, e0⟩ := h0.is_slice
  obtain ⟨a1, c1, e1⟩ := h1.is_slice
  subst e0 e1
  clear h0 h1 z0 z1
  generalize lenT n1 t = l0 at H ⊢
  generalize hN : hs.length = N at H z2 ⊢
  have HN : Hid (hs.length = N) := hN
  clear hN
  have E0 : Hid (Bl w (w.alloc (.cells #[.slice none 0 0, .slice none 0 0, .slice none 0 0, .slice none 0 0] 31)) [gb w.heap.size vN]) := (Bl.start w).box 31 4 [.slice none 0 0, .slice none 0 0, .slice none 0 0, .slice none 0 0] rfl
  go_enter Tryz.func6, Tryz.ntmps6
  go_upto_region 1 with fail
  generalize w.heap.size = RB at E0 ⊢
  refine wp_world (fun U => Hid (Bl w U [gb RB vN])) E0 ?_
  clear E0
  rintro U0 E0
  have hNi : (N : Int) ≤ 1048576 := by omega
  by_cases hn : 8 < N
  · have hn' : (8 : Int) < (N : Int) := by omega
    have hnd : decide ((N : Int) > 8) = true := by simpa using hn'
    have HNG : Hid (¬ (GoodA (allA n1 t n2 hs) ∧ FaultIs (progA (allA n1 t n2 hs)) 0)) := fun e => by have := ((goodA_iff n1 t n2 hs).1 e.1).1; rw [HN.out] at this; omega
    obtain ⟨⟨p0, p1, p2, p3⟩, f0, f1, f2, f3⟩ := E0.out.four (show gb RB vN ∈ _ by simp)
    have HW : Hid _ := Bl.set4 E0.out (.slice none 0 0) (.slice none 0 0) (.slice none 0 0) (.slice none 0 0)
    go_wp2_with fail
    obtain ⟨⟨q0, q1, q2, q3⟩, -⟩ := HW.out.four (show gb RB ⟨.slice none 0 0, .slice none 0 0, .slice none 0 0, .slice none 0 0⟩ ∈ _ by simp)
    clear p0 p1 p2 p3 f0 f1 f2 f3
    generalize hWW : (((U0.setCell ⟨RB, 0, none⟩ (.slice none 0 0)).setCell ⟨RB, 1, none⟩ (.slice none 0 0)).setCell ⟨RB, 2, none⟩ (.slice none 0 0)).setCell ⟨RB, 3, none⟩ (.slice none 0 0) = WF at *
    exact bodyPost_ret (v := .agg #[.slice none 0 0, .slice none 0 0, .slice none 0 0, .slice none 0 0]) (by simp [results, Tryz.results6, go_sem, q0, q1, q2, q3]) rfl ⟨vN, [], [], [], [], rfl, HW.out.zero, .inr ⟨HNG.out, rfl⟩⟩
  have hn' : ¬ (8 : Int) < (N : Int) := by omega
  have hnd : decide ((N : Int) > 8) = false := by simpa using hn'
  go_wp2_with fail
  refine (specStmt_any n1 _ t U0 (H.out.1.keep E0.out.bel (Nat.le_refl _)) H.out.2.2.1).mono ?_
  rintro e U1 ⟨z, rfl, hz, b1⟩
  have E1 : Hid (Bl w U1 [gb RB vN]) := E0.out.keep b1
  have HZ : Hid (CodeIs n1 t z) := hz
  clear hz b1 E0
  by_cases hz : z = 0
  rotate_left
  · have hz1 : (z == 0) = false := by simpa using hz
    have hz2 : (z != 0) = true := by simpa using hz
    have HZN : Hid (z ≠ 0) := hz
    clear hz
    have HNG : Hid (¬ (GoodA (allA n1 t n2 hs) ∧ FaultIs (progA (allA n1 t n2 hs)) 0)) := fun e => by have := (((goodA_iff n1 t n2 hs).1 e.1).2.1).1; exact HZN.out (HZ.out.one this)
    obtain ⟨⟨p0, p1, p2, p3⟩, f0, f1, f2, f3⟩ := E1.out.four (show gb RB vN ∈ _ by simp)
    have HW : Hid _ := Bl.set4 E1.out (.slice none 0 0) (.slice none 0 0) (.slice none 0 0) (.slice none 0 0)
    go_wp2_with fail
    obtain ⟨⟨q0, q1, q2, q3⟩, -⟩ := HW.out.four (show gb RB ⟨.slice none 0 0, .slice none 0 0, .slice none 0 0, .slice none 0 0⟩ ∈ _ by simp)
    clear p0 p1 p2 p3 f0 f1 f2 f3
    generalize hWW : (((U1.setCell ⟨RB, 0, none⟩ (.slice none 0 0)).setCell ⟨RB, 1, none⟩ (.slice none 0 0)).setCell ⟨RB, 2, none⟩ (.slice none 0 0)).setCell ⟨RB, 3, none⟩ (.slice none 0 0) = WF at *
    exact bodyPost_ret (v := .agg #[.slice none 0 0, .slice none 0 0, .slice none 0 0, .slice none 0 0]) (by simp [results, Tryz.results6, go_sem, q0, q1, q2, q3]) rfl ⟨vN, [], [], [], [], rfl, HW.out.zero, .inr ⟨HNG.out, rfl⟩⟩
  subst hz
  go_wp2_with fail
  refine (l10Calls_any n1 _ t 0 (N : Int) U1 (H.out.1.keep E1.out.bel (Nat.le_refl _)) H.out.2.2.1).mono ?_
  rintro e U2 ⟨⟨b, rfl, hb⟩, rfl⟩
  have HB : Hid (b = true ↔ callsT n1 t 0 (N : Int)) := hb
  clear hb
  cases b
  · skip
    have HBF : Hid (¬ callsT n1 t 0 (N : Int)) := fun e => by have := HB.out.2 e; cases this
    clear HB
    have E2 := E1
    clear E1
    have HNG : Hid (¬ (GoodA (allA n1 t n2 hs) ∧ FaultIs (progA (allA n1 t n2 hs)) 0)) := fun e => by have := (((goodA_iff n1 t n2 hs).1 e.1).2.1).2; rw [HN.out] at this; exact HBF.out this
    obtain ⟨⟨p0, p1, p2, p3⟩, f0, f1, f2, f3⟩ := E2.out.four (show gb RB vN ∈ _ by simp)
    have HW : Hid _ := Bl.set4 E2.out (.slice none 0 0) (.slice none 0 0) (.slice none 0 0) (.slice none 0 0)
    go_wp2_with fail
    obtain ⟨⟨q0, q1, q2, q3⟩, -⟩ := HW.out.four (show gb RB ⟨.slice none 0 0, .slice none 0 0, .slice none 0 0, .slice none 0 0⟩ ∈ _ by simp)
    clear p0 p1 p2 p3 f0 f1 f2 f3
    generalize hWW : (((U2.setCell ⟨RB, 0, none⟩ (.slice none 0 0)).setCell ⟨RB, 1, none⟩ (.slice none 0 0)).setCell ⟨RB, 2, none⟩ (.slice none 0 0)).setCell ⟨RB, 3, none⟩ (.slice none 0 0) = WF at *
    exact bodyPost_ret (v := .agg #[.slice none 0 0, .slice none 0 0, .slice none 0 0, .slice none 0 0]) (by simp [results, Tryz.results6, go_sem, q0, q1, q2, q3]) rfl ⟨vN, [], [], [], [], rfl, HW.out.zero, .inr ⟨HNG.out, rfl⟩⟩
  have HG0 : Hid (GoodX hs.length 0 ⟨n1, t⟩) := ⟨HZ.out, by rw [HN.out]; exact HB.out.1 rfl⟩
  clear HB HZ
  have E2 := E1
  clear E1
  go_wp2_with fail
  go_loopw [6] (fun i wr => ∃ k : Nat, k ≤ N ∧ i = .int .i64 k ∧ Hid (Bl w wr [gb RB vN] ∧ HsTo hs k)) (fun i _ => N - (intOf i).toNat)
  case atStart => exact ⟨0, by omega, rfl, E2.out, fun j h hj => absurd hj (by omega)⟩
  case round =>
    clear E2
    obtain ⟨k, hk, rfl, HK⟩ := hrel
    by_cases hlt : k < N
    · obtain ⟨x, hx⟩ : ∃ x, hs[k]? = some x := ⟨_, List.getElem?_eq_getElem (by rw [HN.out]; exact hlt)⟩
      obtain ⟨g, o, c, vx, e1, i0, rx⟩ := H.out.2.1.elem hx
      rw [HN.out] at e1
      simp only [Value.slice.injEq, true_and] at e1
      obtain ⟨rfl, rfl⟩ := e1
      rw [← HK.out.1.bel.cell (block_lt_of_cell i0)] at i0
      obtain ⟨ax, cx, ex⟩ := rx.is_slice
      subst ex
      have HX : Hid (hs[k]? = some x ∧ RdT w n2 (.slice ax (lenT n2 x) cx) x ∧ sizeT n2 x ≤ 1048576) := ⟨hx, rx, H.out.2.2.2 x (List.mem_of_getElem? hx)⟩
      clear hx rx
      generalize lenT n2 x = lx at HX i0 ⊢
      go_wp2_with fail
      refine (specStmt_any n2 _ x _ (HX.out.2.1.keep HK.out.1.bel (Nat.le_refl _)) HX.out.2.2).mono ?_
      rintro e V1 ⟨z, rfl, hz, b1⟩
      have j0 := bcell_lt b1 i0
      have K1 : Hid (Bl w V1 [gb RB vN]) := HK.out.1.keep b1
      have HKT : Hid (HsTo hs k) := HK.out.2
      have HZ : Hid (CodeIs n2 x z) := hz
      clear hz b1 HK i0
      by_cases hz : z = 0
      rotate_left
      · have hz1 : (z == 0) = false := by simpa using hz
        have hz2 : (z != 0) = true := by simpa using hz
        have HZN : Hid (z ≠ 0) := hz
        clear hz
        have HNG : Hid (¬ (GoodA (allA n1 t n2 hs) ∧ FaultIs (progA (allA n1 t n2 hs)) 0)) := fun e => by have := (((goodA_iff n1 t n2 hs).1 e.1).2.2 k x HX.out.1).1; exact HZN.out (HZ.out.one this)
        obtain ⟨⟨p0, p1, p2, p3⟩, f0, f1, f2, f3⟩ := K1.out.four (show gb RB vN ∈ _ by simp)
        have HW : Hid _ := Bl.set4 K1.out (.slice none 0 0) (.slice none 0 0) (.slice none 0 0) (.slice none 0 0)
        go_wp2_with fail
        obtain ⟨⟨q0, q1, q2, q3⟩, -⟩ := HW.out.four (show gb RB ⟨.slice none 0 0, .slice none 0 0, .slice none 0 0, .slice none 0 0⟩ ∈ _ by simp)
        clear p0 p1 p2 p3 f0 f1 f2 f3
        generalize hWW : (((V1.setCell ⟨RB, 0, none⟩ (.slice none 0 0)).setCell ⟨RB, 1, none⟩ (.slice none 0 0)).setCell ⟨RB, 2, none⟩ (.slice none 0 0)).setCell ⟨RB, 3, none⟩ (.slice none 0 0) = WF at *
        exact bodyPost_ret (v := .agg #[.slice none 0 0, .slice none 0 0, .slice none 0 0, .slice none 0 0]) (by simp [results, Tryz.results6, go_sem, q0, q1, q2, q3]) rfl ⟨vN, [], [], [], [], rfl, HW.out.zero, .inr ⟨HNG.out, rfl⟩⟩
      subst hz
      go_wp2_with fail
      refine (l10Calls_any n2 _ x ((k : Int) + 1) (N : Int) V1 (HX.out.2.1.keep K1.out.bel (Nat.le_refl _)) HX.out.2.2).mono ?_
      rintro e V2 ⟨⟨b, rfl, hb⟩, rfl⟩
      have HB : Hid (b = true ↔ callsT n2 x ((k : Int) + 1) (N : Int)) := hb
      clear hb
      cases b
      · skip
        have HBF : Hid (¬ callsT n2 x ((k : Int) + 1) (N : Int)) := fun e => by have := HB.out.2 e; cases this
        clear HB
        have K2 := K1
        clear K1
        have HNG : Hid (¬ (GoodA (allA n1 t n2 hs) ∧ FaultIs (progA (allA n1 t n2 hs)) 0)) := fun e => by have := (((goodA_iff n1 t n2 hs).1 e.1).2.2 k x HX.out.1).2; rw [HN.out] at this; exact HBF.out this
        obtain ⟨⟨p0, p1, p2, p3⟩, f0, f1, f2, f3⟩ := K2.out.four (show gb RB vN ∈ _ by simp)
        have HW : Hid _ := Bl.set4 K2.out (.slice none 0 0) (.slice none 0 0) (.slice none 0 0) (.slice none 0 0)
        go_wp2_with fail
        obtain ⟨⟨q0, q1, q2, q3⟩, -⟩ := HW.out.four (show gb RB ⟨.slice none 0 0, .slice none 0 0, .slice none 0 0, .slice none 0 0⟩ ∈ _ by simp)
        clear p0 p1 p2 p3 f0 f1 f2 f3
        generalize hWW : (((V2.setCell ⟨RB, 0, none⟩ (.slice none 0 0)).setCell ⟨RB, 1, none⟩ (.slice none 0 0)).setCell ⟨RB, 2, none⟩ (.slice none 0 0)).setCell ⟨RB, 3, none⟩ (.slice none 0 0) = WF at *
        exact bodyPost_ret (v := .agg #[.slice none 0 0, .slice none 0 0, .slice none 0 0, .slice none 0 0]) (by simp [results, Tryz.results6, go_sem, q0, q1, q2, q3]) rfl ⟨vN, [], [], [], [], rfl, HW.out.zero, .inr ⟨HNG.out, rfl⟩⟩
      · have HK2 : Hid (Bl w V2 [gb RB vN] ∧ HsTo hs (k + 1)) := ⟨K1.out, HKT.out.next HX.out.1 ⟨HZ.out, by rw [HN.out]; exact HB.out.1 rfl⟩⟩
        clear HB K1
        go_wp2_with fail
        go_roundw
        case rel => exact ⟨k + 1, by omega, by go_num, HK2⟩
        case measure => simp [intOf]; omega
    have hkn : k = N := by omega
    have HGA : Hid (GoodA (allA n1 t n2 hs)) := (goodA_iff n1 t n2 hs).2 ⟨by rw [HN.out]; omega, HG0.out, fun i h hi => HK.out.2 i h (by have := (List.getElem?_eq_some_iff.1 hi).1; rw [hkn, ← HN.out]; exact this) hi⟩
    clear HG0
    have K2 : Hid (Bl w wr [gb RB vN]) := HK.out.1
    clear HK hlt
    subst hkn
    go_upto_region 10 with fail
    have HR : Hid _ := K2.out.regions
    clear K2
    generalize hP : wr.heap.size + 1 + 1 + 1 + 1 = P at HR ⊢
    generalize hR3 : wr.heap.size + 1 + 1 + 1 = R3 at HR ⊢
    generalize hA3 : some (⟨wr.heap.size + 1 + 1, 0, none⟩ : Addr) = a3 at HR ⊢
    generalize hr2 : Value.slice (some ⟨wr.heap.size + 1, 0, none⟩) 0 0 = r2 at HR ⊢
    generalize hr1 : Value.slice (some ⟨wr.heap.size, 0, none⟩) 0 0 = r1 at HR ⊢
    clear hP hR3 hA3 hr2 hr1
    refine wp_world (fun U => Hid (Bl w U (pItems ⟨.slice (some ⟨R3, 0, none⟩) 3 3, .slice none 0 0, .slice none 0 0, .slice none 0 0⟩ [([], r1), ([], r2), ([], .slice a3 0 0)] [] [] [] [gb P ⟨.slice (some ⟨R3, 0, none⟩) 3 3, .slice none 0 0, .slice none 0 0, .slice none 0 0⟩, gb RB vN]))) HR ?_
    clear HR
    rintro U3 E3
    go_wp2_with fail
    go_loopw [8] (fun i wr => ∃ (j : Nat) (a3 : Option Addr) (c3 : Nat), j ≤ 8 ∧ i = .int .i64 j ∧ Hid (Bl w wr (pItems ⟨.slice (some ⟨R3, 0, none⟩) 3 3, .slice none 0 0, .slice none 0 0, .slice none 0 0⟩ [([], r1), ([], r2), (List.replicate j 3, .slice a3 j c3)] [] [] [] [gb P ⟨.slice (some ⟨R3, 0, none⟩) 3 3, .slice none 0 0, .slice none 0 0, .slice none 0 0⟩, gb RB vN]))) (fun i _ => 8 - (intOf i).toNat)
    case atStart => exact ⟨0, a3, 0, by omega, rfl, E3.out⟩
    case round =>
      clear E3
      obtain ⟨j, a3, c3, hj, rfl, HK⟩ := hrel
      by_cases hlt : j < 8
      · skip
        go_upto_region 13 with fail
        have HD : Hid (Bl w wr.drew (pItems ⟨.slice (some ⟨R3, 0, none⟩) 3 3, .slice none 0 0, .slice none 0 0, .slice none 0 0⟩ [([], r1), ([], r2), (List.replicate j 3, .slice a3 j c3)] [] [] [] [gb P ⟨.slice (some ⟨R3, 0, none⟩) 3 3, .slice none 0 0, .slice none 0 0, .slice none 0 0⟩, gb RB vN])) := HK.out.keep (below_drew1 _)
        refine wp_region_held_drew (S := fun W => W.cell? ⟨P, 0, none⟩ = some (.slice (some ⟨R3, 0, none⟩) 3 3)) (by kernel_rfl) (by exact (HD.out.four (pItems_in (show gb P ⟨.slice (some ⟨R3, 0, none⟩) 3 3, .slice none 0 0, .slice none 0 0, .slice none 0 0⟩ ∈ _ by simp))).1.1) (fun hHeld => ?_)
        clear HK
        generalize wr.drew = UD at HD hHeld ⊢
        have q1 : UD.cell? ⟨R3, 2, none⟩ = some (.slice a3 j c3) := HD.out.rcell
        refine wpAnyH_take (i := 0) (v := ?_) rfl (by kernel_rfl) (by kernel_rfl) (by kernel_rfl) (fun _ _ _ h => h) (Or.inl ⟨by rfl, ?_⟩) (by assumption) ?_
        rotate_left
        · (intro w hSw; (try dsimp only at hSw); (try obtain ⟨hSa, hSb, hSc, hSd⟩ := hSw); (try obtain ⟨hSa, hSb, hSc⟩ := hSw); (try obtain ⟨hSa, hSb⟩ := hSw); go_simp; (try with_reducible rfl))
        refine wpAnyH_take (i := 1) (v := ?_) rfl (by kernel_rfl) (by kernel_rfl) (by kernel_rfl) (fun _ _ _ h => h) (Or.inl ⟨by rfl, ?_⟩) (by assumption) ?_
        rotate_left
        · (intro w hSw; (try dsimp only at hSw); (try obtain ⟨hSa, hSb, hSc, hSd⟩ := hSw); (try obtain ⟨hSa, hSb, hSc⟩ := hSw); (try obtain ⟨hSa, hSb⟩ := hSw); go_simp; (try with_reducible rfl))
        refine wpAnyH_take (i := 2) (v := ?_) rfl (by kernel_rfl) (by kernel_rfl) (by kernel_rfl) (fun _ _ _ h => h) (Or.inl ⟨by rfl, ?_⟩) (by assumption) ?_
        rotate_left
        · (intro w hSw; (try dsimp only at hSw); (try obtain ⟨hSa, hSb, hSc, hSd⟩ := hSw); (try obtain ⟨hSa, hSb, hSc⟩ := hSw); (try obtain ⟨hSa, hSb⟩ := hSw); go_simp; (try with_reducible rfl))
        refine wpAnyH_take (i := 3) (v := ?_) rfl (by kernel_rfl) (by kernel_rfl) (by kernel_rfl) (fun _ _ _ h => h) (Or.inl ⟨by rfl, ?_⟩) (by assumption) ?_
        rotate_left
        · (intro w hSw; (try dsimp only at hSw); (try obtain ⟨hSa, hSb, hSc, hSd⟩ := hSw); (try obtain ⟨hSa, hSb, hSc⟩ := hSw); (try obtain ⟨hSa, hSb⟩ := hSw); go_simp; (try with_reducible rfl))
        refine wpAnyH_take (i := 4) (v := ?_) rfl (by kernel_rfl) (by kernel_rfl) (by kernel_rfl) (fun _ _ _ h => h) (Or.inl ⟨by rfl, ?_⟩) (by assumption) ?_
        rotate_left
        · (intro w hSw; (try dsimp only at hSw); (try obtain ⟨hSa, hSb, hSc, hSd⟩ := hSw); (try obtain ⟨hSa, hSb, hSc⟩ := hSw); (try obtain ⟨hSa, hSb⟩ := hSw); go_simp; (try with_reducible rfl))
        refine wpAnyH_ready (rs := [5, 6]) (by kernel_rfl) (by simp) ?_
        refine AllReadyH.cons rfl (fun KC hKC => ?_) (AllReadyH.cons rfl (fun KC hKC => ?_) AllReadyH.nil)
        focus
          go_simp
          refine hKC.out _ _ (by assumption) (fun hHeld => ?_)
          clear hKC KC
          refine wpAnyH_ready (rs := [6]) (by kernel_rfl) (by simp) ?_
          refine AllReadyH.cons rfl (fun KC hKC => ?_) AllReadyH.nil
          go_simp
          have D3 : Hid (Bl w (UD.alloc (.cells #[.int .i64 3] 2)) (pItems ⟨.slice (some ⟨R3, 0, none⟩) 3 3, .slice none 0 0, .slice none 0 0, .slice none 0 0⟩ [([], r1), ([], r2), (List.replicate j 3, .slice a3 j c3)] [] [] [] [gb P ⟨.slice (some ⟨R3, 0, none⟩) 3 3, .slice none 0 0, .slice none 0 0, .slice none 0 0⟩, gb RB vN])) := HD.out.keep (below_alloc _ _)
          have O3 : Hid ((UD.alloc (.cells #[.int .i64 3] 2)).ownsRow w.heap.size 2 1 (.slice a3 j c3) j ((List.replicate j (3 : Int)).flatMap intCell)) := (by have h9 : (UD.alloc (.cells #[.int .i64 3] 2)).ownsRow w.heap.size 2 1 (.slice a3 j c3) (List.replicate j (3 : Int)).length ((List.replicate j (3 : Int)).flatMap intCell) := D3.out.sep.own (iRow (.slice a3 j c3) (List.replicate j 3)) (by simp [pItems, rItems]); rw [List.length_replicate] at h9; exact h9)
          have q3 : (UD.alloc (.cells #[.int .i64 3] 2)).cell? ⟨R3, 2, none⟩ = some (.slice a3 j c3) := D3.out.rcell
          refine hKC.out _ _ (by exact (D3.out.four (pItems_in (show gb P ⟨.slice (some ⟨R3, 0, none⟩) 3 3, .slice none 0 0, .slice none 0 0, .slice none 0 0⟩ ∈ _ by simp))).1.1) (fun hHeld => ?_)
          clear hKC KC
          refine wpAnyH_ready (rs := [7]) (by kernel_rfl) (by simp) ?_
          refine AllReadyH.cons rfl (fun KC hKC => ?_) AllReadyH.nil
          refine step_append_lies _ rfl (.tmp 63) (.tmp 64) 49 rfl w.heap.size 2 k0 (.int .i64 0) 1 8 Tryz.underlying49 hk0 hx0 hx1 hx2 rfl (by decide) (.slice a3 j c3) j ((List.replicate j (3 : Int)).flatMap intCell) (by simp [Act.eval]) O3.out ⟨UD.heap.size, 0, none⟩ 1 1 [.int .i64 3] (by simp [Act.eval]) rfl (lit_at UD [.int .i64 3] 2) (int_one [3]) (by omega) (by unfold maxLen; omega) (by omega) D3.out.size _ rfl ?_
          intro gg cap u8 hown hgrow hat _
          have D4 : Hid _ := D3.out.reg2 rfl 3 (.slice (some ⟨gg, 0, none⟩) (j + 1) cap) (by rw [List.length_replicate]; exact hown) hgrow (hat_of hat)
          have y0 := D4.out.2.1.1
          have y1 := D4.out.2.1.2
          have y2 : Hid (u8.cell? ⟨P, 0, none⟩ = some (.slice (some ⟨R3, 0, none⟩) 3 3) ∧ (u8.setCell ⟨R3, 2, none⟩ (.slice (some ⟨gg, 0, none⟩) (j + 1) cap)).cell? ⟨P, 0, none⟩ = some (.slice (some ⟨R3, 0, none⟩) 3 3)) := ⟨D4.out.2.2 P ⟨.slice (some ⟨R3, 0, none⟩) 3 3, .slice none 0 0, .slice none 0 0, .slice none 0 0⟩ (by simp), (D4.out.1.four (pItems_in (show gb P ⟨.slice (some ⟨R3, 0, none⟩) 3 3, .slice none 0 0, .slice none 0 0, .slice none 0 0⟩ ∈ _ by simp))).1.1⟩
          clear hown hgrow hat O3 D3 q1 q3
          refine hKC.out _ _ (by exact y2.out.1) (fun hHeld => ?_)
          clear hKC KC
          refine wpAnyH_take (i := 8) (v := ?_) rfl (by kernel_rfl) (by kernel_rfl) (by kernel_rfl) (fun _ _ _ h => h) (Or.inl ⟨by rfl, ?_⟩) (by assumption) ?_
          rotate_left
          · (intro w hSw; (try dsimp only at hSw); (try obtain ⟨hSa, hSb, hSc, hSd⟩ := hSw); (try obtain ⟨hSa, hSb, hSc⟩ := hSw); (try obtain ⟨hSa, hSb⟩ := hSw); go_simp; (try with_reducible rfl))
          refine wpAnyH_ready (rs := [9]) (by kernel_rfl) (by simp) ?_
          refine AllReadyH.cons rfl (fun KC hKC => ?_) AllReadyH.nil
          go_simp
          refine hKC.out _ _ (by exact y2.out.2) (fun hHeld => ?_)
          clear hKC KC
          refine wpAnyH_done (by kernel_rfl) ?_ _
          clear hHeld y0 y1 y2
          have D5 : Hid (Bl w (u8.setCell ⟨R3, 2, none⟩ (.slice (some ⟨gg, 0, none⟩) (j + 1) cap)) (pItems ⟨.slice (some ⟨R3, 0, none⟩) 3 3, .slice none 0 0, .slice none 0 0, .slice none 0 0⟩ [([], r1), ([], r2), (List.replicate (j + 1) 3, .slice (some ⟨gg, 0, none⟩) (j + 1) cap)] [] [] [] [gb P ⟨.slice (some ⟨R3, 0, none⟩) 3 3, .slice none 0 0, .slice none 0 0, .slice none 0 0⟩, gb RB vN])) := by have := D4.out.1; rwa [← List.replicate_succ'] at this
          generalize u8.setCell ⟨R3, 2, none⟩ (.slice (some ⟨gg, 0, none⟩) (j + 1) cap) = W5 at D5 ⊢
          clear D4 HD
          go_wp2_with fail
          go_roundw
          case rel => exact ⟨j + 1, _, _, by omega, by go_num, D5⟩
          case measure => simp [intOf]; omega
        focus
          go_simp
          have D3 : Hid (Bl w (UD.alloc (.cells #[.int .i64 3] 2)) (pItems ⟨.slice (some ⟨R3, 0, none⟩) 3 3, .slice none 0 0, .slice none 0 0, .slice none 0 0⟩ [([], r1), ([], r2), (List.replicate j 3, .slice a3 j c3)] [] [] [] [gb P ⟨.slice (some ⟨R3, 0, none⟩) 3 3, .slice none 0 0, .slice none 0 0, .slice none 0 0⟩, gb RB vN])) := HD.out.keep (below_alloc _ _)
          have O3 : Hid ((UD.alloc (.cells #[.int .i64 3] 2)).ownsRow w.heap.size 2 1 (.slice a3 j c3) j ((List.replicate j (3 : Int)).flatMap intCell)) := (by have h9 : (UD.alloc (.cells #[.int .i64 3] 2)).ownsRow w.heap.size 2 1 (.slice a3 j c3) (List.replicate j (3 : Int)).length ((List.replicate j (3 : Int)).flatMap intCell) := D3.out.sep.own (iRow (.slice a3 j c3) (List.replicate j 3)) (by simp [pItems, rItems]); rw [List.length_replicate] at h9; exact h9)
          have q3 : (UD.alloc (.cells #[.int .i64 3] 2)).cell? ⟨R3, 2, none⟩ = some (.slice a3 j c3) := D3.out.rcell
          refine hKC.out _ _ (by exact (D3.out.four (pItems_in (show gb P ⟨.slice (some ⟨R3, 0, none⟩) 3 3, .slice none 0 0, .slice none 0 0, .slice none 0 0⟩ ∈ _ by simp))).1.1) (fun hHeld => ?_)
          clear hKC KC
          refine wpAnyH_ready (rs := [5]) (by kernel_rfl) (by simp) ?_
          refine AllReadyH.cons rfl (fun KC hKC => ?_) AllReadyH.nil
          go_simp
          refine hKC.out _ _ (by assumption) (fun hHeld => ?_)
          clear hKC KC
          refine wpAnyH_ready (rs := [7]) (by kernel_rfl) (by simp) ?_
          refine AllReadyH.cons rfl (fun KC hKC => ?_) AllReadyH.nil
          refine step_append_lies _ rfl (.tmp 63) (.tmp 64) 49 rfl w.heap.size 2 k0 (.int .i64 0) 1 8 Tryz.underlying49 hk0 hx0 hx1 hx2 rfl (by decide) (.slice a3 j c3) j ((List.replicate j (3 : Int)).flatMap intCell) (by simp [Act.eval]) O3.out ⟨UD.heap.size, 0, none⟩ 1 1 [.int .i64 3] (by simp [Act.eval]) rfl (lit_at UD [.int .i64 3] 2) (int_one [3]) (by omega) (by unfold maxLen; omega) (by omega) D3.out.size _ rfl ?_
          intro gg cap u8 hown hgrow hat _
          have D4 : Hid _ := D3.out.reg2 rfl 3 (.slice (some ⟨gg, 0, none⟩) (j + 1) cap) (by rw [List.length_replicate]; exact hown) hgrow (hat_of hat)
          have y0 := D4.out.2.1.1
          have y1 := D4.out.2.1.2
          have y2 : Hid (u8.cell? ⟨P, 0, none⟩ = some (.slice (some ⟨R3, 0, none⟩) 3 3) ∧ (u8.setCell ⟨R3, 2, none⟩ (.slice (some ⟨gg, 0, none⟩) (j + 1) cap)).cell? ⟨P, 0, none⟩ = some (.slice (some ⟨R3, 0, none⟩) 3 3)) := ⟨D4.out.2.2 P ⟨.slice (some ⟨R3, 0, none⟩) 3 3, .slice none 0 0, .slice none 0 0, .slice none 0 0⟩ (by simp), (D4.out.1.four (pItems_in (show gb P ⟨.slice (some ⟨R3, 0, none⟩) 3 3, .slice none 0 0, .slice none 0 0, .slice none 0 0⟩ ∈ _ by simp))).1.1⟩
          clear hown hgrow hat O3 D3 q1 q3
          refine hKC.out _ _ (by exact y2.out.1) (fun hHeld => ?_)
          clear hKC KC
          refine wpAnyH_take (i := 8) (v := ?_) rfl (by kernel_rfl) (by kernel_rfl) (by kernel_rfl) (fun _ _ _ h => h) (Or.inl ⟨by rfl, ?_⟩) (by assumption) ?_
          rotate_left
          · (intro w hSw; (try dsimp only at hSw); (try obtain ⟨hSa, hSb, hSc, hSd⟩ := hSw); (try obtain ⟨hSa, hSb, hSc⟩ := hSw); (try obtain ⟨hSa, hSb⟩ := hSw); go_simp; (try with_reducible rfl))
          refine wpAnyH_ready (rs := [9]) (by kernel_rfl) (by simp) ?_
          refine AllReadyH.cons rfl (fun KC hKC => ?_) AllReadyH.nil
          go_simp
          refine hKC.out _ _ (by exact y2.out.2) (fun hHeld => ?_)
          clear hKC KC
          refine wpAnyH_done (by kernel_rfl) ?_ _
          clear hHeld y0 y1 y2
          have D5 : Hid (Bl w (u8.setCell ⟨R3, 2, none⟩ (.slice (some ⟨gg, 0, none⟩) (j + 1) cap)) (pItems ⟨.slice (some ⟨R3, 0, none⟩) 3 3, .slice none 0 0, .slice none 0 0, .slice none 0 0⟩ [([], r1), ([], r2), (List.replicate (j + 1) 3, .slice (some ⟨gg, 0, none⟩) (j + 1) cap)] [] [] [] [gb P ⟨.slice (some ⟨R3, 0, none⟩) 3 3, .slice none 0 0, .slice none 0 0, .slice none 0 0⟩, gb RB vN])) := by have := D4.out.1; rwa [← List.replicate_succ'] at this
          generalize u8.setCell ⟨R3, 2, none⟩ (.slice (some ⟨gg, 0, none⟩) (j + 1) cap) = W5 at D5 ⊢
          clear D4 HD
          go_wp2_with fail
          go_roundw
          case rel => exact ⟨j + 1, _, _, by omega, by go_num, D5⟩
          case measure => simp [intOf]; omega
      have hj8 : j = 8 := by omega
      subst hj8
      clear hlt hj
      generalize hF : [(([] : List Int), r1), ([], r2), (List.replicate 8 3, Value.slice a3 8 c3)] = F at HK
      have HF : Hid (F.map Prod.fst = [[], [], List.replicate 8 3]) := by rw [← hF]; rfl
      clear hF
      generalize hv0 : (⟨.slice (some ⟨R3, 0, none⟩) 3 3, .slice none 0 0, .slice none 0 0, .slice none 0 0⟩ : VP) = v0 at HK
      clear hv0
      have E4 : Hid (SP w wr v0 F [] [] [] P [gb RB vN]) := ⟨HK.out⟩
      clear HK
      have HC1 : Hid (CodeIs n1 t 0) := (HGA.out.2 0 _ rfl).1
      go_wp2_with fail
      refine (l10Func_any n1 w _ v0 F [] [] [] P [gb RB vN] 0 _ t E4.out H.out.1 (code0 HC1.out).1 (code0 HC1.out).2.1 (by simp) (by simp) (by simp)).mono ?_
      rintro e U5 ⟨rfl, v1, vf1, hh⟩
      have E5 : Hid (∃ G, G.map Prod.fst = (mkAll ((allA n1 t n2 hs).take (0 + 1))).fs ∧ SP w U5 v1 F (mkAll ((allA n1 t n2 hs).take (0 + 1))).cs G (mkAll ((allA n1 t n2 hs).take (0 + 1))).ts P [gb RB vN]) := ⟨_, rfl, hh⟩
      clear hh E4 HC1
      go_wp2_with fail
      go_loopw [9] (fun i wr => ∃ (q : Nat) (v : VP), q ≤ k ∧ i = .int .i64 q ∧ Hid (∃ G, G.map Prod.fst = (mkAll ((allA n1 t n2 hs).take (q + 1))).fs ∧ SP w wr v F (mkAll ((allA n1 t n2 hs).take (q + 1))).cs G (mkAll ((allA n1 t n2 hs).take (q + 1))).ts P [gb RB vN])) (fun i _ => k - (intOf i).toNat)
      case atStart => exact ⟨0, v1, by omega, rfl, E5.out⟩
      case round =>
        clear E5
        obtain ⟨q, v, hq, rfl, HK⟩ := hrel
        have HAL : Hid ((allA n1 t n2 hs).length = k + 1) := by show (allA n1 t n2 hs).length = k + 1; rw [allA_len, HN.out]
        have HMO : Hid (MkOk (mkAll ((allA n1 t n2 hs).take (q + 1))) (q + 1)) := mkAll_ok HGA.out.1 (q + 1) (by rw [HAL.out]; omega) (fun i x _ hx => (HGA.out.2 i x hx).1)
        by_cases hlt : q < k
        · obtain ⟨x, hx⟩ : ∃ x, hs[q]? = some x := ⟨_, List.getElem?_eq_getElem (by rw [HN.out]; exact hlt)⟩
          obtain ⟨g, o, c, vx, e1, i0, rx⟩ := H.out.2.1.elem hx
          rw [HN.out] at e1
          simp only [Value.slice.injEq, true_and] at e1
          obtain ⟨rfl, rfl⟩ := e1
          obtain ⟨G, hG, hS⟩ := HK.out
          have HS : Hid (G.map Prod.fst = (mkAll ((allA n1 t n2 hs).take (q + 1))).fs ∧ SP w wr v F (mkAll ((allA n1 t n2 hs).take (q + 1))).cs G (mkAll ((allA n1 t n2 hs).take (q + 1))).ts P [gb RB vN]) := ⟨hG, hS⟩
          clear hG hS HK
          rw [← HS.out.2.bl.bel.cell (block_lt_of_cell i0)] at i0
          obtain ⟨ax, cx, ex⟩ := rx.is_slice
          subst ex
          have HX : Hid (RdT w n2 (.slice ax (lenT n2 x) cx) x ∧ (allA n1 t n2 hs)[q + 1]? = some ⟨n2, x⟩ ∧ CodeIs n2 x 0) := ⟨rx, allA_at hx, (HGA.out.2 (q + 1) _ (allA_at hx)).1⟩
          clear hx rx
          generalize lenT n2 x = lx at HX i0 ⊢
          have hGl : G.length = q + 1 := by have := congrArg List.length HS.out.1; rw [List.length_map, HMO.out.fs.1] at this; exact this
          have HGL : Hid (G.length = q + 1 ∧ (mkAll ((allA n1 t n2 hs).take (q + 1))).cs.length ≤ 60 * (q + 1) ∧ (mkAll ((allA n1 t n2 hs).take (q + 1))).ts.length ≤ 60 * (q + 1) ∧ (mkAll ((allA n1 t n2 hs).take (q + 1))).fs.length = q + 1 ∧ q ≤ 8) := ⟨hGl, HMO.out.cs.1, HMO.out.ts.1, HMO.out.fs.1, by have := HGA.out.1; rw [HAL.out] at this; omega⟩
          clear hGl HMO
          go_wp2_with fail
          refine (l10Func_any n2 w _ v F _ G _ P [gb RB vN] ((q : Int) + 1) _ x HS.out.2 HX.out.1 (code0 HX.out.2.2).1 (code0 HX.out.2.2).2.1 (by have := HGL.out; omega) (by have := HGL.out; omega) (by have := HGL.out; omega)).mono ?_
          rintro e V1 ⟨rfl, v2, vf2, hh⟩
          have HK2 : Hid (∃ G, G.map Prod.fst = (mkAll ((allA n1 t n2 hs).take (q + 1 + 1))).fs ∧ SP w V1 v2 F (mkAll ((allA n1 t n2 hs).take (q + 1 + 1))).cs G (mkAll ((allA n1 t n2 hs).take (q + 1 + 1))).ts P [gb RB vN]) := by
            show ∃ G, _
            have hfn : ((q : Int) + 1) = ((mkAll ((allA n1 t n2 hs).take (q + 1))).fs.length : Int) := by rw [HGL.out.2.2.2.1]; omega
            rw [hfn] at hh
            rw [mkAll_next HX.out.2.1]
            exact ⟨_, by rw [List.map_append, HS.out.1]; rfl, hh⟩
          clear hh HS HGL
          go_wp2_with fail
          go_roundw
          case rel => exact ⟨q + 1, _, by omega, by go_num, HK2⟩
          case measure => simp [intOf]; omega
        have hqk : q = k := by omega
        have HALL : Hid ((allA n1 t n2 hs).take (q + 1) = allA n1 t n2 hs) := by show (allA n1 t n2 hs).take (q + 1) = allA n1 t n2 hs; rw [hqk, ← HAL.out, List.take_length]
        obtain ⟨G, hG, hS⟩ := HK.out
        rw [HALL.out] at hG hS
        have HS : Hid (progA (allA n1 t n2 hs) = ⟨F.map Prod.fst, (mkAll (allA n1 t n2 hs)).cs, G.map Prod.fst, (mkAll (allA n1 t n2 hs)).ts⟩ ∧ SP w wr v F (mkAll (allA n1 t n2 hs)).cs G (mkAll (allA n1 t n2 hs)).ts P [gb RB vN]) := ⟨by rw [HF.out, hG]; rfl, hS⟩
        clear hG hS HK HALL HAL HMO
        generalize (mkAll (allA n1 t n2 hs)).cs = cs at HS
        generalize (mkAll (allA n1 t n2 hs)).ts = ts at HS
        obtain ⟨⟨b1, d1, b2, d2, b3, d3, b4, d4, ev⟩, _⟩ := HS.out.2.bl.prow
        subst ev
        have HP : Hid (RdP wr ⟨.slice b1 F.length d1, .slice b2 cs.length d2, .slice b3 G.length d3, .slice b4 ts.length d4⟩ (progA (allA n1 t n2 hs))) := by show RdP wr _ _; rw [HS.out.1]; exact HS.out.2.bl.sep.ownP.rd
        obtain ⟨⟨p0, p1, p2, p3⟩, -⟩ := HS.out.2.bl.four (pItems_in (show gb P ⟨.slice b1 F.length d1, .slice b2 cs.length d2, .slice b3 G.length d3, .slice b4 ts.length d4⟩ ∈ _ by simp))
        go_wp2_with fail
        refine (specFault_any ⟨.slice b1 F.length d1, .slice b2 cs.length d2, .slice b3 G.length d3, .slice b4 ts.length d4⟩ (progA (allA n1 t n2 hs)) wr HGA.out.small.1 HGA.out.small.2 HP.out).mono ?_
        rintro e V3 ⟨⟨z, rfl, hz⟩, b9⟩
        have HZ : Hid (FaultIs (progA (allA n1 t n2 hs)) z) := hz
        have E9 : Hid (Bl w V3 (pItems ⟨.slice b1 F.length d1, .slice b2 cs.length d2, .slice b3 G.length d3, .slice b4 ts.length d4⟩ F cs G ts [gb P ⟨.slice b1 F.length d1, .slice b2 cs.length d2, .slice b3 G.length d3, .slice b4 ts.length d4⟩, gb RB vN])) := HS.out.2.bl.keep b9
        clear hz b9 p0 p1 p2 p3 HP
        by_cases hz : z = 0
        rotate_left
        · have hz1 : (z == 0) = false := by simpa using hz
          have hz2 : (z != 0) = true := by simpa using hz
          have HZN : Hid (z ≠ 0) := hz
          clear hz
          have EA : Hid (Bl w V3 [gb RB vN]) := E9.out.sub (by rw [pItems_nil]; exact List.Sublist.trans (List.sublist_append_right [gb P _] _) (List.sublist_append_right _ _))
          clear E9
          have HNG : Hid (¬ (GoodA (allA n1 t n2 hs) ∧ FaultIs (progA (allA n1 t n2 hs)) 0)) := fun e => HZN.out (HZ.out.one e.2)
          obtain ⟨⟨p0, p1, p2, p3⟩, f0, f1, f2, f3⟩ := EA.out.four (show gb RB vN ∈ _ by simp)
          have HW : Hid _ := Bl.set4 EA.out (.slice none 0 0) (.slice none 0 0) (.slice none 0 0) (.slice none 0 0)
          go_wp2_with fail
          obtain ⟨⟨q0, q1, q2, q3⟩, -⟩ := HW.out.four (show gb RB ⟨.slice none 0 0, .slice none 0 0, .slice none 0 0, .slice none 0 0⟩ ∈ _ by simp)
          clear p0 p1 p2 p3 f0 f1 f2 f3
          generalize hWW : (((V3.setCell ⟨RB, 0, none⟩ (.slice none 0 0)).setCell ⟨RB, 1, none⟩ (.slice none 0 0)).setCell ⟨RB, 2, none⟩ (.slice none 0 0)).setCell ⟨RB, 3, none⟩ (.slice none 0 0) = WF at *
          exact bodyPost_ret (v := .agg #[.slice none 0 0, .slice none 0 0, .slice none 0 0, .slice none 0 0]) (by simp [results, Tryz.results6, go_sem, q0, q1, q2, q3]) rfl ⟨vN, [], [], [], [], rfl, HW.out.zero, .inr ⟨HNG.out, rfl⟩⟩
        subst hz
        obtain ⟨⟨p0, p1, p2, p3⟩, -⟩ := E9.out.four (pItems_in (show gb P ⟨.slice b1 F.length d1, .slice b2 cs.length d2, .slice b3 G.length d3, .slice b4 ts.length d4⟩ ∈ _ by simp))
        obtain ⟨⟨s0, s1, s2, s3⟩, f0, f1, f2, f3⟩ := E9.out.four (pItems_in (show gb RB vN ∈ _ by simp))
        have HW : Hid _ := E9.out.give
        go_wp2_with fail
        obtain ⟨q0, q1, q2, q3⟩ := HW.out.2
        clear p0 p1 p2 p3 s0 s1 s2 s3 f0 f1 f2 f3
        generalize hWW : (((V3.setCell ⟨RB, 0, none⟩ (.slice b1 F.length d1)).setCell ⟨RB, 1, none⟩ (.slice b2 cs.length d2)).setCell ⟨RB, 2, none⟩ (.slice b3 G.length d3)).setCell ⟨RB, 3, none⟩ (.slice b4 ts.length d4) = WF at *
        exact bodyPost_ret (v := .agg #[.slice b1 F.length d1, .slice b2 cs.length d2, .slice b3 G.length d3, .slice b4 ts.length d4]) (by simp [results, Tryz.results6, go_sem, q0, q1, q2, q3]) rfl ⟨⟨.slice b1 F.length d1, .slice b2 cs.length d2, .slice b3 G.length d3, .slice b4 ts.length d4⟩, F, cs, G, ts, rfl, HW.out.1, .inl ⟨HGA.out, HZ.out, HS.out.1.symm⟩⟩
end Go.Proofs.YtalkpddhpmjgcaaGreat
