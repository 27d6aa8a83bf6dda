import Derived.Test.YtdfmdgbolmbffaaGreatLf27
import Derived.Deep.RegionLaw
import Derived.Test.YtdfmdgbolmbffaaGreatLf25
import Derived.Test.YtdfmdgbolmbffaaGreatLf21
import Derived.Test.YtdfmdgbolmbffaaGreatLf22
import Derived.Test.YtdfmdgbolmbffaaGreatLf23
import Derived.Test.YtdfmdgbolmbffaaGreatLf26
namespace Go.Proofs.YtdfmdgbolmbffaaGreat
open Go.ChangeShapes Go.WideShapes Go.ChangeAt Go.RowKit
set_option linter.unusedVariables false
def idxL (xs : List MI) (p : Int) : Int := ((lds xs xs.length).idxOf p.toNat : Int)
/-- A block with its places turned to numbers. -/
def finB (xs : List MI) (x : MB × Value) : MB × Value := (⟨x.1.first, x.1.last, x.1.next.map (idxL xs)⟩, x.2)
theorem fin_spec (xs : List MI) (hg : CodeGood xs) (D : List (MB × Value)) (h : D.map Prod.fst = midL xs) : (D.map (finB xs)).map Prod.fst = specL xs := by
  have e1 : (D.map (finB xs)).map Prod.fst = (D.map Prod.fst).map fun b => ⟨b.first, b.last, b.next.map (idxL xs)⟩ := by
    rw [List.map_map, List.map_map]
    rfl
  rw [e1, h]
  unfold midL specL
  rw [List.map_map]
  apply List.map_congr_left
  intro m hm
  obtain ⟨b, hb⟩ := List.getElem?_of_mem hm
  obtain ⟨e, he, hen⟩ := last_nat xs xs.length hg.1 m hm
  obtain ⟨x, hx⟩ : ∃ x, xs[e]? = some x := ⟨_, List.getElem?_eq_getElem hen⟩
  have hs := next_same xs b e x m hg hb he hx
  simp only [Function.comp, midB, specB]
  rw [he, Int.toNat_natCast, List.getD_eq_getElem?_getD, hx]
  simp only [Option.getD_some]
  rw [hs]
  rfl
/-- Places are leaders. -/
theorem places_lead (xs : List MI) (hg : CodeGood xs) (m : MB) (hm : m ∈ midL xs) (p : Int) (hp : p ∈ m.next) : 0 ≤ p ∧ p.toNat ∈ lds xs xs.length := by
  unfold midL at hm
  obtain ⟨m0, hm0, rfl⟩ := List.mem_map.1 hm
  obtain ⟨b, hb⟩ := List.getElem?_of_mem hm0
  obtain ⟨e, he, hen⟩ := last_nat xs xs.length hg.1 m0 hm0
  obtain ⟨x, hx⟩ : ∃ x, xs[e]? = some x := ⟨_, List.getElem?_eq_getElem hen⟩
  simp only [midB] at hp
  rw [he, Int.toNat_natCast, List.getD_eq_getElem?_getD, hx] at hp
  simp only [Option.getD_some, placesL] at hp
  rcases List.mem_append.1 hp with h1 | h1
  · split at h1
    · rename_i q
      simp only [List.mem_cons, List.not_mem_nil, or_false] at h1
      subst h1
      rw [outL_build] at hb
      refine ⟨by omega, ?_⟩
      rw [Int.toNat_natCast]
      exact end_lead _ _ _ _ _ hb he q.2
    · cases h1
  · split at h1
    · rename_i q
      simp only [List.mem_cons, List.not_mem_nil, or_false] at h1
      subst h1
      obtain ⟨c0, c1⟩ := hg.2.2 e x hx q.1
      have c3 : (x.c.toNat : Int) = x.c := Int.toNat_of_nonneg c0
      exact ⟨c0, (lds_mem _ _ _).2 ⟨by omega, leadB_of xs _ e _ x hen hx (by simp [leads, q.1, c3])⟩⟩
    · cases h1
theorem idx_map (L : List Nat) (q : Nat) : (L.map Int.ofNat).idxOf (q : Int) = L.idxOf q := by
  induction L with
  | nil => rfl
  | cons y r ih =>
    rw [List.map_cons, List.idxOf_cons, List.idxOf_cons, ih]
    by_cases h : y = q
    · subst h
      simp
    · have h1 : (Int.ofNat y == (q : Int)) = false := by
        rw [beq_eq_false_iff_ne]
        intro e
        exact h (by have e' : (y : Int) = (q : Int) := e; omega)
      have h2 : (y == q) = false := by simpa using h
      rw [h1, h2]
/-- The rows, in the last loop. -/
structure JW (w u : World) (xs : List MI) (gl cl bl : Nat) (F : List (MB × Value)) : Prop where
  row : u.ownsRow w.heap.size 71 3 (.slice (some ⟨bl, 0, none⟩) (lds xs xs.length).length (lds xs xs.length).length) (lds xs xs.length).length (F.flatMap bCells)
  fam : Fam u w.heap.size ((.slice (some ⟨gl, 0, none⟩) (lds xs xs.length).length cl, (lds xs xs.length).map Int.ofNat) :: nrows F)
  bel : Below w.heap.size w u
theorem JW.keep {w u u' : World} {xs : List MI} {gl cl bl : Nat} {F : List (MB × Value)} (h : JW w u xs gl cl bl F) (hb : Below u.heap.size u u') : JW w u' xs gl cl bl F := ⟨own_keep h.row hb (Nat.le_refl _), h.fam.keep hb, below_on h.bel (Nat.le_refl _) hb⟩
theorem JW.drew {w u : World} {xs : List MI} {gl cl bl : Nat} {F : List (MB × Value)} (h : JW w u xs gl cl bl F) (k : Nat) : JW w (u.drewN k) xs gl cl bl F := ⟨⟨h.row.1, h.row.2⟩, ⟨fun r hr => ⟨(h.fam.own r hr).1, (h.fam.own r hr).2⟩, h.fam.sep⟩, ⟨h.bel.os, h.bel.tape, h.bel.output, h.bel.size, h.bel.block⟩⟩
theorem JW.set {w u : World} {xs : List MI} {gl cl bl gv cv n : Nat} {E G : List (MB × Value)} {f l : Int} {ps qs : List Int} {i : Nat} {z : Int} (h : JW w u xs gl cl bl (E ++ (⟨f, l, ps⟩, .slice (some ⟨gv, 0, none⟩) n cv) :: G)) (hn : ps.length = n) (hq : (ps.flatMap intCell).set i (.int .i64 z) = qs.flatMap intCell) (hl : qs.length = ps.length) : JW w (u.setCell ⟨gv, i, none⟩ (.int .i64 z)) xs gl cl bl (E ++ (⟨f, l, qs⟩, .slice (some ⟨gv, 0, none⟩) n cv) :: G) := by
  have hv := h.fam.own (.slice (some ⟨gv, 0, none⟩) n cv, ps) (by simp [nrows])
  simp only [] at hv
  rw [hn] at hv
  have h1 := (hv.stored i (.int .i64 z)).1
  rw [hq] at h1
  refine ⟨?_, ?_, h.bel.setCell (own_blk hv).1 _⟩
  · have := own_set_ne h.row hv (by decide) i (.int .i64 z)
    simpa [bCells] using this
  · have hf := h.fam
    rw [show (((.slice (some ⟨gl, 0, none⟩) (lds xs xs.length).length cl, (lds xs xs.length).map Int.ofNat) : Value × List Int) :: nrows (E ++ ((⟨f, l, ps⟩ : MB), (.slice (some ⟨gv, 0, none⟩) n cv : Value)) :: G)) = (((.slice (some ⟨gl, 0, none⟩) (lds xs xs.length).length cl, (lds xs xs.length).map Int.ofNat) : Value × List Int) :: nrows E) ++ ((.slice (some ⟨gv, 0, none⟩) n cv : Value), ps) :: nrows G from by simp [nrows]] at hf
    have := Fam.put (c' := qs) hf hl (by rw [hn]; exact h1) (grown_set' ⟨rfl, rfl, rfl, Nat.le_refl _, fun _ _ _ => rfl⟩ i (.int .i64 z))
    simpa [nrows] using this
theorem JW.search {w u : World} {xs : List MI} {gl cl bl m : Nat} {F : List (MB × Value)} (h : JW w u xs gl cl bl F) (hm : (lds xs xs.length).length = m) (hm1 : m ≤ 1024) (p : Int) (h0 : 0 ≤ p) (hp : p.toNat ∈ lds xs xs.length) :
    Calls Tryz.prog 138 #[.slice (some ⟨gl, 0, none⟩) m cl, .int .i64 p] u fun e w' => (∃ b, e = .returned (.tuple #[.int .i64 (idxL xs p), .bool b])) ∧ ∃ q, w' = u.drewN q := by
  have hl := Rd.of_own (h.fam.own _ List.mem_cons_self)
  simp only [List.length_map] at hl
  have k := search_any gl cl ((lds xs xs.length).map Int.ofNat) p u (by rw [List.length_map, hm]; omega) (List.pairwise_map.2 ((lds_sorted xs _).imp (fun h => by simpa using h))) (by rw [List.length_map]; exact hl) (List.mem_map.2 ⟨p.toNat, hp, by simp; omega⟩)
  have e : ((lds xs xs.length).map Int.ofNat).idxOf p = (lds xs xs.length).idxOf p.toNat := by
    have e1 : p = (p.toNat : Int) := by omega
    rw [← idx_map]
    congr 1
  rw [List.length_map, hm, e] at k
  exact k
theorem step_ints (xs : List MI) (ps : List Int) (i : Nat) (p : Int) (h : ps[i]? = some p) : (((ps.map (idxL xs)).take i ++ ps.drop i).flatMap intCell).set i (.int .i64 (idxL xs p)) = ((ps.map (idxL xs)).take (i + 1) ++ ps.drop (i + 1)).flatMap intCell := by
  obtain ⟨hlt, hp⟩ := List.getElem?_eq_some_iff.1 h
  rw [List.drop_eq_getElem_cons hlt, hp, List.flatMap_append, List.flatMap_cons]
  have hA : ((List.take i (ps.map (idxL xs))).flatMap intCell).length = i := by
    rw [flat_length intCell 1 intCell_length, List.length_take, List.length_map]
    omega
  rw [show intCell p ++ List.flatMap intCell (List.drop (i + 1) ps) = [Value.int .i64 p] ++ List.flatMap intCell (List.drop (i + 1) ps) from rfl, set1 _ _ _ _ i hA, List.take_succ_eq_append_getElem (by simpa using hlt), List.flatMap_append, List.flatMap_append]
  simp [intCell, hp]
end Go.Proofs.YtdfmdgbolmbffaaGreat
namespace Go.Proofs.YtdfmdgbolmbffaaGreat
open Go.ChangeShapes Go.WideShapes Go.ChangeAt Go.RowKit
set_option linter.unusedVariables false
/-- A list of blocks of one's own, no two of their rows one. -/
structure OwnBE (w : World) (base : Nat) (V : Value) (F : List (MB × Value)) : Prop where
  row : w.ownsRow base 71 3 V F.length (F.flatMap bCells)
  fam : Fam w base (nrows F)
theorem wrap_small {e : Nat} (h : e ≤ 1048576) : IntKind.i64.wrap (e : Int) = (e : Int) := by
  simp [IntKind.wrap, IntKind.bits, IntKind.signed]
  omega
theorem blk_row_ne {u : World} {X B k g n c : Nat} {e t : TypeId} {cur : Array Value} {xs : List Value} (h : Blk u X cur t) (ho : u.ownsRow B e k (.slice (some ⟨g, 0, none⟩) n c) n xs) (hne : t ≠ e) : ¬ X = g := fun eq => by
  subst eq
  obtain ⟨_, cur', h2⟩ := own_blk ho
  unfold Blk at h
  rw [h] at h2
  simp only [Option.some.injEq, Obj.cells.injEq] at h2
  exact hne h2.2.1
theorem made_blocks (n : Nat) : (madeCells (Value.agg #[.int .i64 0, .int .i64 0, .slice none 0 0]).cells (n * 3)).toList = (List.replicate n z3).flatten := by
  rw [flatTo_zero bc0 z3 [] n (.agg #[.int .i64 0, .int .i64 0, .slice none 0 0]) 3 rfl rfl (by omega)]
  simp [flatTo]
set_option maxHeartbeats 8000000 in
set_option maxRecDepth 100000 in
theorem implBlocks_any (s : Value) (xs : List MI) (w : World) (hn : xs.length ≤ 1048576) (h : Rd w 4 s xs.length (xs.flatMap MI.cells)) :
    Calls Tryz.prog 110 #[s] w fun e w' => ∃ V F, e = .returned V ∧ OwnBE w' w.heap.size V F ∧ ((¬ CodeGood xs ∧ F = []) ∨ CodeGood xs ∧ F.map Prod.fst = specL xs) ∧ Below w.heap.size w w' := by
  obtain ⟨i0, hi, hz0, hz1, hz2⟩ := info_parts infoB
  have H : Hid (Rd w 4 s xs.length (xs.flatMap MI.cells)) := h
  obtain ⟨a1, c1, rfl⟩ := h.is_slice
  clear h
  have HNIL : Hid (∀ u : World, OwnBE u w.heap.size (.slice none 0 0) []) := fun u => ⟨World.ownsRow_nil _ _ _ _, ⟨fun r hr => (by cases hr), List.Pairwise.nil⟩⟩
  by_cases q0 : xs.length = 0
  · have HN : Hid (¬ CodeGood xs) := fun e => by have := e.1; omega
    rw [q0]
    go_enter Tryz.func110, Tryz.ntmps110
    go_wp2
    go_ret
    exact ⟨_, [], rfl, HNIL.out _, .inl ⟨HN.out, rfl⟩, Below.refl _ _⟩
  by_cases q1 : 1024 < xs.length
  · have HN : Hid (¬ CodeGood xs) := fun e => by have := e.2.1; omega
    have q0' : ((xs.length : Int) == 0) = false := beq_eq_false_iff_ne.2 (by omega)
    have q1' : (1024 : Int) < (xs.length : Int) := by omega
    go_enter Tryz.func110, Tryz.ntmps110
    go_wp2
    go_ret
    exact ⟨_, [], rfl, HNIL.out _, .inl ⟨HN.out, rfl⟩, Below.refl _ _⟩
  have q0' : ((xs.length : Int) == 0) = false := beq_eq_false_iff_ne.2 (by omega)
  have q0n : ¬ (xs.length : Int) = 0 := by omega
  have q1' : ¬ (1024 : Int) < (xs.length : Int) := by omega
  go_enter Tryz.func110, Tryz.ntmps110
  go_wp2_with fail
  refine (placesHold_any (.slice a1 xs.length c1) xs _ hn H.out).mono ?_
  rintro e u1 ⟨⟨b1, rfl, hb1⟩, bl1⟩
  cases b1
  · have HN : Hid (¬ CodeGood xs) := fun e => absurd (hb1.2 e.2.2) Bool.false_ne_true
    have HB : Hid (Below w.heap.size w u1) := bl1
    clear hb1 bl1
    go_wp2
    go_ret
    exact ⟨_, [], rfl, HNIL.out _, .inl ⟨HN.out, rfl⟩, HB.out⟩
  have HG : Hid (CodeGood xs) := ⟨by omega, by omega, hb1.1 rfl⟩
  have HB : Hid (Below w.heap.size w u1) := bl1
  clear hb1 bl1
  go_wp2_with fail
  refine (leadersOf_any (.slice a1 xs.length c1) xs _ HG.out (H.out.keep HB.out (Nat.le_refl _))).mono ?_
  rintro e u2 ⟨gl, cl, rfl, own2, b2⟩
  have hm1 : (lds xs xs.length).length ≤ 1024 := Nat.le_trans (List.length_filter_le _ _) (by simp; omega)
  have hm0 : 0 < (lds xs xs.length).length := List.length_pos_iff.2 (lds_ne xs _ (by omega))
  have HL2 : Hid (u2.ownsRow w.heap.size 2 1 (.slice (some ⟨gl, 0, none⟩) (lds xs xs.length).length cl) (lds xs xs.length).length (((lds xs xs.length).map Int.ofNat).flatMap intCell) ∧ Below w.heap.size w u2) := ⟨own_lower own2 HB.out.size, below_on HB.out (Nat.le_refl _) b2⟩
  clear own2 b2
  generalize hM : (lds xs xs.length).length = m at hm1 hm0 HL2 ⊢
  have HM : Hid ((lds xs xs.length).length = m) := hM
  clear hM
  go_wp2_with (at_make; refine wpList_make_full _ rfl _ _ 64 rfl w.heap.size 71 i0 (.agg #[.int .i64 0, .int .i64 0, .slice none 0 0]) 3 Tryz.underlying64 hi hz0 hz1 .i64 .i64 _ _ m rfl rfl rfl rfl (by rw [hz2]; omega) (by unfold maxLen; omega) HL2.out.2.size ?_; intro w3 hown hgrow; rw [made_blocks] at hown)
  have HI0 : Hid (IW w w3 xs gl cl u2.heap.size m []) := by
    have hb3 : Below u2.heap.size u2 w3 := (Below.refl _ _).grown hgrow (Nat.le_refl _) (fun k hk => by cases hk)
    refine ⟨?_, ⟨?_, ?_⟩, ?_, below_on HL2.out.2 (Nat.le_refl _) hb3⟩
    · rw [HM.out]
      simpa using hown
    · intro r hr
      simp only [nrows, List.map_nil, List.mem_cons, List.not_mem_nil, or_false] at hr
      subst hr
      rw [HM.out]
      simp only [List.length_map, HM.out]
      exact own_keep HL2.out.1 hb3 (Nat.le_refl _)
    · simp [nrows]
    · rw [List.drop_of_length_le (by rw [midL_length, HM.out]; exact Nat.le_refl _)]
      rfl
  clear hown hgrow HL2
  generalize u2.heap.size = bl at HI0 ⊢
  go_wp2
  go_loopw [5, 6] (fun v i wr => ∃ (j q : Nat) (D : List (MB × Value)), j ≤ m ∧ v = .int .i64 q ∧ i = .int .i64 ((j : Int) - 1) ∧ Hid ((lds xs xs.length ++ [xs.length])[j]? = some q ∧ IW w wr xs gl cl bl j D)) (fun _ i _ => (intOf i + 1).toNat)
  case atStart => exact ⟨m, xs.length, [], Nat.le_refl _, rfl, rfl, ⟨by rw [List.getElem?_append_right (by rw [HM.out]; exact Nat.le_refl _), HM.out]; simp, HI0.out⟩⟩
  case round =>
    clear HI0
    obtain ⟨j, q, D, hj, rfl, rfl, HI⟩ := hrel
    cases j with
    | succ b =>
      rw [show (((b + 1 : Nat) : Int) - 1) = (b : Int) by omega]
      obtain ⟨a, ha⟩ : ∃ a, (lds xs xs.length)[b]? = some a := ⟨_, List.getElem?_eq_getElem (by rw [HM.out]; omega)⟩
      have hbm := build_at _ _ _ _ _ ha HI.out.1
      obtain ⟨e, he, hen⟩ := last_nat xs xs.length (by omega) _ (by rw [outL_build]; exact List.mem_of_getElem? hbm)
      simp only [] at he
      obtain ⟨x, hx⟩ : ∃ x, xs[e]? = some x := ⟨_, List.getElem?_eq_getElem hen⟩
      have HX : Hid ((lds xs xs.length)[b]? = some a ∧ (q : Int) - 1 = (e : Int) ∧ xs[e]? = some x) := ⟨ha, he, hx⟩
      have hqe : (q : Int) = (e : Int) + 1 := by omega
      have heq1 : (e : Int) + 1 - 1 = (e : Int) := by omega
      have hlead := HI.out.2.lead
      rw [HM.out] at hlead
      have l0 := hlead.cellAt b (by omega)
      rw [ints_flat, List.getElem?_map, List.getElem?_map, ha] at l0
      simp only [Option.map_some] at l0
      have l0' : wr.cell? ⟨gl, b, none⟩ = some (.int .i64 (a : Int)) := l0
      have l1 := bcell_keep (below_drew1 wr) l0'
      have hrow := HI.out.2.row
      rw [HM.out, z3_split] at hrow
      have HR : Hid (wr.ownsRow w.heap.size 71 3 (.slice (some ⟨bl, 0, none⟩) m m) m ((List.replicate b z3).flatten ++ (z3 ++ D.flatMap bCells))) := hrow
      have R1 : Hid (Rd wr 4 (.slice a1 xs.length c1) xs.length (xs.flatMap MI.cells)) := H.out.keep HI.out.2.bel (Nat.le_refl _)
      have PF : Hid (∀ u : World, Rd u 4 (.slice a1 xs.length c1) xs.length (xs.flatMap MI.cells) → Calls Tryz.prog 125 #[.slice a1 xs.length c1, .int .i64 (e : Int)] u fun e1 w' => ∃ r, e1 = .returned r ∧ w'.ownsRow u.heap.size 2 1 r (placesL xs x e).length ((placesL xs x e).flatMap intCell) ∧ Below u.heap.size u w') := fun u hu => placesFrom_any _ xs x e u HG.out.2.1 HG.out.2.2 HX.out.2.2 hu
      clear ha he hx hbm hlead hrow l0
      have hbL : (b : Int) < (m : Int) := by omega
      have hwr : IntKind.i64.wrap (e : Int) = (e : Int) := wrap_small (by omega)
      rw [hqe]
      go_wp2_with fail
      go_region_law (first
        | (go_simp; go_at_call 125; refine (PF.out _ (R1.out.keep (below_drew1 _) (Nat.le_refl _))).mono ?_; rintro e1 u5 ⟨r, rfl, own5, b5⟩; obtain ⟨ar, cr, rfl⟩ := (Rd.of_own own5).is_slice; have B5 : Hid (Below wr.heap.size wr u5) := below_drew_trans b5 (Nat.le_refl _); have O5 : Hid (u5.ownsRow wr.heap.size 2 1 (.slice ar (placesL xs x e).length cr) (placesL xs x e).length ((placesL xs x e).flatMap intCell)) := own5; have l2 := bcell_keep B5.out l0'; have hr5 := own_keep HR.out B5.out (Nat.le_refl _); have d0 := hr5.cellAt (b * 3) (by omega); have d1 := hr5.cellAt (b * 3 + 1) (by omega); have d2 := hr5.cellAt (b * 3 + 2) (by omega); have f0 := hr5.frozenAt (b * 3); have f1 := hr5.frozenAt (b * 3 + 1); have f2 := hr5.frozenAt (b * 3 + 2); rw [List.getElem?_append_right (by rw [z3_len]; omega), z3_len] at d0 d1 d2; rw [Nat.sub_self] at d0; rw [Nat.add_sub_cancel_left] at d1 d2; simp only [z3, List.cons_append, List.getElem?_cons_zero, List.getElem?_cons_succ] at d0 d1 d2; clear own5 b5 hr5))
      all_goals
        refine with_world (fun u => Hid (IW w u xs gl cl bl b ((⟨(a : Int), (e : Int), placesL xs x e⟩, .slice ar (placesL xs x e).length cr) :: D))) (HI.out.2.next B5.out O5.out HX.out.1 HI.out.1 HX.out.2.1 HX.out.2.2) ?_
        intro U7 HN
        have l7 := HN.out.lead.cellAt b (by rw [HM.out]; omega)
        rw [ints_flat, List.getElem?_map, List.getElem?_map, HX.out.1] at l7
        simp only [Option.map_some] at l7
        have l7' : U7.cell? ⟨gl, b, none⟩ = some (.int .i64 (a : Int)) := l7
        clear l7 l0' l1 l2 d0 d1 d2 f0 f1 f2
        have HQ : Hid ((lds xs xs.length ++ [xs.length])[b]? = some a) := by
          show _ = _
          rw [List.getElem?_append_left (by rw [HM.out]; omega)]
          exact HX.out.1
        go_wp2
        go_roundw
        case rel => exact ⟨b, a, _, by omega, rfl, by go_num, ⟨HQ.out, HN.out⟩⟩
        case measure => simp [intOf]
    | zero =>
      rw [show (((0 : Nat) : Int) - 1) = -1 from rfl]
      have HJ0 : Hid (JW w wr xs gl cl bl D ∧ D.map Prod.fst = midL xs ∧ D.length = m) := by
        refine ⟨⟨by simpa using HI.out.2.row, HI.out.2.fam, HI.out.2.bel⟩, by simpa using HI.out.2.done, ?_⟩
        have := congrArg List.length HI.out.2.done
        rw [List.length_map, List.drop_zero, midL_length, HM.out] at this
        exact this
      have HD : Hid (D.map Prod.fst = midL xs ∧ D.length = m) := HJ0.out.2
      have HP : Hid (∀ x ∈ D, ∀ p ∈ x.1.next, 0 ≤ p ∧ p.toNat ∈ lds xs xs.length) := fun x hx p hp => places_lead xs HG.out x.1 (by rw [← HD.out.1]; exact List.mem_map_of_mem hx) p hp
      have HPL : Hid (∀ x ∈ D, x.1.next.length ≤ 2) := by
        intro x hx
        have hm := List.mem_map_of_mem (f := Prod.fst) hx
        rw [HD.out.1] at hm
        unfold midL at hm
        obtain ⟨m0, _, e0⟩ := List.mem_map.1 hm
        rw [← e0]
        simp only [midB, placesL]
        split <;> split <;> simp
      clear HI hj
      go_wp2
      go_loopw [60] (fun i wr => ∃ E G : List (MB × Value), Hid (D = E ++ G) ∧ E.length ≤ m ∧ i = .int .i64 (E.length : Nat) ∧ Hid (JW w wr xs gl cl bl (E.map (finB xs) ++ G))) (fun i _ => m - (intOf i).toNat)
      case atStart => exact ⟨[], D, rfl, by simp, rfl, HJ0.out.1⟩
      case round =>
        clear HJ0
        obtain ⟨E, G, HEG, hE, rfl, HJ⟩ := hrel
        have hlen : E.length + G.length = m := by have := HD.out.2; rw [HEG.out, List.length_append] at this; exact this
        cases G with
        | nil =>
          have hEm : E.length = m := by simpa using hlen
          have HF : Hid (OwnBE wr w.heap.size (.slice (some ⟨bl, 0, none⟩) m m) (E.map (finB xs)) ∧ (E.map (finB xs)).map Prod.fst = specL xs) := by
            have hDE : D = E := by rw [HEG.out]; simp
            refine ⟨⟨?_, ?_⟩, ?_⟩
            · have := HJ.out.row
              rw [HM.out] at this
              rw [List.length_map, hEm]
              simpa using this
            · have := HJ.out.fam
              exact ⟨fun r hr => this.own r (by simp at hr ⊢; exact .inr hr), (by have h2 := this.sep; simp only [List.append_nil] at h2; exact (List.pairwise_cons.1 h2).2)⟩
            · exact fin_spec xs HG.out E (by rw [← hDE]; exact HD.out.1)
          have HBL : Hid (Below w.heap.size w wr) := HJ.out.bel
          go_wp2
          go_ret
          exact ⟨_, _, rfl, HF.out.1, .inr ⟨HG.out, HF.out.2⟩, HBL.out⟩
        | cons y G' =>
          obtain ⟨⟨f, l, ps⟩, v⟩ := y
          have hElt : E.length < m := by simp only [List.length_cons] at hlen; omega
          have hEL : (E.length : Int) < (m : Int) := by omega
          have hmem : ((⟨f, l, ps⟩, v) : MB × Value) ∈ D := by rw [HEG.out]; simp
          have HPS : Hid (∀ p ∈ ps, 0 ≤ p ∧ p.toNat ∈ lds xs xs.length) := HP.out _ hmem
          have hp2 : ps.length ≤ 2 := HPL.out _ hmem
          have hov := HJ.out.fam.own (v, ps) (by simp [nrows])
          simp only [] at hov
          obtain ⟨av, cv, rfl⟩ : ∃ a c, v = .slice a ps.length c := (Rd.of_own hov).is_slice
          have hrow := HJ.out.row
          rw [HM.out, List.flatMap_append, List.flatMap_cons] at hrow
          have hA : ((E.map (finB xs)).flatMap bCells).length = E.length * 3 := by rw [flat_length bCells 3 bCells_length, List.length_map]
          have d0 := hrow.cellAt (E.length * 3) (by omega)
          have d1 := hrow.cellAt (E.length * 3 + 1) (by omega)
          have d2 := hrow.cellAt (E.length * 3 + 2) (by omega)
          rw [List.getElem?_append_right (by omega), hA] at d0 d1 d2
          rw [Nat.sub_self] at d0
          rw [Nat.add_sub_cancel_left] at d1 d2
          simp only [bCells, List.cons_append, List.getElem?_cons_zero, List.getElem?_cons_succ] at d0 d1 d2
          clear hrow hA hmem
          obtain ⟨wo, hwo⟩ : ∃ W, W = wr := ⟨_, rfl⟩
          subst hwo
          go_upto_region 14 with fail
          refine wp_world (fun u => Hid (JW w u xs gl cl bl (E.map (finB xs) ++ (⟨f, l, ps⟩, .slice av ps.length cv) :: G') ∧ Blk u wo.heap.size #[.int .i64 f, .int .i64 l, .slice av ps.length cv] 71)) ⟨HJ.out.keep (below_alloc _ _), Blk.new _ _ _⟩ ?_
          intro U1 HU1
          clear d0 d1 d2
          have b2 := HU1.out.2.cell 2
          simp only [List.getElem?_toArray, List.getElem?_cons_zero, List.getElem?_cons_succ] at b2
          go_wp2
          go_loopw [67] (fun i wr => ∃ k : Nat, k ≤ ps.length ∧ i = .int .i64 k ∧ Hid (JW w wr xs gl cl bl (E.map (finB xs) ++ (⟨f, l, (ps.map (idxL xs)).take k ++ ps.drop k⟩, .slice av ps.length cv) :: G') ∧ Blk wr wo.heap.size #[.int .i64 f, .int .i64 l, .slice av ps.length cv] 71)) (fun i _ => ps.length - (intOf i).toNat)
          case atStart => exact ⟨0, by omega, rfl, ⟨by have h0 := HU1.out.1; simpa using h0, HU1.out.2⟩⟩
          case round =>
            clear HU1 b2
            obtain ⟨k, hk, rfl, HK⟩ := hrel
            by_cases hlt : k < ps.length
            · obtain ⟨p, hp⟩ : ∃ p, ps[k]? = some p := ⟨_, List.getElem?_eq_getElem hlt⟩
              have hcl : ((ps.map (idxL xs)).take k ++ ps.drop k).length = ps.length := by simp; omega
              have hov := HK.out.1.fam.own (.slice av ps.length cv, (ps.map (idxL xs)).take k ++ ps.drop k) (by simp [nrows])
              simp only [hcl] at hov
              obtain ⟨gv, rfl⟩ : ∃ gv, av = some ⟨gv, 0, none⟩ := by
                rcases own_row hov with ⟨_, h0⟩ | ⟨g, c, h0⟩
                · omega
                · simp only [Value.slice.injEq] at h0
                  exact ⟨g, h0.1⟩
              have HC : Hid (ps[k]? = some p ∧ ((ps.map (idxL xs)).take k ++ ps.drop k).length = ps.length ∧ 0 ≤ p ∧ p.toNat ∈ lds xs xs.length) := ⟨hp, hcl, HPS.out p (List.mem_of_getElem? hp)⟩
              have c0 := hov.cellAt k (by omega)
              rw [ints_flat, List.getElem?_map, List.getElem?_append_right (by simp; omega)] at c0
              rw [show k - (List.take k (ps.map (idxL xs))).length = 0 by simp; omega, List.getElem?_drop, Nat.add_zero, hp] at c0
              simp only [Option.map_some] at c0
              clear hp hcl hov
              have hkL : (k : Int) < (ps.length : Int) := by omega
              go_wp2_with fail
              refine (HK.out.1.search HM.out hm1 p HC.out.2.2.1 HC.out.2.2.2).mono ?_
              rintro e1 u3 ⟨⟨bb, rfl⟩, qq, hq⟩
              have HU3 : Hid (JW w u3 xs gl cl bl (E.map (finB xs) ++ (⟨f, l, (ps.map (idxL xs)).take k ++ ps.drop k⟩, .slice (some ⟨gv, 0, none⟩) ps.length cv) :: G') ∧ Blk u3 wo.heap.size #[.int .i64 f, .int .i64 l, .slice (some ⟨gv, 0, none⟩) ps.length cv] 71) := by
                rw [hq]
                exact ⟨HK.out.1.drew qq, HK.out.2⟩
              clear hq c0 HK
              have hov := HU3.out.1.fam.own (.slice (some ⟨gv, 0, none⟩) ps.length cv, (ps.map (idxL xs)).take k ++ ps.drop k) (by simp [nrows])
              simp only [HC.out.2.1] at hov
              have b2 := HU3.out.2.cell 2
              simp only [List.getElem?_toArray, List.getElem?_cons_zero, List.getElem?_cons_succ] at b2
              have c1 := hov.cellAt k (by omega)
              rw [ints_flat, List.getElem?_map, List.getElem?_append_right (by simp; omega)] at c1
              rw [show k - (List.take k (ps.map (idxL xs))).length = 0 by simp; omega, List.getElem?_drop, Nat.add_zero, HC.out.1] at c1
              simp only [Option.map_some] at c1
              have c2 := hov.frozenAt k
              have hxv : ¬ wo.heap.size = gv := blk_row_ne HU3.out.2 hov (by decide)
              have HN : Hid (JW w (u3.setCell ⟨gv, k, none⟩ (.int .i64 (idxL xs p))) xs gl cl bl (E.map (finB xs) ++ (⟨f, l, (ps.map (idxL xs)).take (k + 1) ++ ps.drop (k + 1)⟩, .slice (some ⟨gv, 0, none⟩) ps.length cv) :: G') ∧ Blk (u3.setCell ⟨gv, k, none⟩ (.int .i64 (idxL xs p))) wo.heap.size #[.int .i64 f, .int .i64 l, .slice (some ⟨gv, 0, none⟩) ps.length cv] 71) := ⟨HU3.out.1.set HC.out.2.1 (step_ints xs ps k p HC.out.1) (by simp; omega), HU3.out.2.other (a := ⟨gv, k, none⟩) hxv _⟩
              clear hov
              go_wp2
              go_roundw
              case rel => exact ⟨k + 1, by omega, by go_num, HN⟩
              case measure => simp [intOf]; omega
            · obtain rfl : k = ps.length := by omega
              have HN : Hid (JW w wr xs gl cl bl ((E ++ [((⟨f, l, ps⟩ : MB), (.slice av ps.length cv : Value))]).map (finB xs) ++ G')) := by
                have h0 := HK.out.1
                rw [List.take_of_length_le (by simp), List.drop_of_length_le (Nat.le_refl _), List.append_nil] at h0
                show JW _ _ _ _ _ _ _
                simpa [finB] using h0
              go_wp2
              go_roundw
              case rel => exact ⟨E ++ [(⟨f, l, ps⟩, .slice av ps.length cv)], G', by show _ = _; rw [HEG.out]; simp, by simp only [List.length_append, List.length_singleton]; omega, by simp only [List.length_append, List.length_singleton]; go_num, HN⟩
              case measure => simp [intOf]; omega
end Go.Proofs.YtdfmdgbolmbffaaGreat
namespace Go.Proofs.YtdfmdgbolmbffaaGreat
open Go.ChangeShapes Go.WideShapes Go.ChangeAt Go.RowKit
set_option linter.unusedVariables false
/-- The blocks of code, or none. -/
def BlkIs (xs : List MI) (bs : List MB) : Prop := (¬ CodeGood xs ∧ bs = []) ∨ CodeGood xs ∧ bs = specL xs
theorem BlkIs.one {xs : List MI} {bs bs' : List MB} (h : BlkIs xs bs) (h' : BlkIs xs bs') : bs = bs' := by
  rcases h with ⟨h1, rfl⟩ | ⟨h1, rfl⟩ <;> rcases h' with ⟨h2, rfl⟩ | ⟨h2, rfl⟩
  · rfl
  · exact absurd h2 h1
  · exact absurd h1 h2
  · rfl
theorem BlkIs.small {xs : List MI} {bs : List MB} (h : BlkIs xs bs) : bs.length ≤ 1048576 ∧ ∀ f ∈ bs, f.small := by
  rcases h with ⟨h1, rfl⟩ | ⟨h1, rfl⟩
  · exact ⟨by simp, fun f hf => (by cases hf)⟩
  · refine ⟨?_, ?_⟩
    · unfold specL
      rw [List.length_map, outL_length]
      have := List.length_filter_le (leadB xs xs.length) (List.range xs.length)
      have h2 := h1.2.1
      simp only [List.length_range] at this
      exact Nat.le_trans this (by omega)
    · intro f hf
      unfold specL at hf
      obtain ⟨m, _, rfl⟩ := List.mem_map.1 hf
      show (specB xs m).next.length ≤ 1048576
      simp only [specB, nextS]
      split <;> split <;> simp
theorem OwnBE.rd {w : World} {base : Nat} {V : Value} {F : List (MB × Value)} (h : OwnBE w base V F) : RdBs w V (F.map Prod.fst) := by
  refine ⟨F, rfl, ?_, fun x hx => Rd.of_own (h.fam.own (x.2, x.1.next) (by unfold nrows; exact List.mem_map_of_mem (f := fun x => (x.2, x.1.next)) hx))⟩
  rw [List.length_map]
  exact Rd.of_own h.row
theorem OwnBE.keep {w w' : World} {base : Nat} {V : Value} {F : List (MB × Value)} (h : OwnBE w base V F) (hb : Below w.heap.size w w') : OwnBE w' base V F := ⟨own_keep h.row hb (Nat.le_refl _), h.fam.keep hb⟩
end Go.Proofs.YtdfmdgbolmbffaaGreat
namespace Go.Proofs.YtdfmdgbolmbffaaGreat
open Go.ChangeShapes Go.WideShapes Go.ChangeAt Go.RowKit
set_option linter.unusedVariables false
structure OwFl (w : World) (base : Nat) (vb vo vi vl : Value) (F : List (MB × Value)) (ys : List (ML × Value × Value)) (r : MFl) : Prop where
  brow : w.ownsRow base 71 3 vb F.length (F.flatMap bCells)
  lrow : w.ownsRow base 53 3 vl ys.length (ys.flatMap lCells)
  fam : Fam w base (nrows F ++ (vo, r.order) :: (vi, r.idom) :: lrows ys)
  eb : F.map Prod.fst = r.blocks
  el : ys.map Prod.fst = r.loops
theorem OwFl.none (w : World) (base : Nat) (c a : Int) : OwFl w base (.slice none 0 0) (.slice none 0 0) (.slice none 0 0) (.slice none 0 0) [] [] (noFl c a) := by
  refine ⟨World.ownsRow_nil _ _ _ _, World.ownsRow_nil _ _ _ _, ⟨fun x hx => ?_, ?_⟩, rfl, rfl⟩
  · simp [nrows, lrows, noFl] at hx
    rcases hx with rfl | rfl <;> exact World.ownsRow_nil _ _ _ _
  · refine List.Pairwise.cons ?_ (List.Pairwise.cons ?_ List.Pairwise.nil)
    · intro y _ g hg
      cases hg
    · intro y _ g hg
      cases hg
theorem Fam.ranges {w : World} {B M : Nat} {A C : List (Value × List Int)} (hA : Fam w B A) (hC : Fam w M C) (hBM : B ≤ M) (hlt : ∀ x ∈ A, ∀ g, x.1.ownBlock = some g → g < M) : Fam w B (A ++ C) := by
  refine ⟨fun x hx => ?_, List.pairwise_append.2 ⟨hA.sep, hC.sep, fun a ha c hc g hg e => ?_⟩⟩
  · rcases List.mem_append.1 hx with q | q
    · exact hA.own x q
    · exact own_lower (hC.own x q) hBM
  · have h1 := hlt a ha g hg
    have h2 := ((hC.own c hc).lt g e).1
    omega
theorem Fam.single {w : World} {B : Nat} {v : Value} {l : List Int} (h : w.ownsRow B 2 1 v l.length (l.flatMap intCell)) : Fam w B [(v, l)] := ⟨fun x hx => by simp at hx; subst hx; exact h, by simp⟩
theorem lrows_fam {w : World} {B M : Nat} {ys : List (ML × Value × Value)} (hA : Fam w B (ys.map fun y => (y.2.1, y.1.back))) (hC : Fam w M (ys.map fun y => (y.2.2, y.1.blocks))) (hBM : B ≤ M) (hlt : ∀ y ∈ ys, ∀ g, y.2.1.ownBlock = some g → g < M) : Fam w B (lrows ys) := by
  have hx : ∀ y ∈ ys, ∀ z ∈ ys, Apart (y.2.1, y.1.back) (z.2.2, z.1.blocks) := fun y hy z hz g hg e => by
    have h1 := hlt y hy g hg
    have h2 := ((hC.own (z.2.2, z.1.blocks) (List.mem_map.2 ⟨z, hz, rfl⟩)).lt g e).1
    omega
  refine ⟨fun x hx' => ?_, ?_⟩
  · obtain ⟨y, hy, q⟩ := List.mem_flatMap.1 hx'
    simp only [List.mem_cons, List.not_mem_nil, or_false] at q
    rcases q with rfl | rfl
    · exact hA.own _ (List.mem_map.2 ⟨y, hy, rfl⟩)
    · exact own_lower (hC.own _ (List.mem_map.2 ⟨y, hy, rfl⟩)) hBM
  · have hs1 := List.pairwise_map.1 hA.sep
    have hs2 := List.pairwise_map.1 hC.sep
    clear hA hC hlt
    unfold lrows
    induction ys with
    | nil => exact List.Pairwise.nil
    | cons y r ih =>
      obtain ⟨a1, a2⟩ := List.pairwise_cons.1 hs1
      obtain ⟨b1, b2⟩ := List.pairwise_cons.1 hs2
      have ih' := ih (fun y' hy' z hz => hx y' (List.mem_cons_of_mem _ hy') z (List.mem_cons_of_mem _ hz)) a2 b2
      rw [List.flatMap_cons]
      refine List.pairwise_append.2 ⟨?_, ih', fun p hp q hq => ?_⟩
      · refine List.Pairwise.cons (fun z hz => ?_) (by simp)
        simp only [List.mem_cons, List.not_mem_nil, or_false] at hz
        subst hz
        exact hx y (List.mem_cons_self ..) y (List.mem_cons_self ..)
      · obtain ⟨z, hz, hq'⟩ := List.mem_flatMap.1 hq
        simp only [List.mem_cons, List.not_mem_nil, or_false] at hp hq'
        rcases hp with rfl | rfl
        · rcases hq' with rfl | rfl
          · exact a1 z hz
          · exact hx y (List.mem_cons_self ..) z (List.mem_cons_of_mem _ hz)
        · rcases hq' with rfl | rfl
          · exact (hx z (List.mem_cons_of_mem _ hz) y (List.mem_cons_self ..)).symm
          · exact b1 z hz
theorem seen_told {E : Nat → List Nat} {S O : List Nat} (h : Vs E [] [] [0] S O) (x : Nat) : x ∈ S ↔ x ∈ O := by
  obtain ⟨N, t⟩ := h.told
  have : O = N := by simpa using t.out
  subst this
  rw [t.seen x]
  simp
theorem OwnBE.ints {w : World} {base : Nat} {V : Value} {F : List (MB × Value)} {bs : List MB} {gb ob cb n : Nat} (h : OwnBE w base V F) (hF : F.map Prod.fst = bs) (hV : V = .slice (some ⟨gb, ob, none⟩) n cb) (hn : n = bs.length) : ∀ b, b < n → ∃ f l : Int, w.cell? ⟨gb, ob + b * 3, none⟩ = some (.int .i64 f) ∧ w.cell? ⟨gb, ob + b * 3 + 1, none⟩ = some (.int .i64 l) := fun b hb => by
  have hl : F.length = n := by rw [hn, ← hF, List.length_map]
  have hr := Rd.of_own h.row
  rcases hr.2 with ⟨e0, _⟩ | ⟨g, o, c, e1, hc⟩
  · omega
  · rw [hV] at e1
    simp only [Value.slice.injEq, Option.some.injEq, Addr.mk.injEq, and_true] at e1
    obtain ⟨⟨rfl, rfl⟩, _, rfl⟩ := e1
    obtain ⟨x, hx⟩ : ∃ x, F[b]? = some x := ⟨_, List.getElem?_eq_getElem (by omega)⟩
    have i0 := Rd.elem bCells_length hc b _ hx 0 _ rfl
    have i1 := Rd.elem bCells_length hc b _ hx 1 _ rfl
    rw [Nat.add_zero] at i0
    exact ⟨_, _, i0, i1⟩
theorem vs_facts {E : Nat → List Nat} {n : Nat} {S O : List Nat} (hn : 0 < n) (hE : ∀ b, b < n → ∀ x ∈ E b, x < n) (h : Vs E [] [] [0] S O) : (∀ x ∈ O, x < n) ∧ O.Nodup ∧ O.length ≤ n ∧ ∀ x ∈ O, Rch E (fun _ => True) 0 x := by
  obtain ⟨N, t⟩ := h.told
  have : O = N := by simpa using t.out
  subst this
  have hr : ∀ x ∈ O, Rch E (fun _ => True) 0 x := fun x hx => by
    obtain ⟨q, q1, q2⟩ := t.from_ x hx
    have : q = 0 := by simpa using q1
    subst this
    exact q2.mono fun _ _ => trivial
  have hl : ∀ x ∈ O, x < n := fun x hx => (hr x hx).lt hE hn
  refine ⟨hl, t.nodup, ?_, hr⟩
  have := nodup_le O n hl t.nodup
  omega
theorem own_cap {w : World} {base k n c g : Nat} {e : TypeId} {xs : List Value} (h : w.ownsRow base e k (.slice (some ⟨g, 0, none⟩) n c) n xs) : n ≤ c := by
  rcases h.2 with ⟨h', _⟩ | ⟨g', cap', cur, h', _, _, h3, _⟩
  · cases h'
  · cases h'
    exact h3
/-- The graph behind dominate. -/
structure GD (w1 u : World) (n G gN cN gF gO cO gP gi : Nat) (E : Nat → List Nat) (O : List Nat) (I : Nat → Int) : Prop where
  blk : Blk u G #[.slice (some ⟨gN, 0, none⟩) n cN, .slice (some ⟨gF, 0, none⟩) n n, .slice (some ⟨gO, 0, none⟩) n cO, .slice (some ⟨gP, 0, none⟩) n n, .slice (some ⟨gi, 0, none⟩) n n] 176
  nx : EdAt u gN 0 n E
  fr : EdAt u gF 0 n (fromL E n)
  ord : OwN u w1.heap.size (.slice (some ⟨gO, 0, none⟩) n cO) O.reverse
  gi_ : GI u G n gP n gi n (plO O) I
  idom : u.ownsRow w1.heap.size 2 1 (.slice (some ⟨gi, 0, none⟩) n n) n (zv I n)
  bel : Below w1.heap.size w1 u
  ne : gO ≠ gi
theorem GD.keep {w1 u u' : World} {n G gN cN gF gO cO gP gi : Nat} {E : Nat → List Nat} {O : List Nat} {I : Nat → Int} (h : GD w1 u n G gN cN gF gO cO gP gi E O I) (hb : Below u.heap.size u u') : GD w1 u' n G gN cN gF gO cO gP gi E O I := ⟨h.blk.keep hb, h.nx.keep hb, h.fr.keep hb, h.ord.keep hb, h.gi_.keep hb, own_keep h.idom hb (Nat.le_refl _), below_on h.bel (Nat.le_refl _) hb, h.ne⟩
theorem GD.of {w1 u3 u4 u5 : World} {n G gN cN gF gO cO gP gi : Nat} {E : Nat → List Nat} {S O : List Nat} {I : Nat → Int} (h : GM w1 u3 n G gN cN gF gO cO gP E S O) (hO : O.length = n) (hOm : ∀ x, x ∈ O ↔ x < n) (hb : Below u3.heap.size u3 u4) (hd : DW u4 u5 G n #[.slice (some ⟨gN, 0, none⟩) n cN, .slice (some ⟨gF, 0, none⟩) n n, .slice (some ⟨gO, 0, none⟩) n cO, .slice (some ⟨gP, 0, none⟩) n n] gi I) : GD w1 u5 n G gN cN gF gO cO gP gi E O I := by
  obtain ⟨x0, x1, x2, x3, e, kk⟩ := hd.blk
  simp only [Array.mk.injEq, List.cons.injEq, and_true] at e
  obtain ⟨rfl, rfl, rfl, rfl⟩ := e
  have hn0 : ∀ (g b : Nat), g ≠ G → g < u3.heap.size → u4.cell? ⟨g, b, none⟩ = u3.cell? ⟨g, b, none⟩ := fun g b _ hl => by
    unfold World.cell?
    rw [hb.block g hl]
  have fx : ∀ k, k < u4.heap.size → k ∉ [G] → u5.heap[k]? = u4.heap[k]? := fun k hk hne => hd.fx k hk (by simpa using hne)
  have hord : OwN u4 w1.heap.size (.slice (some ⟨gO, 0, none⟩) n cO) O.reverse := by
    have := h.ord.keep hb
    rw [hO] at this
    exact this
  have hgl : ∀ (g : Nat) {E' : Nat → List Nat}, EdAt u3 g 0 n E' → n ≠ 0 → g < u3.heap.size := fun g E' q hne => by
    obtain ⟨a, c, h1, _⟩ := q 0 (by omega)
    exact block_lt_of_cell h1
  refine ⟨kk, (h.nx.keep hb).fxs fx (by simpa using h.ne.1) (fun b a m c hb' hc hm => ?_), (h.fr.keep hb).fxs fx (by simpa using h.ne.2.1) (fun b a m c hb' hc hm => ?_), hord.fx hd.fx (fun g hg => by simp only [Value.ownBlock, Option.some.injEq] at hg; rw [← hg]; exact h.ne.2.2.1), ⟨kk.cell 3, kk.cell 4, fun x hx => hd.cell (bcell_keep hb (h.pl x ((hOm x).2 hx))) h.ne.2.2.2, fun x hx => ?_⟩, own_lower hd.row (Nat.le_trans h.bel.size hb.size), ?_, ?_⟩
  · rw [hn0 gN b h.ne.1 (hgl gN h.nx (by omega))] at hc
    simpa using h.nn b a m c hb' hc hm
  · rw [hn0 gF b h.ne.2.1 (hgl gF h.fr (by omega))] at hc
    simpa using h.nf b a m c hb' hc
  · have := hd.row.cellAt x (by omega)
    rw [zv_at _ _ _ hx] at this
    exact this
  · exact (below_on h.bel (Nat.le_refl _) hb).trans (hd.bel.mono h.ge)
  · have h1 := (own_blk hd.row).1
    have := (hord.lt gO rfl).2
    omega
theorem done_idom {E : Nat → List Nat} {n : Nat} {pl : Nat → Nat} {I : Nat → Int} (h : DoneI E n pl I) (b : Nat) (hb : b < n) : (b = 0 ∧ I b = -1) ∨ b ≠ 0 ∧ ∃ c : Nat, c < n ∧ I b = (c : Int) ∧ IdomIs E b c := by
  by_cases e : b = 0
  · exact .inl ⟨e, by rw [e]; exact h.z⟩
  · obtain ⟨c, c1, c2, c3, _⟩ := h.dinv.tree.up b hb e ((h.all b hb).resolve_left e)
    refine .inr ⟨e, c, c2, c1, fun q => by rw [q] at c3; omega, (h.dom c b hb).1 (.up e c1 .here), fun d hd hdom => ?_⟩
    obtain ⟨_, c', e1, e2⟩ := ((h.dom d b hb).2 hdom).cases' hd
    obtain rfl : c' = c := by omega
    exact (h.dom d c' c2).1 e2
theorem Fam.sub {w : World} {B : Nat} {A C : List (Value × List Int)} (h : Fam w B C) (hs : List.Sublist A C) : Fam w B A := ⟨fun x hx => h.own x (hs.subset hx), h.sep.sublist hs⟩
theorem Fam.low {w : World} {B b : Nat} {A : List (Value × List Int)} (h : Fam w B A) (hb : b ≤ B) : Fam w b A := ⟨fun x hx => own_lower (h.own x hx) hb, h.sep⟩
theorem Fam.six {w : World} {B b : Nat} {A : List (Value × List Int)} (h : Fam w B A) (hb : b < B) (x0 x1 x2 x3 x4 x5 : Value) : Fam (six w b x0 x1 x2 x3 x4 x5) B A := ⟨fun x hx => six_own (h.own x hx) (own_ge (h.own x hx) hb) _ _ _ _ _ _, h.sep⟩
theorem own_final {w u1 u2 u5 u6 u7 : World} {n G gN cN gF gO cO gP gi gB cL : Nat} {E : Nat → List Nat} {O : List Nat} {I : Nat → Int} {vb : Value} {aL : Option Addr} {F : List (MB × Value)} {FS : List (Value × List Nat)} {ys : List (ML × Value × Value)} {bs : List MB} {ls : List ML} (hb : OwnBE u1 (w.heap.size + 1) vb F) (hF : F.map Prod.fst = bs) (hw1 : w.heap.size < u1.heap.size) (h12 : u1.heap.size ≤ u2.heap.size) (hb6 : Below u1.heap.size u1 u6) (hd5 : GD u2 u5 n G gN cN gF gO cO gP gi E O I) (hd6 : GD u2 u6 n G gN cN gF gO cO gP gi E O I) (hO : O.length = n) (hb56 : Below u5.heap.size u5 u6) (hbk : BK u5 u6 n gB FS) (hb7 : Below u6.heap.size u6 u7) (hlp : LP u6.drew u7 (.slice aL ys.length cL) ys) (hys : ys.map Prod.fst = ls) (hsub : List.Sublist (ys.map fun y => (y.2.1, y.1.back)) (FS.map fun x => (x.1, ints x.2))) (v0 v1 v2 v3 v4 v5 : Value) : OwFl (six u7 w.heap.size v0 v1 v2 v3 v4 v5) w.heap.size vb (.slice (some ⟨gO, 0, none⟩) n cO) (.slice (some ⟨gi, 0, none⟩) n n) (.slice aL ys.length cL) F ys ⟨0, 0, bs, ints O.reverse, (List.range n).map I, ls⟩ := by
  have hb17 : Below u1.heap.size u1 u7 := below_on hb6 (Nat.le_refl _) hb7
  have s25 : u2.heap.size ≤ u5.heap.size := hd5.bel.size
  have s56 := hb56.size
  have hd7 := hd6.keep hb7
  have A0 : Fam u7 (w.heap.size + 1) (nrows F) := hb.fam.keepB hb17
  have hO7 : u7.ownsRow u2.heap.size 2 1 (.slice (some ⟨gO, 0, none⟩) n cO) (ints O.reverse).length ((ints O.reverse).flatMap intCell) := by
    have := hd7.ord
    unfold OwN at this
    rw [nv_flat, ← ints_length] at this
    exact this
  have hI7 : u7.ownsRow u2.heap.size 2 1 (.slice (some ⟨gi, 0, none⟩) n n) ((List.range n).map I).length (((List.range n).map I).flatMap intCell) := by
    have := hd7.idom
    rw [zv_flat] at this
    rw [List.length_map, List.length_range]
    exact this
  have A1 : Fam u7 u2.heap.size [((.slice (some ⟨gO, 0, none⟩) n cO : Value), ints O.reverse), (.slice (some ⟨gi, 0, none⟩) n n, (List.range n).map I)] := by
    refine ⟨fun x hx => ?_, ?_⟩
    · simp only [List.mem_cons, List.not_mem_nil, or_false] at hx
      rcases hx with rfl | rfl
      · exact hO7
      · exact hI7
    · refine List.Pairwise.cons (fun y hy => ?_) (by simp)
      simp only [List.mem_cons, List.not_mem_nil, or_false] at hy
      subst hy
      intro g hg e
      simp only [Value.ownBlock, Option.some.injEq] at hg e
      exact hd6.ne (by rw [hg, e])
  have A2 : Fam u7 u5.heap.size (lrows ys) := by
    refine lrows_fam ((hbk.fam.keepB hb7).sub hsub) hlp.fam hb56.size fun y hy g hg => ?_
    have hm := hsub.subset (List.mem_map.2 ⟨y, hy, rfl⟩)
    exact ((hbk.fam.own _ hm).lt g hg).2
  have A12 : Fam u7 u2.heap.size ([((.slice (some ⟨gO, 0, none⟩) n cO : Value), ints O.reverse), (.slice (some ⟨gi, 0, none⟩) n n, (List.range n).map I)] ++ lrows ys) := by
    refine A1.ranges A2 s25 fun x hx g hg => ?_
    simp only [List.mem_cons, List.not_mem_nil, or_false] at hx
    rcases hx with rfl | rfl
    · exact (hd5.ord.lt g hg).2
    · exact (hd5.idom.lt g hg).2
  have A012 := A0.ranges A12 (by omega) (fun x hx g hg => by
    have := ((hb.fam.own x hx).lt g hg).2
    omega)
  have hbr := own_keep hb.row hb17 (Nat.le_refl _)
  have hlr : u7.ownsRow u6.heap.size 53 3 (.slice aL ys.length cL) ys.length (ys.flatMap lCells) := hlp.lps
  refine ⟨own_lower (six_own hbr (own_ge hbr (Nat.lt_succ_self _)) _ _ _ _ _ _) (Nat.le_succ _), own_lower (six_own hlr (own_ge hlr (by omega)) _ _ _ _ _ _) (by omega), ?_, hF, hys⟩
  exact (A012.six (Nat.lt_succ_self _) v0 v1 v2 v3 v4 v5).low (Nat.le_succ _)
end Go.Proofs.YtdfmdgbolmbffaaGreat
