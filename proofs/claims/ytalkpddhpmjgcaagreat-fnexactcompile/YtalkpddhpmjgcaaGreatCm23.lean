import Derived.Test.YtalkpddhpmjgcaaGreatCm22
import Derived.Test.YtalkpddhpmjgcaaGreatCm12
import Derived.Deep.RegionHeld
import Derived.Laws.StructEq
namespace Go.Proofs.YtalkpddhpmjgcaaGreat
open Go.ChangeShapes Go.WideShapes Go.ChangeAt Go.RowKit
set_option linter.unusedVariables false
def cbx (C : Nat) (v : VP) (vc : Value) (lev : Nat) : RowI := bRow C 63 6 [v.r, v.k, v.f, v.t, vc, .int .i64 (lev : Int)]
/-- A coder at work. -/
structure IG (w u : World) (v : VP) (F : List (List Int × Value)) (G : List (MF × VF)) (C : Nat) (vc : Value) (lev : Nat) (g : Gn) (D : List RowI) : Prop where
  bl : Bl w u (pItems v F g.consts G g.certs (nRow vc g.code :: cbx C v vc lev :: D))
section
variable {w u u' : World} {v : VP} {F : List (List Int × Value)} {G : List (MF × VF)} {C : Nat} {vc : Value} {lev : Nat} {g : Gn} {D : List RowI}
theorem IG.keep (h : IG w u v F G C vc lev g D) (hb : Below u.heap.size u u') : IG w u' v F G C vc lev g D := ⟨h.bl.keep hb⟩
theorem IG.cells (h : IG w u v F G C vc lev g D) : u.cell? ⟨C, 0, none⟩ = some v.r ∧ u.cell? ⟨C, 1, none⟩ = some v.k ∧ u.cell? ⟨C, 2, none⟩ = some v.f ∧ u.cell? ⟨C, 3, none⟩ = some v.t ∧ u.cell? ⟨C, 4, none⟩ = some vc ∧ u.cell? ⟨C, 5, none⟩ = some (.int .i64 (lev : Int)) :=
  have hm : cbx C v vc lev ∈ pItems v F g.consts G g.certs (nRow vc g.code :: cbx C v vc lev :: D) := pItems_in (by simp)
  ⟨h.bl.cell hm 0 (by omega), h.bl.cell hm 1 (by omega), h.bl.cell hm 2 (by omega), h.bl.cell hm 3 (by omega), h.bl.cell hm 4 (by omega), h.bl.cell hm 5 (by omega)⟩
theorem IG.frozen (h : IG w u v F G C vc lev g D) (i : Nat) : u.frozen? ⟨C, i, none⟩ = false := h.bl.frozen (pItems_in (show cbx C v vc lev ∈ _ by simp)) i
theorem IG.push (h : IG w u v F G C vc lev g D) (xs : List MI) (V : Value) (ho : u'.ownsRow w.heap.size 92 4 V (g.code.length + xs.length) (g.code.flatMap MI.cells ++ xs.flatMap MI.cells)) (hg : u.grownBy u' vc.ownBlock) (hat : V.ownBlock = vc.ownBlock ∨ V.ownBlock = some u.heap.size) : IG w (u'.setCell ⟨C, 4, none⟩ V) v F G C V lev (g.put xs) D ∧ u'.cell? ⟨C, 4, none⟩ = some vc ∧ u'.frozen? ⟨C, 4, none⟩ = false := by
  have h1 := h.bl.push_n xs V ho hg hat
  exact ⟨⟨h1.setp (D := [nRow V (g.code ++ xs)]) 4 (by omega) V⟩, h1.cell (pItems_in (show cbx C v vc lev ∈ _ by simp)) 4 (by omega), h1.frozen (pItems_in (show cbx C v vc lev ∈ _ by simp)) 4⟩
theorem IG.land {gc n cap : Nat} (h : IG w u v F G C (.slice (some ⟨gc, 0, none⟩) n cap) lev g D) (hn : g.code.length = n) (i : Nat) (hi : i < n) : IG w (u.setCell ⟨gc, i * 4 + 3, none⟩ (.int .i64 (n : Int))) v F G C (.slice (some ⟨gc, 0, none⟩) n cap) lev (g.land i) D ∧ (∃ z, u.cell? ⟨gc, i * 4 + 3, none⟩ = some (.int .i64 z)) ∧ u.frozen? ⟨gc, i * 4 + 3, none⟩ = false := by
  have ho := h.bl.nrow.2
  rw [hn] at ho
  refine ⟨⟨h.bl.set_n (g := gc) (n := n) (cap := cap) (by rw [hn]) (landL_length _ _) (i * 4 + 3) _ (by rw [← hn]; exact land_cells g.code i (by omega))⟩, ?_, ho.frozenAt _⟩
  have hx : g.code[i]? = some g.code[i] := List.getElem?_eq_getElem (by omega)
  rcases (Rd.of_own ho).2 with ⟨e, _⟩ | ⟨g', o', c', e, hc⟩
  · omega
  · simp only [Value.slice.injEq, Option.some.injEq, Addr.mk.injEq, true_and, and_true] at e
    obtain ⟨⟨rfl, rfl⟩, rfl⟩ := e
    have := Rd.elem MI.cells_length hc i _ hx 3 _ rfl
    exact ⟨g.code[i].c, by simpa using this⟩
theorem IG.setLev (h : IG w u v F G C vc lev g D) (l : Nat) : IG w (u.setCell ⟨C, 5, none⟩ (.int .i64 (l : Int))) v F G C vc l g D := ⟨h.bl.setp (D := [nRow vc g.code]) 5 (by omega) (.int .i64 (l : Int))⟩
theorem IG.push_c (h : IG w u v F G C vc lev g D) (x : MC) (V : Value) (ho : u'.ownsRow w.heap.size 108 2 V (g.consts.length + 1) (g.consts.flatMap MC.cells ++ x.cells)) (hg : u.grownBy u' v.k.ownBlock) (hat : V.ownBlock = v.k.ownBlock ∨ V.ownBlock = some u.heap.size) : IG w (u'.setCell ⟨C, 1, none⟩ V) { v with k := V } F G C vc lev ⟨g.code, g.consts ++ [x], g.certs⟩ D ∧ (u'.cell? ⟨C, 1, none⟩ = some v.k ∧ u'.frozen? ⟨C, 1, none⟩ = false) := by
  have h1 := h.bl.push_c x V ho hg hat
  exact ⟨⟨h1.setp (D := [nRow vc g.code]) 1 (by omega) V⟩, h1.cell (pItems_in (show cbx C v vc lev ∈ _ by simp)) 1 (by omega), h1.frozen (pItems_in (show cbx C v vc lev ∈ _ by simp)) 1⟩
theorem IG.push_t (h : IG w u v F G C vc lev g D) (x : MT) (V : Value) (ho : u'.ownsRow w.heap.size 112 4 V (g.certs.length + 1) (g.certs.flatMap MT.cells ++ x.cells)) (hg : u.grownBy u' v.t.ownBlock) (hat : V.ownBlock = v.t.ownBlock ∨ V.ownBlock = some u.heap.size) : IG w (u'.setCell ⟨C, 3, none⟩ V) { v with t := V } F G C vc lev ⟨g.code, g.consts, g.certs ++ [x]⟩ D ∧ (u'.cell? ⟨C, 3, none⟩ = some v.t ∧ u'.frozen? ⟨C, 3, none⟩ = false) ∧ (u'.cell? ⟨C, 2, none⟩ = some v.f ∧ (u'.setCell ⟨C, 3, none⟩ V).cell? ⟨C, 2, none⟩ = some v.f) := by
  have h1 := h.bl.push_t x V ho hg hat
  have h2 : IG w (u'.setCell ⟨C, 3, none⟩ V) { v with t := V } F G C vc lev ⟨g.code, g.consts, g.certs ++ [x]⟩ D := ⟨h1.setp (D := [nRow vc g.code]) 3 (by omega) V⟩
  exact ⟨h2, ⟨h1.cell (pItems_in (show cbx C v vc lev ∈ _ by simp)) 3 (by omega), h1.frozen (pItems_in (show cbx C v vc lev ∈ _ by simp)) 3⟩, h1.cell (pItems_in (show cbx C v vc lev ∈ _ by simp)) 2 (by omega), h2.cells.2.2.1⟩
end
set_option maxHeartbeats 2000000 in
set_option maxRecDepth 100000 in
theorem loadOf_any (a : Int) (w : World) : Calls Tryz.prog 148 #[.int .i64 a] w fun e w' => e = .returned (.agg #[.int .i64 4, .int .i64 2, .int .i64 a, .int .i64 0]) ∧ Below w.heap.size w w' := by
  have q := Blk.new w #[.int .i64 4, .int .i64 2, .int .i64 a, .int .i64 0] 92
  go_enter Tryz.func148, Tryz.ntmps148
  go_wp2_with fail
  have q0 := q.cell 0
  have q1 := q.cell 1
  have q2 := q.cell 2
  have q3 := q.cell 3
  have hb := below_alloc w (.cells #[.int .i64 4, .int .i64 2, .int .i64 a, .int .i64 0] 92)
  clear q
  generalize w.alloc (.cells #[.int .i64 4, .int .i64 2, .int .i64 a, .int .i64 0] 92) = W at *
  simp only [List.getElem?_toArray, List.getElem?_cons_zero, List.getElem?_cons_succ] at q0 q1 q2 q3
  exact bodyPost_ret (v := .agg #[.int .i64 4, .int .i64 2, .int .i64 a, .int .i64 0]) (by simp [results, Tryz.results148, go_sem, q0, q1, q2, q3]) rfl ⟨rfl, hb⟩
set_option maxHeartbeats 4000000 in
set_option maxRecDepth 100000 in
theorem put_any (w u : World) (v : VP) (F : List (List Int × Value)) (G : List (MF × VF)) (C : Nat) (vc : Value) (lev : Nat) (g : Gn) (D : List RowI) (xs : List MI) (b cap : Nat) (hx : 0 < xs.length) (hxs : xs.length ≤ 10) (hc : ∀ j y, (xs.flatMap MI.cells)[j]? = some y → u.cell? ((⟨b, 0, none⟩ : Addr).add j) = some y) (h : IG w u v F G C vc lev g D) (hl : g.code.length ≤ 1048576) :
    Calls Tryz.prog 54 #[.pointer (some ⟨C, 0, none⟩), .slice (some ⟨b, 0, none⟩) xs.length cap] u fun e u' => e = .returned (.tuple #[]) ∧ ∃ vc', IG w u' v F G C vc' lev (g.put xs) D := by
  obtain ⟨iI, hi, hz0, hz1, hz2⟩ := info_parts infoI
  obtain ⟨⟨a1, c1, e1⟩, _⟩ := h.bl.nrow
  subst e1
  have H : Hid (IG w u v F G C (.slice a1 g.code.length c1) lev g D ∧ ∀ j y, (xs.flatMap MI.cells)[j]? = some y → u.cell? ((⟨b, 0, none⟩ : Addr).add j) = some y) := ⟨h, hc⟩
  obtain ⟨_, _, _, _, q4, _⟩ := h.cells
  clear h hc
  generalize hn : g.code.length = n at H q4 hl ⊢
  have HN : Hid (g.code.length = n) := hn
  clear hn
  generalize hm : xs.length = m at hx hxs ⊢
  have HM : Hid (xs.length = m) := hm
  clear hm
  go_enter Tryz.func54, Tryz.ntmps54
  go_wp2_with (at_builtin; refine wpList_append_lies _ rfl _ _ 61 rfl w.heap.size 92 iI (.agg #[.int .i64 0, .int .i64 0, .int .i64 0, .int .i64 0]) 4 32 Tryz.underlying61 hi hz0 hz1 hz2 rfl (by decide) _ n (g.code.flatMap MI.cells) rfl (by have := H.out.1.bl.nrow.2; rw [HN.out] at this; exact this) ⟨b, 0, none⟩ m cap (xs.flatMap MI.cells) rfl (by rw [flat_length MI.cells 4 MI.cells_length, HM.out]) H.out.2 (mi_one xs) (by omega) (by simp [maxLen]; omega) (by omega) H.out.1.bl.size _ rfl ?_; intro g5 cap5 w5 hown hgrow hat hlt5; have HU : Hid (IG w (w5.setCell ⟨C, 4, none⟩ (.slice (some ⟨g5, 0, none⟩) (n + m) cap5)) v F G C (.slice (some ⟨g5, 0, none⟩) (n + m) cap5) lev (g.put xs) D ∧ w5.cell? ⟨C, 4, none⟩ = some (.slice a1 n c1) ∧ w5.frozen? ⟨C, 4, none⟩ = false) := H.out.1.push xs (.slice (some ⟨g5, 0, none⟩) (n + m) cap5) (by rw [HN.out, HM.out]; exact hown) hgrow (hat_of hat); have k1 := HU.out.2.1; have k2 := HU.out.2.2; clear hown hgrow hat hlt5)
  refine bodyPost_end (v := .tuple #[]) (by kernel_rfl) rfl ?_
  exact ⟨rfl, _, HU.out.1⟩
set_option maxHeartbeats 2000000 in
set_option maxRecDepth 100000 in
theorem place_any (w u : World) (v : VP) (F : List (List Int × Value)) (G : List (MF × VF)) (C : Nat) (vc : Value) (lev : Nat) (g : Gn) (D : List RowI) (h : IG w u v F G C vc lev g D) (hl : g.code.length ≤ 1048576) :
    Calls Tryz.prog 145 #[.pointer (some ⟨C, 0, none⟩)] u fun e u' => e = .returned (.int .i64 (g.code.length : Int)) ∧ u' = u := by
  obtain ⟨⟨a1, c1, e1⟩, _⟩ := h.bl.nrow
  subst e1
  obtain ⟨_, _, _, _, q4, _⟩ := h.cells
  clear h
  go_enter Tryz.func145, Tryz.ntmps145
  go_wp2_with fail
  go_ret
  exact ⟨rfl, rfl⟩
theorem cells_of (u : World) (x : MI) : ∀ j y, ([x].flatMap MI.cells)[j]? = some y → (u.alloc (.cells #[.int .i64 x.op, .int .i64 x.a, .int .i64 x.b, .int .i64 x.c] 92)).cell? ((⟨u.heap.size, 0, none⟩ : Addr).add j) = some y := lit_at u x.cells 92
set_option maxHeartbeats 4000000 in
set_option maxRecDepth 100000 in
theorem putOpen_any (w u : World) (v : VP) (F : List (List Int × Value)) (G : List (MF × VF)) (C : Nat) (vc : Value) (lev : Nat) (g : Gn) (D : List RowI) (op a b c : Int) (h : IG w u v F G C vc lev g D) (hl : g.code.length ≤ 1048570) :
    Calls Tryz.prog 144 #[.pointer (some ⟨C, 0, none⟩), .agg #[.int .i64 op, .int .i64 a, .int .i64 b, .int .i64 c]] u fun e u' => e = .returned (.int .i64 (g.code.length : Int)) ∧ ∃ vc', IG w u' v F G C vc' lev (g.put [⟨op, a, b, c⟩]) D := by
  have E0 : Hid (IG w (u.alloc (.cells #[.int .i64 op, .int .i64 a, .int .i64 b, .int .i64 c] 92)) v F G C vc lev g D ∧ Blk (u.alloc (.cells #[.int .i64 op, .int .i64 a, .int .i64 b, .int .i64 c] 92)) u.heap.size #[.int .i64 op, .int .i64 a, .int .i64 b, .int .i64 c] 92) := ⟨h.keep (below_alloc _ _), Blk.new _ _ _⟩
  clear h
  go_enter Tryz.func144, Tryz.ntmps144
  go_upto_region 1 with fail
  generalize u.heap.size = X at E0 ⊢
  refine wp_world (fun U => Hid (IG w U v F G C vc lev g D ∧ Blk U X #[.int .i64 op, .int .i64 a, .int .i64 b, .int .i64 c] 92)) E0 ?_
  clear E0
  rintro U E0
  have x0 := E0.out.2.cell 0
  have x1 := E0.out.2.cell 1
  have x2 := E0.out.2.cell 2
  have x3 := E0.out.2.cell 3
  simp only [List.getElem?_toArray, List.getElem?_cons_zero, List.getElem?_cons_succ] at x0 x1 x2 x3
  go_wp2_with fail
  refine (put_any w _ v F G C vc lev g D [⟨op, a, b, c⟩] U.heap.size 1 (by simp) (by simp) (cells_of U ⟨op, a, b, c⟩) (E0.out.1.keep (below_alloc _ _)) (by omega)).mono ?_
  rintro e U1 ⟨rfl, vc1, hh⟩
  have E1 : Hid (IG w U1 v F G C vc1 lev (g.put [⟨op, a, b, c⟩]) D ∧ (g.put [⟨op, a, b, c⟩]).code.length = g.code.length + 1) := ⟨hh, by rw [Gn.put_len]; rfl⟩
  clear hh E0 x0 x1 x2 x3
  go_wp2_with fail
  refine (place_any w U1 v F G C vc1 lev _ D E1.out.1 (by rw [E1.out.2]; omega)).mono ?_
  rintro e U2 ⟨rfl, rfl⟩
  rw [E1.out.2]
  go_wp2_with fail
  go_ret
  exact ⟨by go_num, _, E1.out.1⟩
set_option maxHeartbeats 4000000 in
set_option maxRecDepth 100000 in
theorem land_any (w u : World) (v : VP) (F : List (List Int × Value)) (G : List (MF × VF)) (C : Nat) (vc : Value) (lev : Nat) (g : Gn) (D : List RowI) (i : Nat) (h : IG w u v F G C vc lev g D) (hi : i < g.code.length) (hl : g.code.length ≤ 1048576) :
    Calls Tryz.prog 139 #[.pointer (some ⟨C, 0, none⟩), .int .i64 (i : Int)] u fun e u' => e = .returned (.tuple #[]) ∧ IG w u' v F G C vc lev (g.land i) D := by
  obtain ⟨⟨al, cl, el⟩, ol⟩ := h.bl.nrow
  obtain ⟨gc, oc, hgc⟩ : ∃ gc oc, al = some ⟨gc, 0, none⟩ := by
    rcases own_row ol with ⟨e, e2⟩ | ⟨gc, cc, e⟩
    · omega
    · rw [el] at e
      simp only [Value.slice.injEq, true_and] at e
      exact ⟨gc, cc, e.1⟩
  subst hgc el
  clear ol oc
  generalize hm : g.code.length = m at h hi hl
  have HM : Hid (g.code.length = m) := hm
  clear hm
  have H : Hid (IG w u v F G C (.slice (some ⟨gc, 0, none⟩) m cl) lev g D) := h
  clear h
  have LD : Hid (IG w (u.drew.setCell ⟨gc, i * 4 + 3, none⟩ (.int .i64 (m : Int))) v F G C (.slice (some ⟨gc, 0, none⟩) m cl) lev (g.land i) D ∧ (∃ z, u.drew.cell? ⟨gc, i * 4 + 3, none⟩ = some (.int .i64 z)) ∧ u.drew.frozen? ⟨gc, i * 4 + 3, none⟩ = false) := (H.out.keep (below_drew1 _)).land HM.out i hi
  go_enter Tryz.func139, Tryz.ntmps139
  go_upto_region 0 with fail
  refine wp_region_held_drew (S := fun W => W.cell? ⟨C, 4, none⟩ = some (.slice (some ⟨gc, 0, none⟩) m cl)) (by kernel_rfl) (by exact (H.out.keep (below_drew1 _)).cells.2.2.2.2.1) (fun hHeld => ?_)
  obtain ⟨zz, l1⟩ := LD.out.2.1
  have l2 := LD.out.2.2
  have HD : Hid (IG w u.drew v F G C (.slice (some ⟨gc, 0, none⟩) m cl) lev g D) := H.out.keep (below_drew1 _)
  have LE : Hid (IG w (u.drew.setCell ⟨gc, i * 4 + 3, none⟩ (.int .i64 (m : Int))) v F G C (.slice (some ⟨gc, 0, none⟩) m cl) lev (g.land i) D) := LD.out.1
  clear LD H
  generalize u.drew = UD at *
  refine wpAnyH_take (i := 0) (v := ?_) rfl (by kernel_rfl) (by kernel_rfl) (by kernel_rfl) (fun _ _ _ h => h) (Or.inl ⟨by rfl, ?_⟩) (by assumption) ?_
  rotate_left
  · (intro w hSw; (try dsimp only at hSw); (try obtain ⟨hSa, hSb, hSc, hSd⟩ := hSw); (try obtain ⟨hSa, hSb, hSc⟩ := hSw); (try obtain ⟨hSa, hSb⟩ := hSw); go_simp; (try with_reducible rfl))
  refine wpAnyH_take (i := 1) (v := ?_) rfl (by kernel_rfl) (by kernel_rfl) (by kernel_rfl) (fun _ _ _ h => h) (Or.inl ⟨by rfl, ?_⟩) (by assumption) ?_
  rotate_left
  · (intro w hSw; (try dsimp only at hSw); (try obtain ⟨hSa, hSb, hSc, hSd⟩ := hSw); (try obtain ⟨hSa, hSb, hSc⟩ := hSw); (try obtain ⟨hSa, hSb⟩ := hSw); go_simp; (try with_reducible rfl))
  refine wpAnyH_take (i := 2) (v := ?_) rfl (by kernel_rfl) (by kernel_rfl) (by kernel_rfl) (fun _ _ _ h => h) (Or.inl ⟨by rfl, ?_⟩) (by assumption) ?_
  rotate_left
  · (intro w hSw; (try dsimp only at hSw); (try obtain ⟨hSa, hSb, hSc, hSd⟩ := hSw); (try obtain ⟨hSa, hSb, hSc⟩ := hSw); (try obtain ⟨hSa, hSb⟩ := hSw); go_simp; (try with_reducible rfl))
  refine wpAnyH_take (i := 3) (v := ?_) rfl (by kernel_rfl) (by kernel_rfl) (by kernel_rfl) (fun _ _ _ h => h) (Or.inl ⟨by rfl, ?_⟩) (by assumption) ?_
  rotate_left
  · (intro w hSw; (try dsimp only at hSw); (try obtain ⟨hSa, hSb, hSc, hSd⟩ := hSw); (try obtain ⟨hSa, hSb, hSc⟩ := hSw); (try obtain ⟨hSa, hSb⟩ := hSw); go_simp; (try with_reducible rfl))
  refine wpAnyH_take (i := 4) (v := ?_) rfl (by kernel_rfl) (by kernel_rfl) (by kernel_rfl) (fun _ _ _ h => h) (Or.inl ⟨by rfl, ?_⟩) (by assumption) ?_
  rotate_left
  · (intro w hSw; (try dsimp only at hSw); (try obtain ⟨hSa, hSb, hSc, hSd⟩ := hSw); (try obtain ⟨hSa, hSb, hSc⟩ := hSw); (try obtain ⟨hSa, hSb⟩ := hSw); go_simp; (try with_reducible rfl))
  refine wpAnyH_take (i := 5) (v := ?_) rfl (by kernel_rfl) (by kernel_rfl) (by kernel_rfl) (fun _ _ _ h => h) (Or.inl ⟨by rfl, ?_⟩) (by assumption) ?_
  rotate_left
  · (intro w hSw; (try dsimp only at hSw); (try obtain ⟨hSa, hSb, hSc, hSd⟩ := hSw); (try obtain ⟨hSa, hSb, hSc⟩ := hSw); (try obtain ⟨hSa, hSb⟩ := hSw); go_simp; (try with_reducible rfl))
  refine wpAnyH_ready (rs := [6]) (by kernel_rfl) (by simp) ?_
  refine AllReadyH.cons rfl (fun KC hKC => ?_) AllReadyH.nil
  go_simp
  refine (place_any w UD v F G C _ lev g D HD.out (by rw [HM.out]; omega)).mono ?_
  rintro e U2 ⟨rfl, rfl⟩
  rw [HM.out]
  refine hKC.out _ _ (by exact HD.out.cells.2.2.2.2.1) (fun hHeld => ?_)
  clear hKC KC
  refine wpAnyH_take (i := 7) (v := ?_) rfl (by kernel_rfl) (by kernel_rfl) (by kernel_rfl) (fun _ _ _ h => h) (Or.inl ⟨by rfl, ?_⟩) (by assumption) ?_
  rotate_left
  · (intro w hSw; (try dsimp only at hSw); (try obtain ⟨hSa, hSb, hSc, hSd⟩ := hSw); (try obtain ⟨hSa, hSb, hSc⟩ := hSw); (try obtain ⟨hSa, hSb⟩ := hSw); go_simp; (try with_reducible rfl))
  refine wpAnyH_take (i := 8) (v := ?_) rfl (by kernel_rfl) (by kernel_rfl) (by kernel_rfl) (fun _ _ _ h => h) (Or.inl ⟨by rfl, ?_⟩) (by assumption) ?_
  rotate_left
  · (intro w hSw; (try dsimp only at hSw); (try obtain ⟨hSa, hSb, hSc, hSd⟩ := hSw); (try obtain ⟨hSa, hSb, hSc⟩ := hSw); (try obtain ⟨hSa, hSb⟩ := hSw); go_simp; (try with_reducible rfl))
  refine wpAnyH_ready (rs := [9]) (by kernel_rfl) (by simp) ?_
  refine AllReadyH.cons rfl (fun KC hKC => ?_) AllReadyH.nil
  go_simp
  refine hKC.out _ _ (by exact LE.out.cells.2.2.2.2.1) (fun hHeld => ?_)
  clear hKC KC
  refine wpAnyH_done (by kernel_rfl) ?_ _
  refine bodyPost_end (v := .tuple #[]) (by kernel_rfl) rfl ?_
  exact ⟨rfl, LE.out⟩
end Go.Proofs.YtalkpddhpmjgcaaGreat
namespace Go.Proofs.YtalkpddhpmjgcaaGreat
open Go.ChangeShapes Go.WideShapes Go.ChangeAt Go.RowKit
set_option linter.unusedVariables false
theorem MC.eql (a b a' b' : Int) (w : World) : (binOp .eql 108 (.agg #[.int .i64 a, .int .u32 b]) (.agg #[.int .i64 a', .int .u32 b'])).run Tryz.prog w = .ok (.bool (decide (a = a' ∧ b = b'))) w := by
  have u64 := Tryz.underlying2
  have a64 := Tryz.isAgg2
  have z64 := Tryz.sizeOf2
  have u32 := Tryz.underlying106
  have a32 := Tryz.isAgg106
  have z32 := Tryz.sizeOf106
  have hS : Tryz.prog.underlying 108 = some (.struct (Tryz.prog.fieldsOf 108)) := by kernel_rfl
  have hp : Tryz.prog.stoodInHeld 108 = false := by kernel_rfl
  rw [run_eql_struct, show (10000 : Nat) = 9999 + 1 from rfl, run_equalIn_agg w 9999 108 _ _ hS hp]
  simp only [Program.fieldsOf, Tryz.underlying108]
  go_simp
  by_cases h1 : a = a'
  · by_cases h2 : b = b' <;> simp [*]
  · simp [*]
/-- Where a constant of type uint stands. -/
def idxC (cs : List MC) (z : Int) : Int := if cnstI cs z < cs.length then (cnstI cs z : Int) else -1
set_option maxHeartbeats 4000000 in
set_option maxRecDepth 100000 in
theorem index_any (s : Value) (cs : List MC) (z : Int) (w : World) (h : Rd w 2 s cs.length (cs.flatMap MC.cells)) (h3 : ∀ x ∈ cs, x.type = 3) (hl : cs.length ≤ 1048576) :
    Calls Tryz.prog 146 #[s, .agg #[.int .i64 3, .int .u32 z]] w fun e w' => e = .returned (.int .i64 (idxC cs z)) ∧ Below w.heap.size w w' := by
  obtain ⟨a1, c1, e1⟩ := h.is_slice
  subst e1
  have H : Hid (Rd w 2 (.slice a1 cs.length c1) cs.length (cs.flatMap MC.cells) ∧ ∀ x ∈ cs, x.type = 3) := ⟨h, h3⟩
  clear h h3
  generalize hn : cs.length = n at H hl ⊢
  have HN : Hid (cs.length = n) := hn
  clear hn
  have E0 : Hid (Below w.heap.size w (w.alloc (.cells #[.int .i64 3, .int .u32 z] 108)) ∧ Blk (w.alloc (.cells #[.int .i64 3, .int .u32 z] 108)) w.heap.size #[.int .i64 3, .int .u32 z] 108) := ⟨below_alloc _ _, Blk.new _ _ _⟩
  go_enter Tryz.func146, Tryz.ntmps146
  go_upto_region 1 with fail
  generalize hX : w.heap.size = X at E0 ⊢
  have HXS : Hid (w.heap.size = X) := hX
  clear hX
  refine wp_world (fun U => Hid (Below X w U ∧ Blk U X #[.int .i64 3, .int .u32 z] 108)) E0 ?_
  clear E0
  rintro U E0
  go_wp2_with fail
  go_loopw [5, 8] (fun _ i wr => ∃ k : Nat, k ≤ n ∧ i = .int .i64 k ∧ Hid (Below X w wr ∧ Blk wr X #[.int .i64 3, .int .u32 z] 108) ∧ Hid (∀ j y, j < k → cs[j]? = some y → y.word ≠ z)) (fun _ i _ => n - (intOf i).toNat)
  case atStart => exact ⟨0, by omega, rfl, E0, fun j y hj => absurd hj (by omega)⟩
  case round =>
    clear E0
    obtain ⟨k, hk, rfl, E0, HK⟩ := hrel
    by_cases hlt : k < n
    · obtain ⟨x, hx⟩ : ∃ x, cs[k]? = some x := ⟨_, List.getElem?_eq_getElem (by rw [HN.out]; exact hlt)⟩
      have hx3 := H.out.2 x (List.mem_of_getElem? hx)
      obtain ⟨gk, ok, ck, ek, hck⟩ : ∃ gk ok ck, (Value.slice a1 n c1) = .slice (some ⟨gk, ok, none⟩) n ck ∧ ∀ j u', (cs.flatMap MC.cells)[j]? = some u' → w.cell? ⟨gk, ok + j, none⟩ = some u' := by
        rcases H.out.1.2 with ⟨e, _⟩ | ⟨gk, ok, ck, ek, hck⟩
        · omega
        · exact ⟨gk, ok, ck, ek, hck⟩
      simp only [Value.slice.injEq, true_and] at ek
      obtain ⟨rfl, rfl⟩ := ek
      have j0 := Rd.elem MC.cells_length hck k x hx 0 _ rfl
      have j1 := Rd.elem MC.cells_length hck k x hx 1 _ rfl
      simp only [Nat.add_zero] at j0
      rw [hx3] at j0
      have HC : Hid (∀ V, Below X w V → V.cell? ⟨gk, ok + k * 2, none⟩ = some (.int .i64 3) ∧ V.cell? ⟨gk, ok + k * 2 + 1, none⟩ = some (.int .u32 x.word)) := fun V hV => by
        rw [← HXS.out] at hV
        exact ⟨bcell_lt hV j0, bcell_lt hV j1⟩
      clear hck j0 j1 hx3
      have HCX : Hid (∀ V, Blk V X #[.int .i64 3, .int .u32 z] 108 → V.cell? ⟨X, 0, none⟩ = some (.int .i64 3) ∧ V.cell? ⟨X, 1, none⟩ = some (.int .u32 z)) := fun V hV => ⟨hV.cell 0, hV.cell 1⟩
      have HX : Hid (cs[k]? = some x) := hx
      clear hx
      have ED : Hid (Below X w wr.drew ∧ Blk wr.drew X #[.int .i64 3, .int .u32 z] 108) := ⟨by rw [← HXS.out]; exact below_on (by rw [HXS.out]; exact E0.out.1) (Nat.le_refl _) (below_drew1 _), E0.out.2.keep (below_drew1 _)⟩
      go_upto_region 4 with fail
      by_cases hxz : x.word = z
      · have EQ : ∀ w, (binOp .eql 108 (.agg #[.int .i64 3, .int .u32 z]) (.agg #[.int .i64 3, .int .u32 x.word])).run Tryz.prog w = .ok (.bool true) w := fun w => by rw [MC.eql]; simp [hxz]
        have HR : Hid (idxC cs z = k) := by
          have e := cnstI_at HX.out hxz HK.out
          show idxC cs z = k
          unfold idxC
          rw [e, if_pos (by rw [HN.out]; exact hlt)]
        clear hxz
        refine wp_region_held_drew (S := fun W => W.cell? ⟨X, 0, none⟩ = some (.int .i64 3) ∧ W.cell? ⟨X, 1, none⟩ = some (.int .u32 z) ∧ W.cell? ⟨gk, ok + k * 2, none⟩ = some (.int .i64 3) ∧ W.cell? ⟨gk, ok + k * 2 + 1, none⟩ = some (.int .u32 x.word)) (by kernel_rfl) (by exact ⟨(HCX.out _ ED.out.2).1, (HCX.out _ ED.out.2).2, HC.out _ ED.out.1⟩) (fun hHeld => ?_)
        refine wpAnyH_take (i := 0) (v := ?_) rfl (by kernel_rfl) (by kernel_rfl) (by kernel_rfl) (fun _ _ _ h => h) (Or.inl ⟨by rfl, ?_⟩) (by assumption) ?_
        rotate_left
        · (intro w hSw; (try dsimp only at hSw); (try obtain ⟨hSa, hSb, hSc, hSd⟩ := hSw); (try obtain ⟨hSa, hSb, hSc⟩ := hSw); (try obtain ⟨hSa, hSb⟩ := hSw); go_simp; (try with_reducible rfl))
        refine wpAnyH_take (i := 1) (v := ?_) rfl (by kernel_rfl) (by kernel_rfl) (by kernel_rfl) (fun _ _ _ h => h) (Or.inl ⟨by rfl, ?_⟩) (by assumption) ?_
        rotate_left
        · (intro w hSw; (try dsimp only at hSw); (try obtain ⟨hSa, hSb, hSc, hSd⟩ := hSw); (try obtain ⟨hSa, hSb, hSc⟩ := hSw); (try obtain ⟨hSa, hSb⟩ := hSw); go_simp; (try with_reducible rfl))
        refine wpAnyH_take (i := 2) (v := ?_) rfl (by kernel_rfl) (by kernel_rfl) (by kernel_rfl) (fun _ _ _ h => h) (Or.inl ⟨by rfl, ?_⟩) (by assumption) ?_
        rotate_left
        · (intro w hSw; (try dsimp only at hSw); (try obtain ⟨hSa, hSb, hSc, hSd⟩ := hSw); (try obtain ⟨hSa, hSb, hSc⟩ := hSw); (try obtain ⟨hSa, hSb⟩ := hSw); go_simp; (try with_reducible rfl))
        refine wpAnyH_take (i := 3) (v := ?_) rfl (by kernel_rfl) (by kernel_rfl) (by kernel_rfl) (fun _ _ _ h => h) (Or.inl ⟨by rfl, ?_⟩) (by assumption) ?_
        rotate_left
        · (intro w hSw; (try dsimp only at hSw); (try obtain ⟨hSa, hSb, hSc, hSd⟩ := hSw); (try obtain ⟨hSa, hSb, hSc⟩ := hSw); (try obtain ⟨hSa, hSb⟩ := hSw); go_simp; (try with_reducible rfl))
        refine wpAnyH_take (i := 4) (v := ?_) rfl (by kernel_rfl) (by kernel_rfl) (by kernel_rfl) (fun _ _ _ h => h) (Or.inl ⟨by rfl, ?_⟩) (by assumption) ?_
        rotate_left
        · (intro w hSw; (try dsimp only at hSw); (try obtain ⟨hSa, hSb, hSc, hSd⟩ := hSw); (try obtain ⟨hSa, hSb, hSc⟩ := hSw); (try obtain ⟨hSa, hSb⟩ := hSw); go_simp; (try with_reducible rfl))
        refine wpAnyH_take (i := 5) (v := ?_) rfl (by kernel_rfl) (by kernel_rfl) (by kernel_rfl) (fun _ _ _ h => h) (Or.inl ⟨by rfl, ?_⟩) (by assumption) ?_
        rotate_left
        · (intro w hSw; (try dsimp only at hSw); (try obtain ⟨hSa, hSb, hSc, hSd⟩ := hSw); (try obtain ⟨hSa, hSb, hSc⟩ := hSw); (try obtain ⟨hSa, hSb⟩ := hSw); go_simp; (try with_reducible rfl))
        refine wpAnyH_done (by kernel_rfl) ?_ _
        clear hHeld E0
        generalize wr.drew = W1 at ED ⊢
        go_wp2_with fail
        go_ret
        exact ⟨by rw [HR.out]; rfl, by rw [HXS.out]; exact ED.out.1⟩
      · have EQ : ∀ w, (binOp .eql 108 (.agg #[.int .i64 3, .int .u32 z]) (.agg #[.int .i64 3, .int .u32 x.word])).run Tryz.prog w = .ok (.bool false) w := fun w => by rw [MC.eql]; simp; exact fun e => hxz e.symm
        have HK2 : Hid (∀ j y, j < k + 1 → cs[j]? = some y → y.word ≠ z) := fun j y hj hy => by
          by_cases e : j = k
          · subst e
            rw [HX.out] at hy
            obtain rfl := Option.some.inj hy
            exact hxz
          · exact HK.out j y (by omega) hy
        clear hxz
        refine wp_region_held_drew (S := fun W => W.cell? ⟨X, 0, none⟩ = some (.int .i64 3) ∧ W.cell? ⟨X, 1, none⟩ = some (.int .u32 z) ∧ W.cell? ⟨gk, ok + k * 2, none⟩ = some (.int .i64 3) ∧ W.cell? ⟨gk, ok + k * 2 + 1, none⟩ = some (.int .u32 x.word)) (by kernel_rfl) (by exact ⟨(HCX.out _ ED.out.2).1, (HCX.out _ ED.out.2).2, HC.out _ ED.out.1⟩) (fun hHeld => ?_)
        refine wpAnyH_take (i := 0) (v := ?_) rfl (by kernel_rfl) (by kernel_rfl) (by kernel_rfl) (fun _ _ _ h => h) (Or.inl ⟨by rfl, ?_⟩) (by assumption) ?_
        rotate_left
        · (intro w hSw; (try dsimp only at hSw); (try obtain ⟨hSa, hSb, hSc, hSd⟩ := hSw); (try obtain ⟨hSa, hSb, hSc⟩ := hSw); (try obtain ⟨hSa, hSb⟩ := hSw); go_simp; (try with_reducible rfl))
        refine wpAnyH_take (i := 1) (v := ?_) rfl (by kernel_rfl) (by kernel_rfl) (by kernel_rfl) (fun _ _ _ h => h) (Or.inl ⟨by rfl, ?_⟩) (by assumption) ?_
        rotate_left
        · (intro w hSw; (try dsimp only at hSw); (try obtain ⟨hSa, hSb, hSc, hSd⟩ := hSw); (try obtain ⟨hSa, hSb, hSc⟩ := hSw); (try obtain ⟨hSa, hSb⟩ := hSw); go_simp; (try with_reducible rfl))
        refine wpAnyH_take (i := 2) (v := ?_) rfl (by kernel_rfl) (by kernel_rfl) (by kernel_rfl) (fun _ _ _ h => h) (Or.inl ⟨by rfl, ?_⟩) (by assumption) ?_
        rotate_left
        · (intro w hSw; (try dsimp only at hSw); (try obtain ⟨hSa, hSb, hSc, hSd⟩ := hSw); (try obtain ⟨hSa, hSb, hSc⟩ := hSw); (try obtain ⟨hSa, hSb⟩ := hSw); go_simp; (try with_reducible rfl))
        refine wpAnyH_take (i := 3) (v := ?_) rfl (by kernel_rfl) (by kernel_rfl) (by kernel_rfl) (fun _ _ _ h => h) (Or.inl ⟨by rfl, ?_⟩) (by assumption) ?_
        rotate_left
        · (intro w hSw; (try dsimp only at hSw); (try obtain ⟨hSa, hSb, hSc, hSd⟩ := hSw); (try obtain ⟨hSa, hSb, hSc⟩ := hSw); (try obtain ⟨hSa, hSb⟩ := hSw); go_simp; (try with_reducible rfl))
        refine wpAnyH_take (i := 4) (v := ?_) rfl (by kernel_rfl) (by kernel_rfl) (by kernel_rfl) (fun _ _ _ h => h) (Or.inl ⟨by rfl, ?_⟩) (by assumption) ?_
        rotate_left
        · (intro w hSw; (try dsimp only at hSw); (try obtain ⟨hSa, hSb, hSc, hSd⟩ := hSw); (try obtain ⟨hSa, hSb, hSc⟩ := hSw); (try obtain ⟨hSa, hSb⟩ := hSw); go_simp; (try with_reducible rfl))
        refine wpAnyH_take (i := 5) (v := ?_) rfl (by kernel_rfl) (by kernel_rfl) (by kernel_rfl) (fun _ _ _ h => h) (Or.inl ⟨by rfl, ?_⟩) (by assumption) ?_
        rotate_left
        · (intro w hSw; (try dsimp only at hSw); (try obtain ⟨hSa, hSb, hSc, hSd⟩ := hSw); (try obtain ⟨hSa, hSb, hSc⟩ := hSw); (try obtain ⟨hSa, hSb⟩ := hSw); go_simp; (try with_reducible rfl))
        refine wpAnyH_done (by kernel_rfl) ?_ _
        clear hHeld E0
        generalize wr.drew = W1 at ED ⊢
        go_wp2_with fail
        go_roundw
        case rel => exact ⟨k + 1, by omega, by go_num, ED, HK2⟩
        case measure => simp [intOf]; omega
    · have hkn : k = n := by omega
      subst hkn
      have HR : Hid (idxC cs z = -1) := by
        have e := cnstI_no (cs := cs) (v := z) (by rw [HN.out]; exact HK.out)
        show idxC cs z = -1
        unfold idxC
        rw [if_neg (by rw [e]; omega)]
      go_wp2_with fail
      go_ret
      exact ⟨by rw [HR.out]; rfl, by rw [HXS.out]; exact E0.out.1⟩
end Go.Proofs.YtalkpddhpmjgcaaGreat
