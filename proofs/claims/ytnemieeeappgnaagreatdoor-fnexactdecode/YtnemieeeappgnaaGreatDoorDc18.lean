import Derived.Test.YtnemieeeappgnaaGreatDoorDc17
import Derived.Test.YtnemieeeappgnaaGreatDoorDc16
namespace Go.Proofs.YtnemieeeappgnaaGreatDoor
open Go.ChangeShapes Go.WideShapes Go.ChangeAt Go.RowKit
set_option linter.unusedVariables false
abbrev gb (X : Nat) (v : VP) : RowI := bRow X 28 4 [v.r, v.k, v.f, v.t]
theorem pItems_app (v : VP) (F : List (List Int × Value)) (cs : List MC) (G : List (MF × VF)) (ts : List MT) (B C : List RowI) : pItems v F cs G ts (B ++ C) = pItems v F cs G ts B ++ C := by simp [pItems, List.append_assoc]
theorem rItems_snoc (F : List (List Int × Value)) (y : List Int × Value) : rItems (F ++ [y]) = rItems F ++ [iRow y.2 y.1] := by simp [rItems]
theorem fItems_snoc (G : List (MF × VF)) (y : MF × VF) : fItems (G ++ [y]) = fItems G ++ fItem y := by simp [fItems]
theorem hat_of {o : Option Nat} {g H n c : Nat} (h : o = some g ∨ g = H) : (Value.slice (some ⟨g, 0, none⟩) n c).ownBlock = o ∨ (Value.slice (some ⟨g, 0, none⟩) n c).ownBlock = some H := h.elim (fun e => .inl e.symm) (fun e => .inr (by rw [e]; rfl))
section
variable {w u u' : World} {v : VP} {F : List (List Int × Value)} {cs : List MC} {G : List (MF × VF)} {ts : List MT} {D : List RowI} {B I L : Nat} {a : Option Addr} {c : Nat} {zs : List Int} {k : Nat} {bad : Bool}
theorem Bt.push_r {x : Value} {xs : List Int} (h : Bt w u (pItems v F cs G ts D ++ [iRow x xs]) B I L a c zs k bad) (V : Value) (ho : u'.ownsRow w.heap.size 57 1 V (F.length + 1) (F.flatMap rCells ++ [x])) (hg : u.grownBy u' v.r.ownBlock) (hat : V.ownBlock = v.r.ownBlock ∨ V.ownBlock = some u.heap.size) : Bt w u' (pItems { v with r := V } (F ++ [(xs, x)]) cs G ts D) B I L a c zs k bad := by
  have h1 : Bt w u ([] ++ rHead v.r F :: (rItems F ++ iRow x xs :: (cRow v.k cs :: (fHead v.f G :: fItems G ++ (tRow v.t ts :: D))))) B I L a c zs k bad := h.perm (by
    simp only [pItems, List.nil_append, List.cons_append, List.append_assoc]
    refine .cons _ (List.Perm.append_left _ ?_)
    have := List.perm_append_comm (l₁ := cRow v.k cs :: (fHead v.f G :: (fItems G ++ (tRow v.t ts :: D)))) (l₂ := [iRow x xs])
    simpa only [List.cons_append, List.append_assoc, List.nil_append] using this)
  have h2 := h1.app (rHead V (F ++ [(xs, x)])) (by simpa [RowI.own, rHead, rCells] using ho) hg hat
  have e : [] ++ rHead V (F ++ [(xs, x)]) :: (rItems F ++ iRow x xs :: (cRow v.k cs :: (fHead v.f G :: fItems G ++ (tRow v.t ts :: D)))) = pItems { v with r := V } (F ++ [(xs, x)]) cs G ts D := by simp [pItems, rItems_snoc, List.append_assoc]
  rwa [e] at h2
theorem Bt.push_c (h : Bt w u (pItems v F cs G ts D) B I L a c zs k bad) (x : MC) (V : Value) (ho : u'.ownsRow w.heap.size 61 2 V (cs.length + 1) (cs.flatMap MC.cells ++ x.cells)) (hg : u.grownBy u' v.k.ownBlock) (hat : V.ownBlock = v.k.ownBlock ∨ V.ownBlock = some u.heap.size) : Bt w u' (pItems { v with k := V } F (cs ++ [x]) G ts D) B I L a c zs k bad :=
  Bt.app (A := rHead v.r F :: rItems F) h (cRow V (cs ++ [x])) (by simpa [RowI.own, cRow] using ho) hg hat
theorem Bt.push_f {y : MF × VF} (h : Bt w u (pItems v F cs G ts D ++ fItem y) B I L a c zs k bad) (V : Value) (ho : u'.ownsRow w.heap.size 64 4 V (G.length + 1) (G.flatMap fCells ++ fCells y)) (hg : u.grownBy u' v.f.ownBlock) (hat : V.ownBlock = v.f.ownBlock ∨ V.ownBlock = some u.heap.size) : Bt w u' (pItems { v with f := V } F cs (G ++ [y]) ts D) B I L a c zs k bad := by
  have h1 : Bt w u ((rHead v.r F :: rItems F ++ [cRow v.k cs]) ++ fHead v.f G :: (fItems G ++ (fItem y ++ (tRow v.t ts :: D)))) B I L a c zs k bad := h.perm (by
    simp only [pItems, List.cons_append, List.append_assoc, List.nil_append]
    refine .cons _ (List.Perm.append_left _ (.cons _ (.cons _ (List.Perm.append_left _ ?_))))
    exact (List.perm_append_comm (l₁ := tRow v.t ts :: D) (l₂ := fItem y)))
  have h2 := h1.app (fHead V (G ++ [y])) (by simpa [RowI.own, fHead] using ho) hg hat
  have e : (rHead v.r F :: rItems F ++ [cRow v.k cs]) ++ fHead V (G ++ [y]) :: (fItems G ++ (fItem y ++ (tRow v.t ts :: D))) = pItems { v with f := V } F cs (G ++ [y]) ts D := by simp [pItems, fItems_snoc, List.append_assoc]
  rwa [e] at h2
theorem Bt.push_t (h : Bt w u (pItems v F cs G ts D) B I L a c zs k bad) (x : MT) (V : Value) (ho : u'.ownsRow w.heap.size 67 4 V (ts.length + 1) (ts.flatMap MT.cells ++ x.cells)) (hg : u.grownBy u' v.t.ownBlock) (hat : V.ownBlock = v.t.ownBlock ∨ V.ownBlock = some u.heap.size) : Bt w u' (pItems { v with t := V } F cs G (ts ++ [x]) D) B I L a c zs k bad := by
  have h1 : Bt w u ((rHead v.r F :: rItems F ++ (cRow v.k cs :: (fHead v.f G :: fItems G))) ++ tRow v.t ts :: D) B I L a c zs k bad := by simpa [pItems, List.append_assoc] using h
  have h2 := h1.app (tRow V (ts ++ [x])) (by simpa [RowI.own, tRow] using ho) hg hat
  have e : (rHead v.r F :: rItems F ++ (cRow v.k cs :: (fHead v.f G :: fItems G))) ++ tRow V (ts ++ [x]) :: D = pItems { v with t := V } F cs G (ts ++ [x]) D := by simp [pItems, List.append_assoc]
  rwa [e] at h2
theorem Bt.setp {X : Nat} {t : TypeId} {q : Nat} {xs : List Value} {E : List RowI} (h : Bt w u (pItems v F cs G ts (D ++ bRow X t q xs :: E)) B I L a c zs k bad) (i : Nat) (hi : i < q) (x : Value) : Bt w (u.setCell ⟨X, i, none⟩ x) (pItems v F cs G ts (D ++ bRow X t q (xs.set i x) :: E)) B I L a c zs k bad := by
  rw [pItems_app] at h ⊢
  exact h.set i hi x
theorem pItems_in {r : RowI} (h : r ∈ D) : r ∈ pItems v F cs G ts D := by simp [pItems, h]
theorem Bt.prow (h : Bt w u (pItems v F cs G ts D) B I L a c zs k bad) : (∃ a1 c1 a2 c2 a3 c3 a4 c4, v = ⟨.slice a1 F.length c1, .slice a2 cs.length c2, .slice a3 G.length c3, .slice a4 ts.length c4⟩) ∧ u.ownsRow w.heap.size 57 1 v.r F.length (F.flatMap rCells) ∧ u.ownsRow w.heap.size 61 2 v.k cs.length (cs.flatMap MC.cells) ∧ u.ownsRow w.heap.size 64 4 v.f G.length (G.flatMap fCells) ∧ u.ownsRow w.heap.size 67 4 v.t ts.length (ts.flatMap MT.cells) := by
  refine ⟨?_, h.sep.own (rHead v.r F) (by simp [pItems]), h.sep.own (cRow v.k cs) (by simp [pItems]), h.sep.own (fHead v.f G) (by simp [pItems]), h.sep.own (tRow v.t ts) (by simp [pItems])⟩
  obtain ⟨v1, v2, v3, v4⟩ := v
  obtain ⟨a1, c1, e1⟩ : ∃ a c, v1 = .slice a F.length c := own_sl (h.sep.own (rHead v1 F) (by simp [pItems]))
  obtain ⟨a2, c2, e2⟩ : ∃ a c, v2 = .slice a cs.length c := own_sl (h.sep.own (cRow v2 cs) (by simp [pItems]))
  obtain ⟨a3, c3, e3⟩ : ∃ a c, v3 = .slice a G.length c := own_sl (h.sep.own (fHead v3 G) (by simp [pItems]))
  obtain ⟨a4, c4, e4⟩ : ∃ a c, v4 = .slice a ts.length c := own_sl (h.sep.own (tRow v4 ts) (by simp [pItems]))
  exact ⟨a1, c1, a2, c2, a3, c3, a4, c4, by rw [e1, e2, e3, e4]⟩
end
end Go.Proofs.YtnemieeeappgnaaGreatDoor
namespace Go.Proofs.YtnemieeeappgnaaGreatDoor
open Go.ChangeShapes Go.WideShapes Go.ChangeAt Go.RowKit
set_option linter.unusedVariables false
set_option maxHeartbeats 2000000 in
set_option maxRecDepth 100000 in
theorem region_any (B I L : Nat) (a : Option Addr) (c : Nat) (zs : List Int) (k : Nat) (w : World) (h : InR w B I L a c zs k) :
    Calls Tryz.prog 54 #[.pointer (some ⟨I, 0, none⟩)] w (Rds (typesR zs 2) (fun w' ys V => (iRow V ys).own w' w.heap.size) w B I L a c zs k) := by
  have H0 : Hid (Br w w [] B I L a c zs k) := Br.start h
  have HZ : Hid (AllB zs) := h.hz
  clear h
  go_enter Tryz.func54, Tryz.ntmps54
  go_wp2_with fail
  refine (number_any B I L a c zs 2 k _ (by omega) (by omega) H0.out.got.at_).mono ?_
  rintro e u1 (⟨x1, V, k1, rfl, hr, rfl, hg⟩ | ⟨rfl, hn, hc⟩)
  rotate_left
  · unfold stopE
    go_wp2
    exact ⟨rfl, .inr ⟨rfl, thenR_none hn, H0.out.got.chg.on hc⟩⟩
  have H1 : Hid (Br w u1 [] B I L a c zs k1) := H0.out.read hg
  have R1 : Hid (numR zs 2 k = some (x1, k1)) := hr
  obtain ⟨p1, p1'⟩ := num_bdR HZ.out (by omega) hr
  obtain ⟨m1, rfl⟩ := Int.eq_ofNat_of_zero_le p1
  have hm1 : m1 ≤ 65535 := by omega
  clear hr hg H0
  go_wp2_with fail
  refine (listInt_any B I L a c zs m1 k1 _ (by omega) H1.out.got.at_).mono ?_
  rintro e u2 (⟨ps, V2, k2, rfl, hr, ho, hg⟩ | ⟨rfl, hn, hc⟩)
  rotate_left
  · unfold stopE
    go_wp2
    exact ⟨rfl, .inr ⟨rfl, (then_some R1.out hn), H1.out.got.chg.on hc⟩⟩
  obtain ⟨a2, d2, e2⟩ : ∃ a c, V2 = .slice a ps.length c := own_sl ho
  subst e2
  have H2 : Hid (Br w u2 ([] ++ [iRow (.slice a2 ps.length d2) ps]) B I L a c zs k2) := H1.out.row hg ho
  have R2 : Hid (manyR (numR zs 1) m1 k1 = some (ps, k2)) := hr
  clear hr hg ho H1
  go_wp2
  go_ret
  exact .inl ⟨ps, _, k2, rfl, then_some R1.out R2.out, H2.out.sep.own (iRow (.slice a2 ps.length d2) ps) (by simp), H2.out.got⟩
set_option maxHeartbeats 4000000 in
set_option maxRecDepth 100000 in
theorem function_any (B I L : Nat) (a : Option Addr) (c : Nat) (zs : List Int) (k : Nat) (w : World) (h : InR w B I L a c zs k) :
    Calls Tryz.prog 58 #[.pointer (some ⟨I, 0, none⟩)] w (Rds (funcR zs) (fun w' f V => ∃ vf : VF, V = .agg #[vf.p, .int .i64 f.result, vf.l, vf.c] ∧ Sep w' w.heap.size (fItem (f, vf))) w B I L a c zs k) := by
  have H0 : Hid (Br w (w.alloc (.cells #[.slice none 0 0, .int .i64 0, .slice none 0 0, .slice none 0 0] 64)) [fb w.heap.size (.slice none 0 0) 0 (.slice none 0 0) (.slice none 0 0)] B I L a c zs k) := (Br.start h).box 64 4 _ rfl
  have HZ : Hid (AllB zs) := h.hz
  clear h
  go_enter Tryz.func58, Tryz.ntmps58
  go_wp2_with fail
  refine (number_any B I L a c zs 1 k _ (by omega) (by omega) H0.out.got.at_).mono ?_
  rintro e u1 (⟨x1, V, k1, rfl, hr, rfl, hg⟩ | ⟨rfl, hn, hc⟩)
  rotate_left
  · unfold stopE
    go_wp2
    exact ⟨rfl, .inr ⟨rfl, thenR_none (thenR_none hn), H0.out.got.chg.on hc⟩⟩
  have H1 : Hid (Br w u1 [fb w.heap.size (.slice none 0 0) 0 (.slice none 0 0) (.slice none 0 0)] B I L a c zs k1) := H0.out.read hg
  have R1 : Hid (numR zs 1 k = some (x1, k1)) := hr
  obtain ⟨p1, p1'⟩ := num_bdR HZ.out (by omega) hr
  obtain ⟨m1, rfl⟩ := Int.eq_ofNat_of_zero_le p1
  have hm1 : m1 ≤ 65535 := by omega
  clear hr hg H0
  go_wp2_with fail
  refine (listInt_any B I L a c zs m1 k1 _ (by omega) H1.out.got.at_).mono ?_
  rintro e u2 (⟨ps, V2, k2, rfl, hr, ho, hg⟩ | ⟨rfl, hn, hc⟩)
  rotate_left
  · unfold stopE
    go_wp2
    exact ⟨rfl, .inr ⟨rfl, (thenR_none (then_some R1.out hn)), H1.out.got.chg.on hc⟩⟩
  obtain ⟨a2, d2, e2⟩ : ∃ a c, V2 = .slice a ps.length c := own_sl ho
  subst e2
  have H2 : Hid (Br w u2 ([fb w.heap.size (.slice none 0 0) 0 (.slice none 0 0) (.slice none 0 0)] ++ [iRow (.slice a2 ps.length d2) ps]) B I L a c zs k2) := H1.out.row hg ho
  have R2 : Hid (manyR (numR zs 1) m1 k1 = some (ps, k2)) := hr
  clear hr hg ho H1
  go_wp2_with fail
  refine (typeByte_any B I L a c zs k2 _ H2.out.got.at_).mono ?_
  rintro e u3 (⟨x3, V, k3, rfl, hr, rfl, hg⟩ | ⟨rfl, hn, hc⟩)
  rotate_left
  · unfold stopE
    go_wp2
    exact ⟨rfl, .inr ⟨rfl, (then_some (r := typesR zs 1) (then_some R1.out R2.out) (thenR_none hn)), H2.out.got.chg.on hc⟩⟩
  have H3 : Hid (Br w u3 [fb w.heap.size (.slice none 0 0) 0 (.slice none 0 0) (.slice none 0 0), iRow (.slice a2 ps.length d2) ps] B I L a c zs k3) := H2.out.read hg
  have R3 : Hid (numR zs 1 k2 = some (x3, k3)) := hr
  clear hr hg H2
  go_wp2_with fail
  refine (number_any B I L a c zs 1 k3 _ (by omega) (by omega) H3.out.got.at_).mono ?_
  rintro e u4 (⟨x4, V, k4, rfl, hr, rfl, hg⟩ | ⟨rfl, hn, hc⟩)
  rotate_left
  · unfold stopE
    go_wp2
    exact ⟨rfl, .inr ⟨rfl, (then_some (r := typesR zs 1) (then_some R1.out R2.out) (then_some R3.out (thenR_none (thenR_none hn)))), H3.out.got.chg.on hc⟩⟩
  have H4 : Hid (Br w u4 [fb w.heap.size (.slice none 0 0) 0 (.slice none 0 0) (.slice none 0 0), iRow (.slice a2 ps.length d2) ps] B I L a c zs k4) := H3.out.read hg
  have R4 : Hid (numR zs 1 k3 = some (x4, k4)) := hr
  obtain ⟨p4, p4'⟩ := num_bdR HZ.out (by omega) hr
  obtain ⟨m4, rfl⟩ := Int.eq_ofNat_of_zero_le p4
  have hm4 : m4 ≤ 65535 := by omega
  clear hr hg H3
  go_wp2_with fail
  refine (listInt_any B I L a c zs m4 k4 _ (by omega) H4.out.got.at_).mono ?_
  rintro e u5 (⟨ls, V5, k5, rfl, hr, ho, hg⟩ | ⟨rfl, hn, hc⟩)
  rotate_left
  · unfold stopE
    go_wp2
    exact ⟨rfl, .inr ⟨rfl, (then_some (r := typesR zs 1) (then_some R1.out R2.out) (then_some R3.out (thenR_none (then_some R4.out hn)))), H4.out.got.chg.on hc⟩⟩
  obtain ⟨a5, d5, e5⟩ : ∃ a c, V5 = .slice a ls.length c := own_sl ho
  subst e5
  have H5 : Hid (Br w u5 ([fb w.heap.size (.slice none 0 0) 0 (.slice none 0 0) (.slice none 0 0), iRow (.slice a2 ps.length d2) ps] ++ [iRow (.slice a5 ls.length d5) ls]) B I L a c zs k5) := H4.out.row hg ho
  have R5 : Hid (manyR (numR zs 1) m4 k4 = some (ls, k5)) := hr
  clear hr hg ho H4
  go_wp2_with fail
  refine (number_any B I L a c zs 2 k5 _ (by omega) (by omega) H5.out.got.at_).mono ?_
  rintro e u6 (⟨x6, V, k6, rfl, hr, rfl, hg⟩ | ⟨rfl, hn, hc⟩)
  rotate_left
  · unfold stopE
    go_wp2
    exact ⟨rfl, .inr ⟨rfl, (then_some (r := typesR zs 1) (then_some R1.out R2.out) (then_some R3.out (then_some (r := typesR zs 1) (then_some R4.out R5.out) (thenR_none (thenR_none hn))))), H5.out.got.chg.on hc⟩⟩
  have H6 : Hid (Br w u6 [fb w.heap.size (.slice none 0 0) 0 (.slice none 0 0) (.slice none 0 0), iRow (.slice a2 ps.length d2) ps, iRow (.slice a5 ls.length d5) ls] B I L a c zs k6) := H5.out.read hg
  have R6 : Hid (numR zs 2 k5 = some (x6, k6)) := hr
  obtain ⟨p6, p6'⟩ := num_bdR HZ.out (by omega) hr
  obtain ⟨m6, rfl⟩ := Int.eq_ofNat_of_zero_le p6
  have hm6 : m6 ≤ 65535 := by omega
  clear hr hg H5
  go_wp2_with fail
  refine (listInstr_any B I L a c zs m6 k6 _ (by omega) H6.out.got.at_).mono ?_
  rintro e u7 (⟨code, V7, k7, rfl, hr, ho, hg⟩ | ⟨rfl, hn, hc⟩)
  rotate_left
  · unfold stopE
    go_wp2
    exact ⟨rfl, .inr ⟨rfl, (then_some (r := typesR zs 1) (then_some R1.out R2.out) (then_some R3.out (then_some (r := typesR zs 1) (then_some R4.out R5.out) (thenR_none (then_some R6.out hn))))), H6.out.got.chg.on hc⟩⟩
  obtain ⟨a7, d7, e7⟩ : ∃ a c, V7 = .slice a code.length c := own_sl ho
  subst e7
  have H7 : Hid (Br w u7 ([fb w.heap.size (.slice none 0 0) 0 (.slice none 0 0) (.slice none 0 0), iRow (.slice a2 ps.length d2) ps, iRow (.slice a5 ls.length d5) ls] ++ [nRow (.slice a7 code.length d7) code]) B I L a c zs k7) := H6.out.row hg ho
  have R7 : Hid (manyR (instrR zs) m6 k6 = some (code, k7)) := hr
  clear hr hg ho H6
  obtain ⟨⟨q0, q1, q2, q3⟩, f0, f1, f2, f3⟩ := H7.out.four (show fb w.heap.size (.slice none 0 0) 0 (.slice none 0 0) (.slice none 0 0) ∈ _ by simp)
  go_wp2
  have HF : Hid (Br w ((((u7.setCell ⟨w.heap.size, 0, none⟩ (.slice a2 ps.length d2)).setCell ⟨w.heap.size, 1, none⟩ (.int .i64 x3)).setCell ⟨w.heap.size, 2, none⟩ (.slice a5 ls.length d5)).setCell ⟨w.heap.size, 3, none⟩ (.slice a7 code.length d7)) [fb w.heap.size (.slice a2 ps.length d2) x3 (.slice a5 ls.length d5) (.slice a7 code.length d7), iRow (.slice a2 ps.length d2) ps, iRow (.slice a5 ls.length d5) ls, nRow (.slice a7 code.length d7) code] B I L a c zs k7) := H7.out.four_set (.slice a2 ps.length d2) (.int .i64 x3) (.slice a5 ls.length d5) (.slice a7 code.length d7)
  generalize (((u7.setCell ⟨w.heap.size, 0, none⟩ (.slice a2 ps.length d2)).setCell ⟨w.heap.size, 1, none⟩ (.int .i64 x3)).setCell ⟨w.heap.size, 2, none⟩ (.slice a5 ls.length d5)).setCell ⟨w.heap.size, 3, none⟩ (.slice a7 code.length d7) = WF at HF ⊢
  obtain ⟨⟨r0, r1, r2, r3⟩, -⟩ := HF.out.four (show fb w.heap.size (.slice a2 ps.length d2) x3 (.slice a5 ls.length d5) (.slice a7 code.length d7) ∈ _ by simp)
  have HE : Hid (funcR zs k = some (⟨ps, x3, ls, code⟩, k7)) := (then_some (r := typesR zs 1) (then_some R1.out R2.out) (then_some R3.out (then_some (r := typesR zs 1) (then_some R4.out R5.out) (then_some (r := listR zs 2 (instrR zs)) (then_some R6.out R7.out) rfl))))
  exact bodyPost_ret (v := .agg #[.slice a2 ps.length d2, .int .i64 x3, .slice a5 ls.length d5, .slice a7 code.length d7]) (by simp [results, Tryz.results58, go_sem, r0, r1, r2, r3]) rfl (.inl ⟨⟨ps, x3, ls, code⟩, _, k7, rfl, HE.out, ⟨⟨.slice a2 ps.length d2, .slice a5 ls.length d5, .slice a7 code.length d7⟩, rfl, HF.out.sep.sub (List.sublist_cons_self _ _)⟩, HF.out.got⟩)
end Go.Proofs.YtnemieeeappgnaaGreatDoor
