import Derived.Test.YthifelgdkmkdkaaGreatDoorFm33
import Derived.Test.YthifelgdkmkdkaaGreatDoorFm35
import Derived.Laws.AppendOwn
namespace Go.Proofs.YthifelgdkmkdkaaGreatDoor
open Go.ChangeShapes Go.WideShapes Go.ChangeAt Go.RowKit
set_option linter.unusedVariables false
theorem own_grew {w w' : World} {base B : Nat} {e e' : TypeId} {s v : Value} {k k' n m : Nat} {xs bs : List Value} (h : w.ownsRow base e k s n xs) (hg : w.grownBy w' v.ownBlock) (ho : w.ownsRow B e' k' v m bs) (hne : e ≠ e') : w'.ownsRow base e k s n xs := by
  refine ⟨h.1, ?_⟩
  rcases h.2 with h | ⟨g, cap, cur, e1, hb1, hgg, hr⟩
  · exact .inl h
  · have hb : Blk w g cur e := hgg
    exact .inr ⟨g, cap, cur, e1, hb1, hb.grown hg ho hne, hr⟩
theorem lit_cells (w : World) (cs : List Value) (t : TypeId) : ∀ j u, cs[j]? = some u → (w.alloc (.cells cs.toArray t)).cell? ((⟨w.heap.size, 0, none⟩ : Addr).add j) = some u := fun j u hj => by
  rw [add_at, Nat.zero_add, (Blk.new w cs.toArray t).cell j]
  simpa using hj
/-- The blocks of a call of instruction. -/
structure InAt (w u : World) (op a b c : Int) (V : Value) (F : Int) (o : Value) (ns : List Int) : Prop where
  bel : Below w.heap.size w u
  ins : Blk u w.heap.size #[.int .i64 op, .int .i64 a, .int .i64 b, .int .i64 c] 55
  ptrs : u.ownsRow (w.heap.size + 1) 133 1 V (offsL F).length ((offsL F).flatMap (ptrCell w.heap.size))
  nums : u.ownsRow (w.heap.size + 1) 2 1 o ns.length (ns.flatMap intCell)
theorem ints_one (xs : List Int) : ∀ u ∈ xs.flatMap intCell, u.oneCell' = true := by
  intro u hu
  obtain ⟨x, _, hx⟩ := List.mem_flatMap.1 hu
  simp [intCell] at hx
  subst hx
  rfl
theorem offAt_cell (op a b c : Int) (o : Nat) (h : o ≤ 3) : (#[Value.int .i64 op, .int .i64 a, .int .i64 b, .int .i64 c])[o]? = some (.int .i64 (offAt op a b c o)) := by
  have : o = 0 ∨ o = 1 ∨ o = 2 ∨ o = 3 := by omega
  rcases this with rfl | rfl | rfl | rfl <;> rfl
set_option maxHeartbeats 4000000 in
set_option maxRecDepth 100000 in
theorem instruction_any (B b : Nat) (l : List UInt8) (op xa xb xc : Int) (w : World) (h : PAt B w b l) (hB : B ≤ w.heap.size) (ht : PowTab w) (hop : 0 ≤ op ∧ op ≤ 29) (ha : 0 ≤ xa ∧ xa ≤ 9223372036854775807) (hb : 0 ≤ xb ∧ xb ≤ 9223372036854775807) (hc : 0 ≤ xc ∧ xc ≤ 9223372036854775807) (hl : l.length ≤ 1099511627776) :
    Calls Tryz.prog 54 #[.pointer (some ⟨b, 0, none⟩), .agg #[.int .i64 op, .int .i64 xa, .int .i64 xb, .int .i64 xc]] w fun e w' => e = .returned (.tuple #[]) ∧ PAt B w' b (l ++ instrL ⟨op, xa, xb, xc⟩) ∧ Wg B w w' := by
  obtain ⟨j0, hj0, hz0, hz1, hz2⟩ := info_parts info64
  have HG : Hid (PAt B w b l ∧ B ≤ w.heap.size ∧ PowTab w ∧ (0 ≤ op ∧ op ≤ 29) ∧ (0 ≤ xa ∧ xa ≤ 9223372036854775807) ∧ (0 ≤ xb ∧ xb ≤ 9223372036854775807) ∧ (0 ≤ xc ∧ xc ≤ 9223372036854775807)) := ⟨h, hB, ht, hop, ha, hb, hc⟩
  have HB0 : Hid (Blk (w.alloc (.cells #[.int .i64 op, .int .i64 xa, .int .i64 xb, .int .i64 xc] 55)) w.heap.size #[.int .i64 op, .int .i64 xa, .int .i64 xb, .int .i64 xc] 55) := Blk.new _ _ _
  clear h hB ht hop ha hb hc
  go_enter Tryz.func54, Tryz.ntmps54
  go_wp2_with fail
  refine (named_any w.heap.size op xa xb xc _ HG.out.2.2.2.1 HB0.out).mono ?_
  rintro e u1 ⟨V, rfl, hp, b1⟩
  obtain ⟨va, vc, rfl⟩ := (Rd.of_own hp).is_slice
  have hol := offs_le (formOf op)
  have H1 : Hid (InAt w u1 op xa xb xc (.slice va (offsL (formOf op)).length vc) (formOf op) (.slice none 0 0) []) := by
    refine ⟨below_on (below_alloc _ _) (Nat.le_refl _) b1, HB0.out.keep b1, ?_, World.ownsRow_nil _ _ _ _⟩
    have e : (w.alloc (.cells #[.int .i64 op, .int .i64 xa, .int .i64 xb, .int .i64 xc] 55)).heap.size = w.heap.size + 1 := by simp
    rw [e] at hp
    exact hp
  clear hp b1 HB0
  generalize hFF : formOf op = F at *
  have HF : Hid (formOf op = F) := hFF
  clear hFF
  generalize hN : (offsL F).length = n at *
  have HN : Hid ((offsL F).length = n) := hN
  clear hN
  go_wp2
  go_loopw [4, 10] (fun o i wr => ∃ k : Nat, k ≤ n ∧ i = .int .i64 k ∧ Hid (InAt w wr op xa xb xc (.slice va n vc) F o (((offsL F).take k).map (offAt op xa xb xc)))) (fun _ i _ => n - (intOf i).toNat)
  case atStart => exact ⟨0, by omega, rfl, H1.out⟩
  case round =>
    clear H1
    obtain ⟨k, hk, rfl, H1⟩ := hrel
    have hs1 := H1.out.ins.lt
    by_cases hlt : k < n
    · obtain ⟨x, hx⟩ : ∃ x, (offsL F)[k]? = some x := ⟨_, List.getElem?_eq_getElem (by rw [HN.out]; exact hlt)⟩
      have hx3 := offs_in F x (List.mem_of_getElem? hx)
      have HX : Hid (((offsL F).take (k + 1)).map (offAt op xa xb xc) = ((offsL F).take k).map (offAt op xa xb xc) ++ [offAt op xa xb xc x]) := by
        show _ = _
        obtain ⟨hlt', rfl⟩ := List.getElem?_eq_some_iff.1 hx
        rw [List.take_succ_eq_append_getElem hlt', List.map_append]
        rfl
      have HKL : Hid ((((offsL F).take k).map (offAt op xa xb xc)).length = k) := by
        show _ = _
        rw [List.length_map, List.length_take, HN.out]
        omega
      have hpr := Rd.of_own H1.out.ptrs
      rw [HN.out] at hpr
      rcases hpr.2 with ⟨e0, _⟩ | ⟨g, o, c, e1, hc1⟩
      · omega
      · simp only [Value.slice.injEq, true_and] at e1
        obtain ⟨rfl, rfl⟩ := e1
        have i0 := Rd.elem (ptrCell_length w.heap.size) hc1 k x hx 0 _ rfl
        rw [Nat.mul_one, Nat.add_zero] at i0
        have i1 := H1.out.ins.cell x
        rw [offAt_cell op xa xb xc x hx3] at i1
        clear hc1 hx hpr
        generalize offAt op xa xb xc x = y at *
        generalize ((offsL F).take k).map (offAt op xa xb xc) = ns at *
        go_wp2_with (at_builtin; refine wpList_append_own _ rfl _ _ 45 rfl (w.heap.size + 1) 2 j0 (.int .i64 0) 1 8 Tryz.underlying45 hj0 hz0 hz1 hz2 rfl (by decide) _ _ _ rfl (own_keep H1.out.nums (below_alloc _ _) (Nat.le_refl _)) ⟨wr.heap.size, 0, none⟩ 1 1 (intCell y) rfl rfl (lit_cells wr (intCell y) 2) (by intro u hu; simp [intCell] at hu; subst hu; rfl) (by have := HKL.out; unfold maxLen; omega) (by have := HKL.out; omega) (by simp; omega) ?_; intro V' u3 ho hg _; have H2 : Hid (InAt w u3 op xa xb xc (.slice (some ⟨g, o, none⟩) n vc) F V' (ns ++ [y])) := ⟨(below_on H1.out.bel (Nat.le_refl _) (below_alloc _ _)).grown hg (by simp; omega) (fun k hk => by have := ((own_keep H1.out.nums (below_alloc wr (.cells #[.int .i64 y] 2)) (Nat.le_refl _)).lt k hk).1; omega), (H1.out.ins.keep (below_alloc _ _)).grown hg (own_keep H1.out.nums (below_alloc _ _) (Nat.le_refl _)) (by decide), own_grew (own_keep H1.out.ptrs (below_alloc _ _) (Nat.le_refl _)) hg (own_keep H1.out.nums (below_alloc _ _) (Nat.le_refl _)) (by decide), by rw [List.length_append, List.flatMap_append]; simpa [intCell] using ho⟩; clear ho hg)
        go_roundw
        case rel => exact ⟨k + 1, by omega, by go_num, by rw [HX.out]; exact H2.out⟩
        case measure => simp [intOf]; omega
    · have hkn : n = k := by omega
      subst hkn
      have hNS : ((offsL F).take n).map (offAt op xa xb xc) = namedL F xa xb xc := by
        rw [List.take_of_length_le (by rw [HN.out]; exact Nat.le_refl _), ← named_offs]
      rw [hNS] at H1
      clear hNS
      have hnl : (namedL F xa xb xc).length = n := by rw [named_offs F op, List.length_map]; exact HN.out
      have hnr : ∀ y ∈ namedL F xa xb xc, 0 ≤ y ∧ y ≤ 9223372036854775807 := by
        have h1 := HG.out.2.2.2.2.1
        have h2 := HG.out.2.2.2.2.2.1
        have h3 := HG.out.2.2.2.2.2.2
        intro y hy
        unfold namedL at hy
        repeat' split at hy
        all_goals (simp at hy)
        all_goals omega
      have HW : Hid (instrW F xa xb xc = (namedL F xa xb xc).map (if namesT F then tyName else decL)) := rfl
      have HNS : Hid ((namedL F xa xb xc).length = n ∧ ∀ y ∈ namedL F xa xb xc, 0 ≤ y ∧ y ≤ 9223372036854775807) := ⟨hnl, hnr⟩
      clear hnl hnr
      have HIL : Hid ((instrL ⟨op, xa, xb, xc⟩).length ≤ 128 ∧ instrL ⟨op, xa, xb, xc⟩ = lineT (nameOf op) (instrW F xa xb xc)) := by
        refine ⟨?_, by rw [← HF.out]; rfl⟩
        have h1 := nameOf_le op
        have h2 := instrW_le (formOf op) xa xb xc HG.out.2.2.2.2.1.2 HG.out.2.2.2.2.2.1.2 HG.out.2.2.2.2.2.2.2
        rw [instrL, lineT_length]
        show _ + (wordsT (instrW (formOf op) xa xb xc)).length + 1 ≤ 128
        simp only []
        omega
      generalize namedL F xa xb xc = ns at *
      obtain ⟨na, nc, e⟩ := (Rd.of_own H1.out.nums).is_slice
      subst e
      have H1' : Hid (InAt w wr op xa xb xc (.slice va n vc) F (.slice na n nc) ns) := by
        have := H1.out
        rw [HNS.out.1] at this
        exact this
      rw [HNS.out.1]
      clear H1
      go_wp2_with fail
      refine (numerals64_any (.slice na n nc) n ns _ (by omega) (by have := Rd.of_own H1'.out.nums; rw [HNS.out.1] at this; exact this) HNS.out.1 HNS.out.2 (HG.out.2.2.1.keep H1'.out.bel (Nat.le_refl _))).mono ?_
      rintro e u2 ⟨rfl, ho, b2⟩
      have H2 : Hid (Below w.heap.size w u2 ∧ Blk u2 w.heap.size #[.int .i64 op, .int .i64 xa, .int .i64 xb, .int .i64 xc] 55 ∧ u2.ownsRow wr.heap.size 9 1 (.slice (some ⟨wr.heap.size, 0, none⟩) n n) n (ns.flatMap decCell) ∧ Rd u2 1 (.slice na n nc) n (ns.flatMap intCell)) := by
        refine ⟨below_on H1'.out.bel (Nat.le_refl _) b2, H1'.out.ins.keep b2, ho, ?_⟩
        have := (Rd.of_own H1'.out.nums).keep b2 (Nat.le_refl _)
        rw [HNS.out.1] at this
        exact this
      clear ho b2 H1'
      generalize wr.heap.size = Y at *
      have i0 := H2.out.2.1.cell 0
      have i1 := H2.out.2.1.cell 1
      have i2 := H2.out.2.1.cell 2
      have i3 := H2.out.2.1.cell 3
      simp only [List.getElem?_toArray, List.getElem?_cons_zero, List.getElem?_cons_succ] at i0 i1 i2 i3
      go_wp2_with fail
      refine (namesTypes_any op xa xb xc _ HG.out.2.2.2.1).mono ?_
      rintro e u3 ⟨rfl, b3⟩
      have H3 : Hid (Below w.heap.size w u3 ∧ Blk u3 w.heap.size #[.int .i64 op, .int .i64 xa, .int .i64 xb, .int .i64 xc] 55 ∧ u3.ownsRow Y 9 1 (.slice (some ⟨Y, 0, none⟩) n n) n (ns.flatMap decCell) ∧ Rd u3 1 (.slice na n nc) n (ns.flatMap intCell)) := ⟨below_on H2.out.1 (Nat.le_refl _) b3, H2.out.2.1.keep b3, own_keep H2.out.2.2.1 b3 (Nat.le_refl _), H2.out.2.2.2.keep b3 (Nat.le_refl _)⟩
      clear H2 b3 i0 i1 i2 i3
      rw [HF.out]
      cases hnt : namesT F
      · have HIW : Hid (instrW F xa xb xc = ns.map decL) := by
          show _ = _
          rw [HW.out, hnt]
          rfl
        clear hnt HW
        have i0 := H3.out.2.1.cell 0
        simp only [List.getElem?_toArray, List.getElem?_cons_zero] at i0
        obtain ⟨co, hinf⟩ := infoOf_all op
        have hna := info_name
        go_wp2_with fail
        refine (Info_any op _).mono ?_
        rintro e u5 ⟨rfl, b5⟩
        rw [hinf]
        unfold strV
        have H5 : Hid (Below w.heap.size w u5 ∧ u5.ownsRow Y 9 1 (.slice (some ⟨Y, 0, none⟩) n n) n (ns.flatMap decCell)) := ⟨below_on H3.out.1 (Nat.le_refl _) b5, own_keep H3.out.2.2.1 b5 (Nat.le_refl _)⟩
        clear H3 b5 i0 hinf
        go_wp2_with fail
        refine (line_any B b l (nameOf op) _ (instrW F xa xb xc) Y _ (HG.out.1.call H5.out.1) (by rw [HIW.out, List.length_map, ← decCell_flat, HNS.out.1]; exact H5.out.2) (Nat.le_trans HG.out.2.1 H5.out.1.size) (by rw [HIW.out, List.length_map, HNS.out.1]; omega) (by have := HIL.out.1; rw [HIL.out.2] at this; omega)).mono ?_
        rintro e u6 ⟨rfl, hp, hg⟩
        have H6 : Hid (PAt B u6 b (l ++ instrL ⟨op, xa, xb, xc⟩) ∧ Wg B w u6) := ⟨by rw [HIL.out.2]; exact hp, (Wg.of_below H5.out.1 HG.out.2.1).trans hg⟩
        clear hp hg
        go_wp2
        go_end0
        exact ⟨rfl, H6.out⟩
      · have HIW : Hid (instrW F xa xb xc = ns.map tyName) := by
          show _ = _
          rw [HW.out, hnt]
          rfl
        clear hnt HW
        go_wp2_with fail
        refine (typeNames_any (.slice na n nc) n ns _ (by omega) H3.out.2.2.2 HNS.out.1).mono ?_
        rintro e u4 ⟨rfl, ho, b4⟩
        have H4 : Hid (Below w.heap.size w u4 ∧ Blk u4 w.heap.size #[.int .i64 op, .int .i64 xa, .int .i64 xb, .int .i64 xc] 55 ∧ u4.ownsRow u3.heap.size 9 1 (.slice (some ⟨u3.heap.size, 0, none⟩) n n) n (ns.flatMap tyCell)) := ⟨below_on H3.out.1 (Nat.le_refl _) b4, H3.out.2.1.keep b4, ho⟩
        clear H3 b4 ho
        generalize u3.heap.size = Z at *
        have i0 := H4.out.2.1.cell 0
        simp only [List.getElem?_toArray, List.getElem?_cons_zero] at i0
        obtain ⟨co, hinf⟩ := infoOf_all op
        have hna := info_name
        go_wp2_with fail
        refine (Info_any op _).mono ?_
        rintro e u5 ⟨rfl, b5⟩
        rw [hinf]
        unfold strV
        have H5 : Hid (Below w.heap.size w u5 ∧ u5.ownsRow Z 9 1 (.slice (some ⟨Z, 0, none⟩) n n) n (ns.flatMap tyCell)) := ⟨below_on H4.out.1 (Nat.le_refl _) b5, own_keep H4.out.2.2 b5 (Nat.le_refl _)⟩
        clear H4 b5 i0 hinf
        go_wp2_with fail
        refine (line_any B b l (nameOf op) _ (instrW F xa xb xc) Z _ (HG.out.1.call H5.out.1) (by rw [HIW.out, List.length_map, ← tyCell_flat, HNS.out.1]; exact H5.out.2) (Nat.le_trans HG.out.2.1 H5.out.1.size) (by rw [HIW.out, List.length_map, HNS.out.1]; omega) (by have := HIL.out.1; rw [HIL.out.2] at this; omega)).mono ?_
        rintro e u6 ⟨rfl, hp, hg⟩
        have H6 : Hid (PAt B u6 b (l ++ instrL ⟨op, xa, xb, xc⟩) ∧ Wg B w u6) := ⟨by rw [HIL.out.2]; exact hp, (Wg.of_below H5.out.1 HG.out.2.1).trans hg⟩
        clear hp hg
        go_wp2
        go_end0
        exact ⟨rfl, H6.out⟩
end Go.Proofs.YthifelgdkmkdkaaGreatDoor
