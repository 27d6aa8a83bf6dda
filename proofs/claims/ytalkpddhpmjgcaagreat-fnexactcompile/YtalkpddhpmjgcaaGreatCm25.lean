import Derived.Test.YtalkpddhpmjgcaaGreatCm24
namespace Go.Proofs.YtalkpddhpmjgcaaGreat
open Go.ChangeShapes Go.WideShapes Go.ChangeAt Go.RowKit
set_option linter.unusedVariables false
/-- What putAll is asked for. -/
def PaIs (n : Nat) : Prop := ∀ (w u : World) (v : VP) (F : List (List Int × Value)) (G : List (MF × VF)) (C : Nat) (vc : Value) (lev : Nat) (g : Gn) (D : List RowI) (V : Value) (t : TL n) (A : Nat → Prop), IG w u v F G C vc lev g D → RdI w A n V t → allOkT n t → (∀ x ∈ g.consts, x.type = 3) → g.code.length + 5 * sizeT n t ≤ 100000 → g.consts.length + sizeT n t ≤ 100000 → g.certs.length + sizeT n t ≤ 100000 → lev + sizeT n t ≤ 100000 → G.length ≤ 100 → Calls Tryz.prog 53 #[.pointer (some ⟨C, 0, none⟩), V] u (PaRes w F G C lev (genT n (G.length : Int) t lev g) D)
section
variable {w u u' : World} {v : VP} {F : List (List Int × Value)} {G : List (MF × VF)} {C : Nat} {vc : Value} {lev : Nat} {g : Gn} {D : List RowI}
theorem IG.drop_v (h : IG w u v F G C vc lev g D) : ∃ a1 c1 a2 c2 a3 c3 a4 c4, v = ⟨.slice a1 F.length c1, .slice a2 g.consts.length c2, .slice a3 G.length c3, .slice a4 g.certs.length c4⟩ := h.bl.prow.1
end
set_option maxHeartbeats 8000000 in
set_option maxRecDepth 100000 in
theorem mkC_any (n : Nat) (ih : PaIs n) (w u : World) (v : VP) (F : List (List Int × Value)) (G : List (MF × VF)) (C : Nat) (vc : Value) (lev : Nat) (g0 : Gn) (D : List RowI) (A : Nat → Prop) (x : SS (TL n)) (hk : x.k = 2) (vb ve : Value) (h : IG w u v F G C vc lev g0 D) (hrb : RdI w A n vb x.body) (hre : RdI w A n ve x.els) (hob : allOkT n x.body) (hoe : allOkT n x.els) (hty : ∀ x ∈ g0.consts, x.type = 3) (h1 : g0.code.length + 5 * (1 + sizeT n x.body + sizeT n x.els) ≤ 100000) (h2 : g0.consts.length + (1 + sizeT n x.body + sizeT n x.els) ≤ 100000) (h3 : g0.certs.length + (1 + sizeT n x.body + sizeT n x.els) ≤ 100000) (h4 : lev + (1 + sizeT n x.body + sizeT n x.els) ≤ 100000) (h5 : G.length ≤ 100) :
    Calls Tryz.prog 147 #[.agg #[.int .i64 x.a, .int .i64 x.b, vb, ve], .pointer (some ⟨C, 0, none⟩)] u (PaRes w F G C lev (genS n (G.length : Int) (genT n (G.length : Int)) x lev g0) D) := by
  have HI : Hid (PaIs n) := ih
  have HSZ : Hid (g0.code.length + 5 * (1 + sizeT n x.body + sizeT n x.els) ≤ 100000 ∧ g0.consts.length + (1 + sizeT n x.body + sizeT n x.els) ≤ 100000 ∧ g0.certs.length + (1 + sizeT n x.body + sizeT n x.els) ≤ 100000 ∧ lev + (1 + sizeT n x.body + sizeT n x.els) ≤ 100000) := ⟨h1, h2, h3, h4⟩
  have HGL : Hid (G.length ≤ 100) := h5
  have KK : Hid (x.k = 2) := hk
  have hlev : lev ≤ 100000 := by omega
  clear ih h1 h2 h3 h4 hk
  have HB0 : Hid ((g0 = g0 ∧ g0.code.length = g0.code.length) ∧ g0.code.length ≤ g0.code.length + 0 ∧ g0.consts.length = g0.consts.length ∧ g0.certs.length = g0.certs.length ∧ ∀ x ∈ g0.consts, x.type = 3) := ⟨⟨rfl, rfl⟩, by omega, rfl, rfl, hty⟩
  clear hty
  have HX : Hid (RdI w A n vb x.body ∧ RdI w A n ve x.els ∧ allOkT n x.body ∧ allOkT n x.els) := ⟨hrb, hre, hob, hoe⟩
  obtain ⟨ab, cb, eb⟩ := hrb.is_slice
  obtain ⟨ae, ce, ee⟩ := hre.is_slice
  subst eb ee
  clear hrb hre hob hoe
  generalize lenT n x.body = lb at HX ⊢
  generalize lenT n x.els = le at HX ⊢
  have EB : Hid (IG w (u.alloc (.cells #[.int .i64 x.a, .int .i64 x.b, .slice ab lb cb, .slice ae le ce] 135)) v F G C vc lev g0 (D ++ [bRow u.heap.size 135 4 [.int .i64 x.a, .int .i64 x.b, .slice ab lb cb, .slice ae le ce]])) := h.box 135 4 [.int .i64 x.a, .int .i64 x.b, .slice ab lb cb, .slice ae le ce] rfl
  clear h
  go_enter Tryz.func147, Tryz.ntmps147
  go_upto_region 1 with fail
  generalize u.heap.size = X at EB ⊢
  generalize hDD : D ++ [bRow X 135 4 [.int .i64 x.a, .int .i64 x.b, .slice ab lb cb, .slice ae le ce]] = DD at EB
  have HC : Hid (∀ (u' : World) (v' : VP) (vc' : Value) (g' : Gn), IG w u' v' F G C vc' lev g' DD → (u'.cell? ⟨X, 0, none⟩ = some (.int .i64 x.a) ∧ u'.cell? ⟨X, 1, none⟩ = some (.int .i64 x.b)) ∧ (u'.cell? ⟨X, 2, none⟩ = some (.slice ab lb cb) ∧ u'.cell? ⟨X, 3, none⟩ = some (.slice ae le ce)) ∧ IG w u' v' F G C vc' lev g' D) := fun u' v' vc' g' hh => by
    rw [← hDD] at hh
    exact ⟨⟨hh.bcell 0 (by omega), hh.bcell 1 (by omega)⟩, ⟨hh.bcell 2 (by omega), hh.bcell 3 (by omega)⟩, hh.unbox⟩
  clear hDD
  refine wp_world (fun U => Hid (IG w U v F G C vc lev g0 DD)) EB ?_
  clear EB
  rintro U EB
  have ED : Hid (IG w U.drew v F G C vc lev g0 DD) := EB.out.keep (below_drew1 _)
  refine wp_region_held_drew (S := fun W => W.cell? ⟨X, 0, none⟩ = some (.int .i64 x.a) ∧ W.cell? ⟨X, 1, none⟩ = some (.int .i64 x.b)) (by kernel_rfl) (by exact (HC.out _ _ _ _ ED.out).1) (fun hHeld => ?_)
  clear EB
  generalize U.drew = UD at ED hHeld ⊢
  refine wpAnyH_take (i := 0) (v := ?_) rfl (by kernel_rfl) (by kernel_rfl) (by kernel_rfl) (fun _ _ _ h => h) (Or.inl ⟨by rfl, ?_⟩) (by assumption) ?_
  rotate_left
  · (intro w hSw; (try dsimp only at hSw); (try obtain ⟨hSa, hSb, hSc, hSd⟩ := hSw); (try obtain ⟨hSa, hSb, hSc⟩ := hSw); (try obtain ⟨hSa, hSb⟩ := hSw); go_simp; (try with_reducible rfl))
  refine wpAnyH_take (i := 1) (v := ?_) rfl (by kernel_rfl) (by kernel_rfl) (by kernel_rfl) (fun _ _ _ h => h) (Or.inl ⟨by rfl, ?_⟩) (by assumption) ?_
  rotate_left
  · (intro w hSw; (try dsimp only at hSw); (try obtain ⟨hSa, hSb, hSc, hSd⟩ := hSw); (try obtain ⟨hSa, hSb, hSc⟩ := hSw); (try obtain ⟨hSa, hSb⟩ := hSw); go_simp; (try with_reducible rfl))
  refine wpAnyH_take (i := 2) (v := ?_) rfl (by kernel_rfl) (by kernel_rfl) (by kernel_rfl) (fun _ _ _ h => h) (Or.inl ⟨by rfl, ?_⟩) (by assumption) ?_
  rotate_left
  · (intro w hSw; (try dsimp only at hSw); (try obtain ⟨hSa, hSb, hSc, hSd⟩ := hSw); (try obtain ⟨hSa, hSb, hSc⟩ := hSw); (try obtain ⟨hSa, hSb⟩ := hSw); go_simp; (try with_reducible rfl))
  refine wpAnyH_take (i := 4) (v := ?_) rfl (by kernel_rfl) (by kernel_rfl) (by kernel_rfl) (fun _ _ _ h => h) (Or.inl ⟨by rfl, ?_⟩) (by assumption) ?_
  rotate_left
  · (intro w hSw; (try dsimp only at hSw); (try obtain ⟨hSa, hSb, hSc, hSd⟩ := hSw); (try obtain ⟨hSa, hSb, hSc⟩ := hSw); (try obtain ⟨hSa, hSb⟩ := hSw); go_simp; (try with_reducible rfl))
  refine wpAnyH_take (i := 5) (v := ?_) rfl (by kernel_rfl) (by kernel_rfl) (by kernel_rfl) (fun _ _ _ h => h) (Or.inl ⟨by rfl, ?_⟩) (by assumption) ?_
  rotate_left
  · (intro w hSw; (try dsimp only at hSw); (try obtain ⟨hSa, hSb, hSc, hSd⟩ := hSw); (try obtain ⟨hSa, hSb, hSc⟩ := hSw); (try obtain ⟨hSa, hSb⟩ := hSw); go_simp; (try with_reducible rfl))
  refine wpAnyH_take (i := 7) (v := ?_) rfl (by kernel_rfl) (by kernel_rfl) (by kernel_rfl) (fun _ _ _ h => h) (Or.inl ⟨by rfl, ?_⟩) (by assumption) ?_
  rotate_left
  · (intro w hSw; (try dsimp only at hSw); (try obtain ⟨hSa, hSb, hSc, hSd⟩ := hSw); (try obtain ⟨hSa, hSb, hSc⟩ := hSw); (try obtain ⟨hSa, hSb⟩ := hSw); go_simp; (try with_reducible rfl))
  refine wpAnyH_ready (rs := [3]) (by kernel_rfl) (by simp) ?_
  refine AllReadyH.cons rfl (fun KC hKC => ?_) AllReadyH.nil
  go_simp
  refine (loadOf_any _ _).mono ?_
  rintro e UD ⟨rfl, bi⟩
  have E1 : Hid (IG w UD v F G C vc lev g0 DD) := ED.out.keep bi
  clear ED bi
  have ED := E1
  clear E1
  refine hKC.out _ _ (by exact (HC.out _ _ _ _ ED.out).1) (fun hHeld => ?_)
  clear hKC KC
  refine wpAnyH_ready (rs := [6]) (by kernel_rfl) (by simp) ?_
  refine AllReadyH.cons rfl (fun KC hKC => ?_) AllReadyH.nil
  go_simp
  refine (loadOf_any _ _).mono ?_
  rintro e UD ⟨rfl, bi⟩
  have E1 : Hid (IG w UD v F G C vc lev g0 DD) := ED.out.keep bi
  clear ED bi
  have ED := E1
  clear E1
  refine hKC.out _ _ (by exact (HC.out _ _ _ _ ED.out).1) (fun hHeld => ?_)
  clear hKC KC
  refine wpAnyH_ready (rs := [8]) (by kernel_rfl) (by simp) ?_
  refine AllReadyH.cons rfl (fun KC hKC => ?_) AllReadyH.nil
  go_simp
  have EA : Hid (IG w (UD.alloc (.cells #[.int .i64 4, .int .i64 2, .int .i64 x.a, .int .i64 0, .int .i64 4, .int .i64 2, .int .i64 x.b, .int .i64 0, .int .i64 21, .int .i64 3, .int .i64 0, .int .i64 0] 92)) v F G C vc lev g0 DD ∧ ∀ j y, (([ldK x.a, ldK x.b, ⟨21, 3, 0, 0⟩] : List MI).flatMap MI.cells)[j]? = some y → (UD.alloc (.cells #[.int .i64 4, .int .i64 2, .int .i64 x.a, .int .i64 0, .int .i64 4, .int .i64 2, .int .i64 x.b, .int .i64 0, .int .i64 21, .int .i64 3, .int .i64 0, .int .i64 0] 92)).cell? ((⟨UD.heap.size, 0, none⟩ : Addr).add j) = some y) := ⟨ED.out.keep (below_alloc _ _), lit_at UD (([ldK x.a, ldK x.b, ⟨21, 3, 0, 0⟩] : List MI).flatMap MI.cells) 92⟩
  clear ED
  refine hKC.out _ _ (by exact (HC.out _ _ _ _ EA.out.1).1) (fun hHeld => ?_)
  clear hKC KC
  refine wpAnyH_ready (rs := [9]) (by kernel_rfl) (by simp) ?_
  refine AllReadyH.cons rfl (fun KC hKC => ?_) AllReadyH.nil
  go_simp
  refine (put_any w _ v F G C vc lev g0 DD [ldK x.a, ldK x.b, ⟨21, 3, 0, 0⟩] UD.heap.size 3 (by simp) (by simp) EA.out.2 EA.out.1 (by have := HSZ.out; omega)).mono ?_
  rintro e U1 ⟨rfl, vc1, hh⟩
  have E9 : Hid (IG w U1 v F G C vc1 lev (g0.put [ldK x.a, ldK x.b, ⟨21, 3, 0, 0⟩]) DD) := hh
  clear hh EA
  refine hKC.out _ _ (by exact (HC.out _ _ _ _ E9.out).1) (fun hHeld => ?_)
  clear hKC KC
  refine wpAnyH_done (by kernel_rfl) ?_ _
  clear hHeld
  have hh := E9.out
  clear E9
  have E0 := trivial
  generalize hgg : g0.put [ldK x.a, ldK x.b, ⟨21, 3, 0, 0⟩] = g1 at hh
  have HB1 : Hid ((g0.put [ldK x.a, ldK x.b, ⟨21, 3, 0, 0⟩] = g1 ∧ g1.code.length = g0.code.length + 3) ∧ g1.code.length ≤ g0.code.length + 3 ∧ g1.consts.length = g0.consts.length ∧ g1.certs.length = g0.certs.length ∧ ∀ x ∈ g1.consts, x.type = 3) := by
    have hb := HB0.out
    have hc : g1.code.length = g0.code.length + 3 := by rw [← hgg, Gn.put_len]; rfl
    exact ⟨⟨hgg, hc⟩, by omega, by rw [← hgg]; rfl, by rw [← hgg]; rfl, by rw [← hgg]; exact hb.2.2.2.2⟩
  have E1 : Hid (IG w U1 v F G C vc1 lev g1 DD) := hh
  clear hgg hh E0
  obtain ⟨_, ⟨x2, x3⟩, _⟩ := HC.out _ _ _ _ E1.out
  go_wp2_with fail
  refine (putOpen_any w U1 v F G C vc1 lev g1 DD 26 0 0 0 E1.out (by have := HB1.out; have := HSZ.out; omega)).mono ?_
  rintro e U2 ⟨rfl, vc2, hh⟩
  generalize hgg : g1.put [⟨26, 0, 0, 0⟩] = g2 at hh
  have HB2 : Hid ((g1.put [⟨26, 0, 0, 0⟩] = g2 ∧ g2.code.length = g1.code.length + 1) ∧ g2.code.length ≤ g0.code.length + 4 ∧ g2.consts.length = g1.consts.length ∧ g2.certs.length = g1.certs.length ∧ ∀ x ∈ g2.consts, x.type = 3) := by
    have hb := HB1.out
    have hc : g2.code.length = g1.code.length + 1 := by rw [← hgg, Gn.put_len]; rfl
    exact ⟨⟨hgg, hc⟩, by omega, by rw [← hgg]; rfl, by rw [← hgg]; rfl, by rw [← hgg]; exact hb.2.2.2.2⟩
  have E2 : Hid (IG w U2 v F G C vc2 lev g2 DD) := hh
  clear hgg hh E1
  clear x2 x3
  obtain ⟨_, ⟨x2, x3⟩, _⟩ := HC.out _ _ _ _ E2.out
  generalize hno : g1.code.length = no
  have HNO : Hid (g1.code.length = no) := hno
  clear hno
  go_wp2_with fail
  refine (HI.out w U2 v F G C vc2 lev g2 DD (.slice ab lb cb) x.body A E2.out HX.out.1 HX.out.2.2.1 HB2.out.2.2.2.2 (by have := HB1.out; have := HB2.out; have := HSZ.out; omega) (by have := HB1.out; have := HB2.out; have := HSZ.out; omega) (by have := HB1.out; have := HB2.out; have := HSZ.out; omega) (by have := HSZ.out; omega) HGL.out).mono ?_
  rintro e U3 ⟨rfl, v1, vc3, hh⟩
  have hle := genT_le n (G.length : Int) x.body lev g2
  have hge := genT_len n (G.length : Int) x.body lev g2
  have hty := genT_ty n (G.length : Int) x.body lev g2 HB2.out.2.2.2.2
  generalize hgg : genT n (G.length : Int) x.body lev g2 = g3 at hh hle hge hty
  have HB3 : Hid ((genT n (G.length : Int) x.body lev g2 = g3 ∧ g2.code.length ≤ g3.code.length) ∧ g3.code.length ≤ g0.code.length + (4 + 5 * sizeT n x.body) ∧ g3.consts.length ≤ g0.consts.length + sizeT n x.body ∧ g3.certs.length ≤ g0.certs.length + sizeT n x.body ∧ ∀ x ∈ g3.consts, x.type = 3) := by
    have hb1 := HB1.out
    have hb2 := HB2.out
    have h1 := hle.code
    have h2 := hle.consts
    have h3 := hle.certs
    exact ⟨⟨hgg, hge⟩, by omega, by omega, by omega, hty⟩
  have E3 : Hid (IG w U3 v1 F G C vc3 lev g3 DD) := hh
  clear hgg hh hle hge hty E2
  clear x2 x3
  obtain ⟨_, ⟨x2, x3⟩, _⟩ := HC.out _ _ _ _ E3.out
  go_wp2_with fail
  refine (putOpen_any w U3 v1 F G C vc3 lev g3 DD 25 0 0 0 E3.out (by have := HB3.out; have := HSZ.out; omega)).mono ?_
  rintro e U4 ⟨rfl, vc4, hh⟩
  generalize hgg : g3.put [⟨25, 0, 0, 0⟩] = g4 at hh
  have HB4 : Hid ((g3.put [⟨25, 0, 0, 0⟩] = g4 ∧ g4.code.length = g3.code.length + 1) ∧ g4.code.length ≤ g0.code.length + (5 + 5 * sizeT n x.body) ∧ g4.consts.length = g3.consts.length ∧ g4.certs.length = g3.certs.length ∧ ∀ x ∈ g4.consts, x.type = 3) := by
    have hb := HB3.out
    have hc : g4.code.length = g3.code.length + 1 := by rw [← hgg, Gn.put_len]; rfl
    exact ⟨⟨hgg, hc⟩, by omega, by rw [← hgg]; rfl, by rw [← hgg]; rfl, by rw [← hgg]; exact hb.2.2.2.2⟩
  have E4 : Hid (IG w U4 v1 F G C vc4 lev g4 DD) := hh
  clear hgg hh E3
  clear x2 x3
  obtain ⟨_, ⟨x2, x3⟩, _⟩ := HC.out _ _ _ _ E4.out
  generalize hen : g3.code.length = en
  have HEN : Hid (g3.code.length = en) := hen
  clear hen
  go_wp2_with fail
  refine (land_any w U4 v1 F G C vc4 lev g4 DD no E4.out (by have a := HNO.out; have b := HB2.out.1.2; have c := HB3.out.1.2; have d := HB4.out.1.2; omega) (by have := HB4.out; have := HSZ.out; omega)).mono ?_
  rintro e U5 ⟨rfl, hh⟩
  have hll := Gn.land_len g4 no
  generalize hgg : g4.land no = g5 at hh hll
  have HB5 : Hid ((g4.land no = g5 ∧ g5.code.length = g4.code.length) ∧ g5.code.length ≤ g0.code.length + (5 + 5 * sizeT n x.body) ∧ g5.consts.length = g4.consts.length ∧ g5.certs.length = g4.certs.length ∧ ∀ x ∈ g5.consts, x.type = 3) := by
    have hb := HB4.out
    exact ⟨⟨hgg, hll⟩, by omega, by rw [← hgg]; rfl, by rw [← hgg]; rfl, by rw [← hgg]; exact hb.2.2.2.2⟩
  have E5 : Hid (IG w U5 v1 F G C vc4 lev g5 DD) := hh
  clear hgg hh hll E4
  generalize hvc5 : vc4 = vc5 at E5
  clear hvc5
  clear x2 x3
  obtain ⟨_, ⟨x2, x3⟩, _⟩ := HC.out _ _ _ _ E5.out
  go_wp2_with fail
  refine (HI.out w U5 v1 F G C vc5 lev g5 DD (.slice ae le ce) x.els A E5.out HX.out.2.1 HX.out.2.2.2 HB5.out.2.2.2.2 (by have := HB3.out; have := HB4.out; have := HB5.out; have := HSZ.out; omega) (by have := HB3.out; have := HB4.out; have := HB5.out; have := HSZ.out; omega) (by have := HB3.out; have := HB4.out; have := HB5.out; have := HSZ.out; omega) (by have := HSZ.out; omega) HGL.out).mono ?_
  rintro e U6 ⟨rfl, v2, vc6, hh⟩
  have hle := genT_le n (G.length : Int) x.els lev g5
  have hge := genT_len n (G.length : Int) x.els lev g5
  have hty := genT_ty n (G.length : Int) x.els lev g5 HB5.out.2.2.2.2
  generalize hgg : genT n (G.length : Int) x.els lev g5 = g6 at hh hle hge hty
  have HB6 : Hid ((genT n (G.length : Int) x.els lev g5 = g6 ∧ g5.code.length ≤ g6.code.length) ∧ g6.code.length ≤ g0.code.length + (5 + 5 * sizeT n x.body + 5 * sizeT n x.els) ∧ g6.consts.length ≤ g0.consts.length + (sizeT n x.body + sizeT n x.els) ∧ g6.certs.length ≤ g0.certs.length + (sizeT n x.body + sizeT n x.els) ∧ ∀ x ∈ g6.consts, x.type = 3) := by
    have hb3 := HB3.out
    have hb4 := HB4.out
    have hb5 := HB5.out
    have h1 := hle.code
    have h2 := hle.consts
    have h3 := hle.certs
    exact ⟨⟨hgg, hge⟩, by omega, by omega, by omega, hty⟩
  have E6 : Hid (IG w U6 v2 F G C vc6 lev g6 DD) := hh
  clear hgg hh hle hge hty E5
  clear x2 x3
  obtain ⟨_, ⟨x2, x3⟩, _⟩ := HC.out _ _ _ _ E6.out
  go_wp2_with fail
  refine (land_any w U6 v2 F G C vc6 lev g6 DD en E6.out (by have a := HEN.out; have c := HB4.out.1.2; have c7 := HB5.out.1.2; have d := HB6.out.1.2; omega) (by have := HB6.out; have := HSZ.out; omega)).mono ?_
  rintro e U7 ⟨rfl, hh⟩
  have hll := Gn.land_len g6 en
  generalize hgg : g6.land en = g7 at hh hll
  have HB7 : Hid ((g6.land en = g7 ∧ g7.code.length = g6.code.length) ∧ g7.code.length ≤ g0.code.length + (5 + 5 * sizeT n x.body + 5 * sizeT n x.els) ∧ g7.consts.length = g6.consts.length ∧ g7.certs.length = g6.certs.length ∧ ∀ x ∈ g7.consts, x.type = 3) := by
    have hb := HB6.out
    exact ⟨⟨hgg, hll⟩, by omega, by rw [← hgg]; rfl, by rw [← hgg]; rfl, by rw [← hgg]; exact hb.2.2.2.2⟩
  have E7 : Hid (IG w U7 v2 F G C vc6 lev g7 DD) := hh
  clear hgg hh hll E6
  generalize hvc7 : vc6 = vc7 at E7
  clear hvc7
  clear x2 x3
  obtain ⟨_, ⟨x2, x3⟩, _⟩ := HC.out _ _ _ _ E7.out
  go_wp2_with fail
  refine bodyPost_end (v := .tuple #[]) (by kernel_rfl) rfl ?_
  refine ⟨rfl, v2, vc7, ?_⟩
  have e : genS n (G.length : Int) (genT n (G.length : Int)) x lev g0 = g7 := by
    unfold genS
    have hl6 : g4.code.length - 1 = en := by have a := HEN.out; have b := HB4.out.1.2; omega
    have hl3 : g0.code.length + 3 = no := by have a := HNO.out; have b := HB1.out.1.2; omega
    have e4 : g0.put [ldK x.a, ldK x.b, ⟨21, 3, 0, 0⟩, ⟨26, 0, 0, 0⟩] = g2 := by rw [← HB2.out.1.1, ← HB1.out.1.1]; simp [Gn.put_put]
    rw [if_neg (by rw [KK.out]; omega), if_pos KK.out]
    simp only []
    rw [e4, HB3.out.1.1, HB4.out.1.1, hl3, HB5.out.1.1, HB6.out.1.1, hl6, HB7.out.1.1]
  rw [e]
  exact (HC.out _ _ _ _ E7.out).2.2
set_option maxHeartbeats 8000000 in
set_option maxRecDepth 100000 in
theorem mkR_any (n : Nat) (ih : PaIs n) (w u : World) (v : VP) (F : List (List Int × Value)) (G : List (MF × VF)) (C : Nat) (vc : Value) (lev : Nat) (g0 : Gn) (D : List RowI) (A : Nat → Prop) (x : SS (TL n)) (hk : x.k = 3) (hxb : 0 ≤ x.b ∧ x.b < 256) (vb : Value) (h : IG w u v F G C vc lev g0 D) (hrb : RdI w A n vb x.body) (hob : allOkT n x.body) (hty : ∀ x ∈ g0.consts, x.type = 3) (h1 : g0.code.length + 5 * (1 + sizeT n x.body + sizeT n x.els) ≤ 100000) (h2 : g0.consts.length + (1 + sizeT n x.body + sizeT n x.els) ≤ 100000) (h3 : g0.certs.length + (1 + sizeT n x.body + sizeT n x.els) ≤ 100000) (h4 : lev + (1 + sizeT n x.body + sizeT n x.els) ≤ 100000) (h5 : G.length ≤ 100) :
    Calls Tryz.prog 142 #[.agg #[.int .i64 x.b, vb], .pointer (some ⟨C, 0, none⟩)] u (PaRes w F G C lev (genS n (G.length : Int) (genT n (G.length : Int)) x lev g0) D) := by
  obtain ⟨iT, hiT, hT0, hT1, hT2⟩ := info_parts infoT
  have HI : Hid (PaIs n) := ih
  have HSZ : Hid (g0.code.length + 5 * (1 + sizeT n x.body + sizeT n x.els) ≤ 100000 ∧ g0.consts.length + (1 + sizeT n x.body + sizeT n x.els) ≤ 100000 ∧ g0.certs.length + (1 + sizeT n x.body + sizeT n x.els) ≤ 100000 ∧ lev + (1 + sizeT n x.body + sizeT n x.els) ≤ 100000) := ⟨h1, h2, h3, h4⟩
  have HGL : Hid (G.length ≤ 100) := h5
  have KK : Hid (x.k = 3) := hk
  have hlev : lev ≤ 100000 := by omega
  clear ih h1 h2 h3 h4 hk
  have HB0 : Hid ((g0 = g0 ∧ g0.code.length = g0.code.length) ∧ g0.code.length ≤ g0.code.length + 0 ∧ g0.consts.length = g0.consts.length ∧ g0.certs.length = g0.certs.length ∧ ∀ x ∈ g0.consts, x.type = 3) := ⟨⟨rfl, rfl⟩, by omega, rfl, rfl, hty⟩
  clear hty
  have HX : Hid (RdI w A n vb x.body ∧ True ∧ allOkT n x.body ∧ True) := ⟨hrb, trivial, hob, trivial⟩
  obtain ⟨ab, cb, eb⟩ := hrb.is_slice
  subst eb
  clear hrb hob
  generalize lenT n x.body = lb at HX ⊢
  have hwb : IntKind.u32.wrap x.b = x.b := IntWalk.u32_in _ ⟨by omega, by omega⟩
  have EB : Hid (IG w (u.alloc (.cells #[.int .i64 x.b, .slice ab lb cb] 133)) v F G C vc lev g0 (D ++ [bRow u.heap.size 133 2 [.int .i64 x.b, .slice ab lb cb]])) := h.box 133 2 [.int .i64 x.b, .slice ab lb cb] rfl
  clear h
  go_enter Tryz.func142, Tryz.ntmps142
  go_upto_region 1 with fail
  generalize u.heap.size = X at EB ⊢
  generalize hDD : D ++ [bRow X 133 2 [.int .i64 x.b, .slice ab lb cb]] = DD at EB
  have HC : Hid (∀ (u' : World) (v' : VP) (vc' : Value) (l' : Nat) (g' : Gn), IG w u' v' F G C vc' l' g' DD → (u'.cell? ⟨X, 0, none⟩ = some (.int .i64 x.b) ∧ u'.cell? ⟨X, 1, none⟩ = some (.slice ab lb cb)) ∧ IG w u' v' F G C vc' l' g' D) := fun u' v' vc' l' g' hh => by
    rw [← hDD] at hh
    exact ⟨⟨hh.bcell 0 (by omega), hh.bcell 1 (by omega)⟩, hh.unbox⟩
  clear hDD
  refine wp_world (fun U => Hid (IG w U v F G C vc lev g0 DD)) EB ?_
  clear EB
  rintro U EB
  have ED : Hid (IG w U.drew v F G C vc lev g0 DD) := EB.out.keep (below_drew1 _)
  refine wp_region_held_drew (S := fun W => W.cell? ⟨X, 0, none⟩ = some (.int .i64 x.b) ∧ W.cell? ⟨C, 5, none⟩ = some (.int .i64 (lev : Int))) (by kernel_rfl) (by exact ⟨(HC.out _ _ _ _ _ ED.out).1.1, ED.out.cells.2.2.2.2.2⟩) (fun hHeld => ?_)
  clear EB
  generalize U.drew = U0 at ED hHeld ⊢
  refine wpAnyH_take (i := 0) (v := ?_) rfl (by kernel_rfl) (by kernel_rfl) (by kernel_rfl) (fun _ _ _ h => h) (Or.inl ⟨by rfl, ?_⟩) (by assumption) ?_
  rotate_left
  · (intro w hSw; (try dsimp only at hSw); (try obtain ⟨hSa, hSb, hSc, hSd⟩ := hSw); (try obtain ⟨hSa, hSb, hSc⟩ := hSw); (try obtain ⟨hSa, hSb⟩ := hSw); go_simp; (try with_reducible rfl))
  refine wpAnyH_take (i := 1) (v := ?_) rfl (by kernel_rfl) (by kernel_rfl) (by kernel_rfl) (fun _ _ _ h => h) (Or.inl ⟨by rfl, ?_⟩) (by assumption) ?_
  rotate_left
  · (intro w hSw; (try dsimp only at hSw); (try obtain ⟨hSa, hSb, hSc, hSd⟩ := hSw); (try obtain ⟨hSa, hSb, hSc⟩ := hSw); (try obtain ⟨hSa, hSb⟩ := hSw); go_simp; (try with_reducible rfl))
  refine wpAnyH_take (i := 2) (v := ?_) rfl (by kernel_rfl) (by kernel_rfl) (by kernel_rfl) (fun _ _ _ h => h) (Or.inl ⟨by rfl, ?_⟩) (by assumption) ?_
  rotate_left
  · (intro w hSw; (try dsimp only at hSw); (try obtain ⟨hSa, hSb, hSc, hSd⟩ := hSw); (try obtain ⟨hSa, hSb, hSc⟩ := hSw); (try obtain ⟨hSa, hSb⟩ := hSw); go_simp; (try with_reducible rfl))
  refine wpAnyH_take (i := 3) (v := ?_) rfl (by kernel_rfl) (by kernel_rfl) (by kernel_rfl) (fun _ _ _ h => h) (Or.inl ⟨by rfl, ?_⟩) (by assumption) ?_
  rotate_left
  · (intro w hSw; (try dsimp only at hSw); (try obtain ⟨hSa, hSb, hSc, hSd⟩ := hSw); (try obtain ⟨hSa, hSb, hSc⟩ := hSw); (try obtain ⟨hSa, hSb⟩ := hSw); go_simp; (try with_reducible rfl))
  refine wpAnyH_take (i := 4) (v := ?_) rfl (by kernel_rfl) (by kernel_rfl) (by kernel_rfl) (fun _ _ _ h => h) (Or.inl ⟨by rfl, ?_⟩) (by assumption) ?_
  rotate_left
  · (intro w hSw; (try dsimp only at hSw); (try obtain ⟨hSa, hSb, hSc, hSd⟩ := hSw); (try obtain ⟨hSa, hSb, hSc⟩ := hSw); (try obtain ⟨hSa, hSb⟩ := hSw); go_simp; (try with_reducible rfl))
  refine wpAnyH_take (i := 5) (v := ?_) rfl (by kernel_rfl) (by kernel_rfl) (by kernel_rfl) (fun _ _ _ h => h) (Or.inl ⟨by rfl, ?_⟩) (by assumption) ?_
  rotate_left
  · (intro w hSw; (try dsimp only at hSw); (try obtain ⟨hSa, hSb, hSc, hSd⟩ := hSw); (try obtain ⟨hSa, hSb, hSc⟩ := hSw); (try obtain ⟨hSa, hSb⟩ := hSw); go_simp; (try with_reducible rfl))
  refine wpAnyH_take (i := 6) (v := ?_) rfl (by kernel_rfl) (by kernel_rfl) (by kernel_rfl) (fun _ _ _ h => h) (Or.inl ⟨by rfl, ?_⟩) (by assumption) ?_
  rotate_left
  · (intro w hSw; (try dsimp only at hSw); (try obtain ⟨hSa, hSb, hSc, hSd⟩ := hSw); (try obtain ⟨hSa, hSb, hSc⟩ := hSw); (try obtain ⟨hSa, hSb⟩ := hSw); go_simp; (try with_reducible rfl))
  refine wpAnyH_take (i := 7) (v := ?_) rfl (by kernel_rfl) (by kernel_rfl) (by kernel_rfl) (fun _ _ _ h => h) (Or.inl ⟨by rfl, ?_⟩) (by assumption) ?_
  rotate_left
  · (intro w hSw; (try dsimp only at hSw); (try obtain ⟨hSa, hSb, hSc, hSd⟩ := hSw); (try obtain ⟨hSa, hSb, hSc⟩ := hSw); (try obtain ⟨hSa, hSb⟩ := hSw); go_simp; (try with_reducible rfl))
  refine wpAnyH_take (i := 8) (v := ?_) rfl (by kernel_rfl) (by kernel_rfl) (by kernel_rfl) (fun _ _ _ h => h) (Or.inl ⟨by rfl, ?_⟩) (by assumption) ?_
  rotate_left
  · (intro w hSw; (try dsimp only at hSw); (try obtain ⟨hSa, hSb, hSc, hSd⟩ := hSw); (try obtain ⟨hSa, hSb, hSc⟩ := hSw); (try obtain ⟨hSa, hSb⟩ := hSw); go_simp; (try with_reducible rfl))
  refine wpAnyH_done (by kernel_rfl) ?_ _
  clear hHeld
  have E0 : Hid (IG w U0 v F G C vc lev g0 DD) := ED.out
  clear ED
  generalize hvc0 : vc = vc0 at E0
  clear hvc0
  go_wp2_with fail
  refine (constant_any w U0 v F G C vc0 lev g0 DD x.b hxb HB0.out.2.2.2.2 E0.out (by have := HSZ.out; omega)).mono ?_
  rintro e U1 ⟨rfl, v1, hh⟩
  have hcl := cnstL_le g0.consts x.b
  have hci := cnstI_le g0.consts x.b
  have hct := cnstL_ty HB0.out.2.2.2.2 x.b
  generalize hix : cnstI g0.consts x.b = ix at hci
  have HIX : Hid (cnstI g0.consts x.b = ix) := hix
  clear hix
  generalize hgg : (⟨g0.code, cnstL g0.consts x.b, g0.certs⟩ : Gn) = g1 at hh
  have HB1 : Hid (((⟨g0.code, cnstL g0.consts x.b, g0.certs⟩ : Gn) = g1 ∧ g1.code.length = g0.code.length) ∧ g1.code.length ≤ g0.code.length + 0 ∧ g1.consts.length ≤ g0.consts.length + 1 ∧ g1.certs.length = g0.certs.length ∧ ∀ x ∈ g1.consts, x.type = 3) := ⟨⟨hgg, by rw [← hgg]⟩, by rw [← hgg]; exact Nat.le_refl _, by rw [← hgg]; exact hcl, by rw [← hgg], by rw [← hgg]; exact hct⟩
  have E1 : Hid (IG w U1 v1 F G C vc0 lev g1 DD) := hh
  clear hgg hh hcl hct E0
  generalize hvc1 : vc0 = vc1 at E1
  clear hvc1
  obtain ⟨⟨x0, x1⟩, _⟩ := HC.out _ _ _ _ _ E1.out
  go_wp2_with fail
  refine (put_any w _ v1 F G C vc1 lev g1 DD [⟨1, (ix : Int), 0, 0⟩, ⟨3, (lev : Int), 0, 0⟩] U1.heap.size 2 (by simp) (by simp) (lit_at U1 (([⟨1, (ix : Int), 0, 0⟩, ⟨3, (lev : Int), 0, 0⟩] : List MI).flatMap MI.cells) 92) (E1.out.keep (below_alloc _ _)) (by have := HB1.out; have := HSZ.out; omega)).mono ?_
  rintro e U2 ⟨rfl, vc2, hh⟩
  generalize hgg : g1.put [⟨1, (ix : Int), 0, 0⟩, ⟨3, (lev : Int), 0, 0⟩] = g2 at hh
  have HB2 : Hid ((g1.put [⟨1, (ix : Int), 0, 0⟩, ⟨3, (lev : Int), 0, 0⟩] = g2 ∧ g2.code.length = g1.code.length + 2) ∧ g2.code.length ≤ g0.code.length + 2 ∧ g2.consts.length = g1.consts.length ∧ g2.certs.length = g1.certs.length ∧ ∀ x ∈ g2.consts, x.type = 3) := by
    have hb := HB1.out
    have hc : g2.code.length = g1.code.length + 2 := by rw [← hgg, Gn.put_len]; rfl
    exact ⟨⟨hgg, hc⟩, by omega, by rw [← hgg]; rfl, by rw [← hgg]; rfl, by rw [← hgg]; exact hb.2.2.2.2⟩
  have E2 : Hid (IG w U2 v1 F G C vc2 lev g2 DD) := hh
  clear hgg hh E1
  clear x0 x1
  obtain ⟨⟨x0, x1⟩, _⟩ := HC.out _ _ _ _ _ E2.out
  go_wp2_with fail
  refine (putOpen_any w U2 v1 F G C vc2 lev g2 DD 27 ((lev : Int)) 0 0 E2.out (by have := HB2.out; have := HSZ.out; omega)).mono ?_
  rintro e U3 ⟨rfl, vc3, hh⟩
  generalize hgg : g2.put [⟨27, (lev : Int), 0, 0⟩] = g3 at hh
  have HB3 : Hid ((g2.put [⟨27, (lev : Int), 0, 0⟩] = g3 ∧ g3.code.length = g2.code.length + 1) ∧ g3.code.length ≤ g0.code.length + 3 ∧ g3.consts.length = g2.consts.length ∧ g3.certs.length = g2.certs.length ∧ ∀ x ∈ g3.consts, x.type = 3) := by
    have hb := HB2.out
    have hc : g3.code.length = g2.code.length + 1 := by rw [← hgg, Gn.put_len]; rfl
    exact ⟨⟨hgg, hc⟩, by omega, by rw [← hgg]; rfl, by rw [← hgg]; rfl, by rw [← hgg]; exact hb.2.2.2.2⟩
  have E3 : Hid (IG w U3 v1 F G C vc3 lev g3 DD) := hh
  clear hgg hh E2
  clear x0 x1
  obtain ⟨⟨x0, x1⟩, _⟩ := HC.out _ _ _ _ _ E3.out
  generalize hhd : g2.code.length = hd
  have HHD : Hid (g2.code.length = hd) := hhd
  have hhd5 : hd ≤ 100000 := by have := HHD.out; have := HB2.out; have := HSZ.out; omega
  clear hhd
  obtain ⟨⟨b1, d1, b2, d2, b3, d3, b4, d4, ev⟩, _⟩ := E3.out.bl.prow
  subst ev
  have hct : g3.certs.length ≤ 100000 := by have := HB3.out; have := HB2.out; have := HB1.out; have := HSZ.out; omega
  generalize hnt : g3.certs.length = nt at E3 hct
  have HNT : Hid (g3.certs.length = nt) := hnt
  clear hnt
  have hG9 : G.length ≤ 100 := h5
  clear h5
  generalize hgl : G.length = gl at E3 hG9
  have HGG : Hid (G.length = gl) := hgl
  clear hgl
  go_upto_region 4 with fail
  have HD : Hid (IG w U3.drew ⟨.slice b1 F.length d1, .slice b2 g3.consts.length d2, .slice b3 gl d3, .slice b4 nt d4⟩ F G C vc3 lev g3 DD) := E3.out.keep (below_drew1 _)
  refine wp_region_held_drew (S := fun W => W.cell? ⟨C, 2, none⟩ = some (.slice b3 gl d3)) (by kernel_rfl) (by exact HD.out.cells.2.2.1) (fun hHeld => ?_)
  clear x0 x1 E3
  generalize U3.drew = UD at HD hHeld ⊢
  have q1 : UD.cell? ⟨C, 3, none⟩ = some (.slice b4 nt d4) := HD.out.cells.2.2.2.1
  refine wpAnyH_take (i := 0) (v := ?_) rfl (by kernel_rfl) (by kernel_rfl) (by kernel_rfl) (fun _ _ _ h => h) (Or.inl ⟨by rfl, ?_⟩) (by assumption) ?_
  rotate_left
  · (intro w hSw; (try dsimp only at hSw); (try obtain ⟨hSa, hSb, hSc, hSd⟩ := hSw); (try obtain ⟨hSa, hSb, hSc⟩ := hSw); (try obtain ⟨hSa, hSb⟩ := hSw); go_simp; (try with_reducible rfl))
  refine wpAnyH_take (i := 1) (v := ?_) rfl (by kernel_rfl) (by kernel_rfl) (by kernel_rfl) (fun _ _ _ h => h) (Or.inl ⟨by rfl, ?_⟩) (by assumption) ?_
  rotate_left
  · (intro w hSw; (try dsimp only at hSw); (try obtain ⟨hSa, hSb, hSc, hSd⟩ := hSw); (try obtain ⟨hSa, hSb, hSc⟩ := hSw); (try obtain ⟨hSa, hSb⟩ := hSw); go_simp; (try with_reducible rfl))
  refine wpAnyH_take (i := 2) (v := ?_) rfl (by kernel_rfl) (by kernel_rfl) (by kernel_rfl) (fun _ _ _ h => h) (Or.inl ⟨by rfl, ?_⟩) (by assumption) ?_
  rotate_left
  · (intro w hSw; (try dsimp only at hSw); (try obtain ⟨hSa, hSb, hSc, hSd⟩ := hSw); (try obtain ⟨hSa, hSb, hSc⟩ := hSw); (try obtain ⟨hSa, hSb⟩ := hSw); go_simp; (try with_reducible rfl))
  refine wpAnyH_take (i := 3) (v := ?_) rfl (by kernel_rfl) (by kernel_rfl) (by kernel_rfl) (fun _ _ _ h => h) (Or.inl ⟨by rfl, ?_⟩) (by assumption) ?_
  rotate_left
  · (intro w hSw; (try dsimp only at hSw); (try obtain ⟨hSa, hSb, hSc, hSd⟩ := hSw); (try obtain ⟨hSa, hSb, hSc⟩ := hSw); (try obtain ⟨hSa, hSb⟩ := hSw); go_simp; (try with_reducible rfl))
  refine wpAnyH_take (i := 4) (v := ?_) rfl (by kernel_rfl) (by kernel_rfl) (by kernel_rfl) (fun _ _ _ h => h) (Or.inl ⟨by rfl, ?_⟩) (by assumption) ?_
  rotate_left
  · (intro w hSw; (try dsimp only at hSw); (try obtain ⟨hSa, hSb, hSc, hSd⟩ := hSw); (try obtain ⟨hSa, hSb, hSc⟩ := hSw); (try obtain ⟨hSa, hSb⟩ := hSw); go_simp; (try with_reducible rfl))
  refine wpAnyH_take (i := 6) (v := ?_) rfl (by kernel_rfl) (by kernel_rfl) (by kernel_rfl) (fun _ _ _ h => h) (Or.inl ⟨by rfl, ?_⟩) (by assumption) ?_
  rotate_left
  · (intro w hSw; (try dsimp only at hSw); (try obtain ⟨hSa, hSb, hSc, hSd⟩ := hSw); (try obtain ⟨hSa, hSb, hSc⟩ := hSw); (try obtain ⟨hSa, hSb⟩ := hSw); go_simp; (try with_reducible rfl))
  refine wpAnyH_take (i := 7) (v := ?_) rfl (by kernel_rfl) (by kernel_rfl) (by kernel_rfl) (fun _ _ _ h => h) (Or.inl ⟨by rfl, ?_⟩) (by assumption) ?_
  rotate_left
  · (intro w hSw; (try dsimp only at hSw); (try obtain ⟨hSa, hSb, hSc, hSd⟩ := hSw); (try obtain ⟨hSa, hSb, hSc⟩ := hSw); (try obtain ⟨hSa, hSb⟩ := hSw); go_simp; (try with_reducible rfl))
  refine wpAnyH_take (i := 8) (v := ?_) rfl (by kernel_rfl) (by kernel_rfl) (by kernel_rfl) (fun _ _ _ h => h) (Or.inl ⟨by rfl, ?_⟩) (by assumption) ?_
  rotate_left
  · (intro w hSw; (try dsimp only at hSw); (try obtain ⟨hSa, hSb, hSc, hSd⟩ := hSw); (try obtain ⟨hSa, hSb, hSc⟩ := hSw); (try obtain ⟨hSa, hSb⟩ := hSw); go_simp; (try with_reducible rfl))
  refine wpAnyH_take (i := 9) (v := ?_) rfl (by kernel_rfl) (by kernel_rfl) (by kernel_rfl) (fun _ _ _ h => h) (Or.inl ⟨by rfl, ?_⟩) (by assumption) ?_
  rotate_left
  · (intro w hSw; (try dsimp only at hSw); (try obtain ⟨hSa, hSb, hSc, hSd⟩ := hSw); (try obtain ⟨hSa, hSb, hSc⟩ := hSw); (try obtain ⟨hSa, hSb⟩ := hSw); go_simp; (try with_reducible rfl))
  refine wpAnyH_take (i := 10) (v := ?_) rfl (by kernel_rfl) (by kernel_rfl) (by kernel_rfl) (fun _ _ _ h => h) (Or.inl ⟨by rfl, ?_⟩) (by assumption) ?_
  rotate_left
  · (intro w hSw; (try dsimp only at hSw); (try obtain ⟨hSa, hSb, hSc, hSd⟩ := hSw); (try obtain ⟨hSa, hSb, hSc⟩ := hSw); (try obtain ⟨hSa, hSb⟩ := hSw); go_simp; (try with_reducible rfl))
  refine wpAnyH_take (i := 11) (v := ?_) rfl (by kernel_rfl) (by kernel_rfl) (by kernel_rfl) (fun _ _ _ h => h) (Or.inl ⟨by rfl, ?_⟩) (by assumption) ?_
  rotate_left
  · (intro w hSw; (try dsimp only at hSw); (try obtain ⟨hSa, hSb, hSc, hSd⟩ := hSw); (try obtain ⟨hSa, hSb, hSc⟩ := hSw); (try obtain ⟨hSa, hSb⟩ := hSw); go_simp; (try with_reducible rfl))
  refine wpAnyH_take (i := 12) (v := ?_) rfl (by kernel_rfl) (by kernel_rfl) (by kernel_rfl) (fun _ _ _ h => h) (Or.inl ⟨by rfl, ?_⟩) (by assumption) ?_
  rotate_left
  · (intro w hSw; (try dsimp only at hSw); (try obtain ⟨hSa, hSb, hSc, hSd⟩ := hSw); (try obtain ⟨hSa, hSb, hSc⟩ := hSw); (try obtain ⟨hSa, hSb⟩ := hSw); go_simp; (try with_reducible rfl))
  refine wpAnyH_take (i := 13) (v := ?_) rfl (by kernel_rfl) (by kernel_rfl) (by kernel_rfl) (fun _ _ _ h => h) (Or.inl ⟨by rfl, ?_⟩) (by assumption) ?_
  rotate_left
  · (intro w hSw; (try dsimp only at hSw); (try obtain ⟨hSa, hSb, hSc, hSd⟩ := hSw); (try obtain ⟨hSa, hSb, hSc⟩ := hSw); (try obtain ⟨hSa, hSb⟩ := hSw); go_simp; (try with_reducible rfl))
  refine wpAnyH_take (i := 14) (v := ?_) rfl (by kernel_rfl) (by kernel_rfl) (by kernel_rfl) (fun _ _ _ h => h) (Or.inl ⟨by rfl, ?_⟩) (by assumption) ?_
  rotate_left
  · (intro w hSw; (try dsimp only at hSw); (try obtain ⟨hSa, hSb, hSc, hSd⟩ := hSw); (try obtain ⟨hSa, hSb, hSc⟩ := hSw); (try obtain ⟨hSa, hSb⟩ := hSw); go_simp; (try with_reducible rfl))
  refine wpAnyH_take (i := 15) (v := ?_) rfl (by kernel_rfl) (by kernel_rfl) (by kernel_rfl) (fun _ _ _ h => h) (Or.inl ⟨by rfl, ?_⟩) (by assumption) ?_
  rotate_left
  · (intro w hSw; (try dsimp only at hSw); (try obtain ⟨hSa, hSb, hSc, hSd⟩ := hSw); (try obtain ⟨hSa, hSb, hSc⟩ := hSw); (try obtain ⟨hSa, hSb⟩ := hSw); go_simp; (try with_reducible rfl))
  refine wpAnyH_ready (rs := [5, 16]) (by kernel_rfl) (by simp) ?_
  refine AllReadyH.cons rfl (fun KC hKC => ?_) (AllReadyH.cons rfl (fun KC hKC => ?_) AllReadyH.nil)
  focus
    go_simp
    refine hKC.out _ _ (by assumption) (fun hHeld => ?_)
    clear hKC KC
    refine wpAnyH_ready (rs := [16]) (by kernel_rfl) (by simp) ?_
    refine AllReadyH.cons rfl (fun KC hKC => ?_) AllReadyH.nil
    go_simp
    have D3 : Hid (IG w (UD.alloc (.cells #[.int .i64 (gl : Int), .int .i64 (hd : Int), .int .i64 (lev : Int), .int .u32 x.b] 112)) ⟨.slice b1 F.length d1, .slice b2 g3.consts.length d2, .slice b3 gl d3, .slice b4 nt d4⟩ F G C vc3 lev g3 DD) := HD.out.keep (below_alloc _ _)
    have O3 : Hid ((UD.alloc (.cells #[.int .i64 (gl : Int), .int .i64 (hd : Int), .int .i64 (lev : Int), .int .u32 x.b] 112)).ownsRow w.heap.size 112 4 (.slice b4 nt d4) nt (g3.certs.flatMap MT.cells)) := (by have := D3.out.bl.prow.2.2.2.2; rw [HNT.out] at this; exact this)
    have q3 : (UD.alloc (.cells #[.int .i64 (gl : Int), .int .i64 (hd : Int), .int .i64 (lev : Int), .int .u32 x.b] 112)).cell? ⟨C, 3, none⟩ = some (.slice b4 nt d4) := D3.out.cells.2.2.2.1
    refine hKC.out _ _ (by exact D3.out.cells.2.2.1) (fun hHeld => ?_)
    clear hKC KC
    refine wpAnyH_ready (rs := [17]) (by kernel_rfl) (by simp) ?_
    refine AllReadyH.cons rfl (fun KC hKC => ?_) AllReadyH.nil
    refine step_append_lies _ rfl (.tmp 32) (.tmp 43) 29 rfl w.heap.size 112 iT (.agg #[.int .i64 0, .int .i64 0, .int .i64 0, .int .u32 0]) 4 32 Tryz.underlying29 hiT hT0 hT1 hT2 rfl (by decide) (.slice b4 nt d4) nt (g3.certs.flatMap MT.cells) (by simp [Act.eval]) O3.out ⟨UD.heap.size, 0, none⟩ 1 1 [.int .i64 (gl : Int), .int .i64 (hd : Int), .int .i64 (lev : Int), .int .u32 x.b] (by simp [Act.eval]) rfl (lit_at UD [.int .i64 (gl : Int), .int .i64 (hd : Int), .int .i64 (lev : Int), .int .u32 x.b] 112) (by intro u hu; simp at hu; rcases hu with rfl | rfl | rfl | rfl <;> rfl) (by omega) (by unfold maxLen; omega) (by omega) D3.out.bl.size _ rfl ?_
    intro gg cap u8 hown hgrow hat _
    have D4 : Hid _ := D3.out.push_t ⟨(gl : Int), (hd : Int), (lev : Int), x.b⟩ (.slice (some ⟨gg, 0, none⟩) (nt + 1) cap) (by rw [HNT.out]; exact hown) hgrow (hat_of hat)
    have y0 := D4.out.2.1.1
    have y1 := D4.out.2.1.2
    clear hown hgrow hat O3 D3 q1 q3
    refine hKC.out _ _ (by exact D4.out.2.2.1) (fun hHeld => ?_)
    clear hKC KC
    refine wpAnyH_take (i := 18) (v := ?_) rfl (by kernel_rfl) (by kernel_rfl) (by kernel_rfl) (fun _ _ _ h => h) (Or.inl ⟨by rfl, ?_⟩) (by assumption) ?_
    rotate_left
    · (intro w hSw; (try dsimp only at hSw); (try obtain ⟨hSa, hSb, hSc, hSd⟩ := hSw); (try obtain ⟨hSa, hSb, hSc⟩ := hSw); (try obtain ⟨hSa, hSb⟩ := hSw); go_simp; (try with_reducible rfl))
    refine wpAnyH_take (i := 19) (v := ?_) rfl (by kernel_rfl) (by kernel_rfl) (by kernel_rfl) (fun _ _ _ h => h) (Or.inl ⟨by rfl, ?_⟩) (by assumption) ?_
    rotate_left
    · (intro w hSw; (try dsimp only at hSw); (try obtain ⟨hSa, hSb, hSc, hSd⟩ := hSw); (try obtain ⟨hSa, hSb, hSc⟩ := hSw); (try obtain ⟨hSa, hSb⟩ := hSw); go_simp; (try with_reducible rfl))
    refine wpAnyH_take (i := 20) (v := ?_) rfl (by kernel_rfl) (by kernel_rfl) (by kernel_rfl) (fun _ _ _ h => h) (Or.inl ⟨by rfl, ?_⟩) (by assumption) ?_
    rotate_left
    · (intro w hSw; (try dsimp only at hSw); (try obtain ⟨hSa, hSb, hSc, hSd⟩ := hSw); (try obtain ⟨hSa, hSb, hSc⟩ := hSw); (try obtain ⟨hSa, hSb⟩ := hSw); go_simp; (try with_reducible rfl))
    refine wpAnyH_ready (rs := [21]) (by kernel_rfl) (by simp) ?_
    refine AllReadyH.cons rfl (fun KC hKC => ?_) AllReadyH.nil
    go_simp
    refine hKC.out _ _ (by exact D4.out.2.2.2) (fun hHeld => ?_)
    clear hKC KC
    refine wpAnyH_done (by kernel_rfl) ?_ _
    clear hHeld
    have D5 : Hid (IG w (u8.setCell ⟨C, 3, none⟩ (.slice (some ⟨gg, 0, none⟩) (nt + 1) cap)) ⟨.slice b1 F.length d1, .slice b2 g3.consts.length d2, .slice b3 gl d3, (.slice (some ⟨gg, 0, none⟩) (nt + 1) cap)⟩ F G C vc3 lev ⟨g3.code, g3.consts, g3.certs ++ [⟨(gl : Int), (hd : Int), (lev : Int), x.b⟩]⟩ DD) := D4.out.1
    generalize u8.setCell ⟨C, 3, none⟩ (.slice (some ⟨gg, 0, none⟩) (nt + 1) cap) = U4 at D5 ⊢
    clear D4 y0 y1 HD
    generalize hgg : (⟨g3.code, g3.consts, g3.certs ++ [⟨(gl : Int), (hd : Int), (lev : Int), x.b⟩]⟩ : Gn) = g4 at D5
    have HB4 : Hid (((⟨g3.code, g3.consts, g3.certs ++ [⟨(gl : Int), (hd : Int), (lev : Int), x.b⟩]⟩ : Gn) = g4 ∧ g4.code.length = g3.code.length) ∧ g4.code.length ≤ g0.code.length + 3 ∧ g4.consts.length ≤ g0.consts.length + 1 ∧ g4.certs.length ≤ g0.certs.length + 1 ∧ ∀ x ∈ g4.consts, x.type = 3) := by
      have h3 := HB3.out
      have h2 := HB2.out
      have h1 := HB1.out
      have e1 : g4.code.length = g3.code.length := by rw [← hgg]
      have e2 : g4.consts.length = g3.consts.length := by rw [← hgg]
      have e3 : g4.certs.length = g3.certs.length + 1 := by rw [← hgg]; simp
      exact ⟨⟨hgg, e1⟩, by omega, by omega, by omega, by rw [← hgg]; exact h3.2.2.2.2⟩
    generalize hv4 : (⟨.slice b1 F.length d1, .slice b2 g3.consts.length d2, .slice b3 gl d3, (.slice (some ⟨gg, 0, none⟩) (nt + 1) cap)⟩ : VP) = v4 at D5
    clear hv4 hgg
    have E4 : Hid (IG w U4 v4 F G C vc3 lev g4 DD) := D5.out
    clear D5
    generalize hvc4 : vc3 = vc4 at E4
    clear hvc4
    obtain ⟨⟨x0, x1⟩, _⟩ := HC.out _ _ _ _ _ E4.out
    have c5 := E4.out.cells.2.2.2.2.2
    have z5 := E4.out.frozen 5
    go_upto_region 6 with fail
    have E5 : Hid (IG w (U4.setCell ⟨C, 5, none⟩ (.int .i64 ((lev + 1 : Nat) : Int))) v4 F G C vc4 (lev + 1) g4 DD) := E4.out.setLev (lev + 1)
    have e51 : ((lev + 1 : Nat) : Int) = (lev : Int) + 1 := by omega
    rw [e51] at E5
    refine wp_world (fun U => Hid (IG w U v4 F G C vc4 (lev + 1) g4 DD)) (by exact E5) ?_
    clear E5 E4 c5 z5 x0 x1 e51
    rintro U4b E4
    obtain ⟨⟨x0, x1⟩, _⟩ := HC.out _ _ _ _ _ E4.out
    generalize hUU : U4b = U4 at *
    clear hUU
    go_wp2_with fail
    refine (HI.out w U4 v4 F G C vc4 (lev + 1) g4 DD (.slice ab lb cb) x.body A E4.out HX.out.1 HX.out.2.2.1 HB4.out.2.2.2.2 (by have := HB4.out; have := HSZ.out; omega) (by have := HB4.out; have := HSZ.out; omega) (by have := HB4.out; have := HSZ.out; omega) (by have := HSZ.out; omega) HGL.out).mono ?_
    rintro e U5 ⟨rfl, v5, vc5, hh⟩
    have hle := genT_le n (G.length : Int) x.body (lev + 1) g4
    have hge := genT_len n (G.length : Int) x.body (lev + 1) g4
    have hty := genT_ty n (G.length : Int) x.body (lev + 1) g4 HB4.out.2.2.2.2
    generalize hgg : genT n (G.length : Int) x.body (lev + 1) g4 = g5 at hh hle hge hty
    have HB5 : Hid ((genT n (G.length : Int) x.body (lev + 1) g4 = g5 ∧ g4.code.length ≤ g5.code.length) ∧ g5.code.length ≤ g0.code.length + (3 + 5 * sizeT n x.body) ∧ g5.consts.length ≤ g0.consts.length + (1 + sizeT n x.body) ∧ g5.certs.length ≤ g0.certs.length + (1 + sizeT n x.body) ∧ ∀ x ∈ g5.consts, x.type = 3) := by
      have hb4 := HB4.out
      have h1 := hle.code
      have h2 := hle.consts
      have h3 := hle.certs
      exact ⟨⟨hgg, hge⟩, by omega, by omega, by omega, hty⟩
    have E5 : Hid (IG w U5 v5 F G C vc5 (lev + 1) g5 DD) := hh
    clear hgg hh hle hge hty E4
    clear x0 x1
    obtain ⟨⟨x0, x1⟩, _⟩ := HC.out _ _ _ _ _ E5.out
    have c5 := E5.out.cells.2.2.2.2.2
    have z5 := E5.out.frozen 5
    have e52 : ((lev + 1 : Nat) : Int) = (lev : Int) + 1 := by omega
    rw [e52] at c5
    go_upto_region 8 with fail
    have E6 : Hid (IG w (U5.setCell ⟨C, 5, none⟩ (.int .i64 (lev : Int))) v5 F G C vc5 lev g5 DD) := E5.out.setLev lev
    refine wp_world (fun U => Hid (IG w U v5 F G C vc5 lev g5 DD)) (by exact E6) ?_
    clear E6 E5 c5 z5 e52 x0 x1
    rintro U5b E5
    obtain ⟨⟨x0, x1⟩, _⟩ := HC.out _ _ _ _ _ E5.out
    go_wp2_with fail
    refine (put_any w _ v5 F G C vc5 lev g5 DD [⟨25, 0, 0, (hd : Int)⟩] U5b.heap.size 1 (by simp) (by simp) (cells_of U5b ⟨25, 0, 0, (hd : Int)⟩) (E5.out.keep (below_alloc _ _)) (by have := HB5.out; have := HSZ.out; omega)).mono ?_
    rintro e U6 ⟨rfl, vc6, hh⟩
    generalize hgg : g5.put [⟨25, 0, 0, (hd : Int)⟩] = g6 at hh
    have HB6 : Hid ((g5.put [⟨25, 0, 0, (hd : Int)⟩] = g6 ∧ g6.code.length = g5.code.length + 1) ∧ g6.code.length ≤ g0.code.length + (4 + 5 * sizeT n x.body) ∧ g6.consts.length = g5.consts.length ∧ g6.certs.length = g5.certs.length ∧ ∀ x ∈ g6.consts, x.type = 3) := by
      have hb := HB5.out
      have hc : g6.code.length = g5.code.length + 1 := by rw [← hgg, Gn.put_len]; rfl
      exact ⟨⟨hgg, hc⟩, by omega, by rw [← hgg]; rfl, by rw [← hgg]; rfl, by rw [← hgg]; exact hb.2.2.2.2⟩
    have E6 : Hid (IG w U6 v5 F G C vc6 lev g6 DD) := hh
    clear hgg hh E5
    clear x0 x1
    obtain ⟨⟨x0, x1⟩, _⟩ := HC.out _ _ _ _ _ E6.out
    go_wp2_with fail
    refine (land_any w U6 v5 F G C vc6 lev g6 DD hd E6.out (by have a := HHD.out; have b := HB3.out.1.2; have c := HB4.out.1.2; have c6 := HB5.out.1.2; have d := HB6.out.1.2; omega) (by have := HB6.out; have := HSZ.out; omega)).mono ?_
    rintro e U7 ⟨rfl, hh⟩
    have hll := Gn.land_len g6 hd
    generalize hgg : g6.land hd = g7 at hh hll
    have HB7 : Hid ((g6.land hd = g7 ∧ g7.code.length = g6.code.length) ∧ g7.code.length ≤ g0.code.length + (4 + 5 * sizeT n x.body) ∧ g7.consts.length = g6.consts.length ∧ g7.certs.length = g6.certs.length ∧ ∀ x ∈ g7.consts, x.type = 3) := by
      have hb := HB6.out
      exact ⟨⟨hgg, hll⟩, by omega, by rw [← hgg]; rfl, by rw [← hgg]; rfl, by rw [← hgg]; exact hb.2.2.2.2⟩
    have E7 : Hid (IG w U7 v5 F G C vc6 lev g7 DD) := hh
    clear hgg hh hll E6
    generalize hvc7 : vc6 = vc7 at E7
    clear hvc7
    clear x0 x1
    obtain ⟨⟨x0, x1⟩, _⟩ := HC.out _ _ _ _ _ E7.out
    go_wp2_with fail
    refine bodyPost_end (v := .tuple #[]) (by kernel_rfl) rfl ?_
    refine ⟨rfl, v5, vc7, ?_⟩
    have e : genS n (G.length : Int) (genT n (G.length : Int)) x lev g0 = g7 := by
      unfold genS
      have hl2 : g0.code.length + 2 = hd := by have a := HHD.out; have b := HB2.out.1.2; have d := HB1.out.1.2; omega
      have e5 : (⟨g0.code ++ [⟨1, (cnstI g0.consts x.b : Int), 0, 0⟩, ⟨3, (lev : Int), 0, 0⟩, ⟨27, (lev : Int), 0, 0⟩], cnstL g0.consts x.b, g0.certs ++ [⟨(G.length : Int), (hd : Int), (lev : Int), x.b⟩]⟩ : Gn) = g4 := by rw [← HB4.out.1.1, ← HB3.out.1.1, ← HB2.out.1.1, ← HB1.out.1.1, HIX.out, HGG.out]; simp [Gn.put]
      rw [if_neg (by rw [KK.out]; omega), if_neg (by rw [KK.out]; omega), if_pos KK.out]
      simp only [hl2]
      rw [e5, HB5.out.1.1, HB6.out.1.1, HB7.out.1.1]
    rw [e]
    exact (HC.out _ _ _ _ _ E7.out).2
  focus
    go_simp
    have D3 : Hid (IG w (UD.alloc (.cells #[.int .i64 (gl : Int), .int .i64 (hd : Int), .int .i64 (lev : Int), .int .u32 x.b] 112)) ⟨.slice b1 F.length d1, .slice b2 g3.consts.length d2, .slice b3 gl d3, .slice b4 nt d4⟩ F G C vc3 lev g3 DD) := HD.out.keep (below_alloc _ _)
    have O3 : Hid ((UD.alloc (.cells #[.int .i64 (gl : Int), .int .i64 (hd : Int), .int .i64 (lev : Int), .int .u32 x.b] 112)).ownsRow w.heap.size 112 4 (.slice b4 nt d4) nt (g3.certs.flatMap MT.cells)) := (by have := D3.out.bl.prow.2.2.2.2; rw [HNT.out] at this; exact this)
    have q3 : (UD.alloc (.cells #[.int .i64 (gl : Int), .int .i64 (hd : Int), .int .i64 (lev : Int), .int .u32 x.b] 112)).cell? ⟨C, 3, none⟩ = some (.slice b4 nt d4) := D3.out.cells.2.2.2.1
    refine hKC.out _ _ (by exact D3.out.cells.2.2.1) (fun hHeld => ?_)
    clear hKC KC
    refine wpAnyH_ready (rs := [5]) (by kernel_rfl) (by simp) ?_
    refine AllReadyH.cons rfl (fun KC hKC => ?_) AllReadyH.nil
    go_simp
    refine hKC.out _ _ (by assumption) (fun hHeld => ?_)
    clear hKC KC
    refine wpAnyH_ready (rs := [17]) (by kernel_rfl) (by simp) ?_
    refine AllReadyH.cons rfl (fun KC hKC => ?_) AllReadyH.nil
    refine step_append_lies _ rfl (.tmp 32) (.tmp 43) 29 rfl w.heap.size 112 iT (.agg #[.int .i64 0, .int .i64 0, .int .i64 0, .int .u32 0]) 4 32 Tryz.underlying29 hiT hT0 hT1 hT2 rfl (by decide) (.slice b4 nt d4) nt (g3.certs.flatMap MT.cells) (by simp [Act.eval]) O3.out ⟨UD.heap.size, 0, none⟩ 1 1 [.int .i64 (gl : Int), .int .i64 (hd : Int), .int .i64 (lev : Int), .int .u32 x.b] (by simp [Act.eval]) rfl (lit_at UD [.int .i64 (gl : Int), .int .i64 (hd : Int), .int .i64 (lev : Int), .int .u32 x.b] 112) (by intro u hu; simp at hu; rcases hu with rfl | rfl | rfl | rfl <;> rfl) (by omega) (by unfold maxLen; omega) (by omega) D3.out.bl.size _ rfl ?_
    intro gg cap u8 hown hgrow hat _
    have D4 : Hid _ := D3.out.push_t ⟨(gl : Int), (hd : Int), (lev : Int), x.b⟩ (.slice (some ⟨gg, 0, none⟩) (nt + 1) cap) (by rw [HNT.out]; exact hown) hgrow (hat_of hat)
    have y0 := D4.out.2.1.1
    have y1 := D4.out.2.1.2
    clear hown hgrow hat O3 D3 q1 q3
    refine hKC.out _ _ (by exact D4.out.2.2.1) (fun hHeld => ?_)
    clear hKC KC
    refine wpAnyH_take (i := 18) (v := ?_) rfl (by kernel_rfl) (by kernel_rfl) (by kernel_rfl) (fun _ _ _ h => h) (Or.inl ⟨by rfl, ?_⟩) (by assumption) ?_
    rotate_left
    · (intro w hSw; (try dsimp only at hSw); (try obtain ⟨hSa, hSb, hSc, hSd⟩ := hSw); (try obtain ⟨hSa, hSb, hSc⟩ := hSw); (try obtain ⟨hSa, hSb⟩ := hSw); go_simp; (try with_reducible rfl))
    refine wpAnyH_take (i := 19) (v := ?_) rfl (by kernel_rfl) (by kernel_rfl) (by kernel_rfl) (fun _ _ _ h => h) (Or.inl ⟨by rfl, ?_⟩) (by assumption) ?_
    rotate_left
    · (intro w hSw; (try dsimp only at hSw); (try obtain ⟨hSa, hSb, hSc, hSd⟩ := hSw); (try obtain ⟨hSa, hSb, hSc⟩ := hSw); (try obtain ⟨hSa, hSb⟩ := hSw); go_simp; (try with_reducible rfl))
    refine wpAnyH_take (i := 20) (v := ?_) rfl (by kernel_rfl) (by kernel_rfl) (by kernel_rfl) (fun _ _ _ h => h) (Or.inl ⟨by rfl, ?_⟩) (by assumption) ?_
    rotate_left
    · (intro w hSw; (try dsimp only at hSw); (try obtain ⟨hSa, hSb, hSc, hSd⟩ := hSw); (try obtain ⟨hSa, hSb, hSc⟩ := hSw); (try obtain ⟨hSa, hSb⟩ := hSw); go_simp; (try with_reducible rfl))
    refine wpAnyH_ready (rs := [21]) (by kernel_rfl) (by simp) ?_
    refine AllReadyH.cons rfl (fun KC hKC => ?_) AllReadyH.nil
    go_simp
    refine hKC.out _ _ (by exact D4.out.2.2.2) (fun hHeld => ?_)
    clear hKC KC
    refine wpAnyH_done (by kernel_rfl) ?_ _
    clear hHeld
    have D5 : Hid (IG w (u8.setCell ⟨C, 3, none⟩ (.slice (some ⟨gg, 0, none⟩) (nt + 1) cap)) ⟨.slice b1 F.length d1, .slice b2 g3.consts.length d2, .slice b3 gl d3, (.slice (some ⟨gg, 0, none⟩) (nt + 1) cap)⟩ F G C vc3 lev ⟨g3.code, g3.consts, g3.certs ++ [⟨(gl : Int), (hd : Int), (lev : Int), x.b⟩]⟩ DD) := D4.out.1
    generalize u8.setCell ⟨C, 3, none⟩ (.slice (some ⟨gg, 0, none⟩) (nt + 1) cap) = U4 at D5 ⊢
    clear D4 y0 y1 HD
    generalize hgg : (⟨g3.code, g3.consts, g3.certs ++ [⟨(gl : Int), (hd : Int), (lev : Int), x.b⟩]⟩ : Gn) = g4 at D5
    have HB4 : Hid (((⟨g3.code, g3.consts, g3.certs ++ [⟨(gl : Int), (hd : Int), (lev : Int), x.b⟩]⟩ : Gn) = g4 ∧ g4.code.length = g3.code.length) ∧ g4.code.length ≤ g0.code.length + 3 ∧ g4.consts.length ≤ g0.consts.length + 1 ∧ g4.certs.length ≤ g0.certs.length + 1 ∧ ∀ x ∈ g4.consts, x.type = 3) := by
      have h3 := HB3.out
      have h2 := HB2.out
      have h1 := HB1.out
      have e1 : g4.code.length = g3.code.length := by rw [← hgg]
      have e2 : g4.consts.length = g3.consts.length := by rw [← hgg]
      have e3 : g4.certs.length = g3.certs.length + 1 := by rw [← hgg]; simp
      exact ⟨⟨hgg, e1⟩, by omega, by omega, by omega, by rw [← hgg]; exact h3.2.2.2.2⟩
    generalize hv4 : (⟨.slice b1 F.length d1, .slice b2 g3.consts.length d2, .slice b3 gl d3, (.slice (some ⟨gg, 0, none⟩) (nt + 1) cap)⟩ : VP) = v4 at D5
    clear hv4 hgg
    have E4 : Hid (IG w U4 v4 F G C vc3 lev g4 DD) := D5.out
    clear D5
    generalize hvc4 : vc3 = vc4 at E4
    clear hvc4
    obtain ⟨⟨x0, x1⟩, _⟩ := HC.out _ _ _ _ _ E4.out
    have c5 := E4.out.cells.2.2.2.2.2
    have z5 := E4.out.frozen 5
    go_upto_region 6 with fail
    have E5 : Hid (IG w (U4.setCell ⟨C, 5, none⟩ (.int .i64 ((lev + 1 : Nat) : Int))) v4 F G C vc4 (lev + 1) g4 DD) := E4.out.setLev (lev + 1)
    have e51 : ((lev + 1 : Nat) : Int) = (lev : Int) + 1 := by omega
    rw [e51] at E5
    refine wp_world (fun U => Hid (IG w U v4 F G C vc4 (lev + 1) g4 DD)) (by exact E5) ?_
    clear E5 E4 c5 z5 x0 x1 e51
    rintro U4b E4
    obtain ⟨⟨x0, x1⟩, _⟩ := HC.out _ _ _ _ _ E4.out
    generalize hUU : U4b = U4 at *
    clear hUU
    go_wp2_with fail
    refine (HI.out w U4 v4 F G C vc4 (lev + 1) g4 DD (.slice ab lb cb) x.body A E4.out HX.out.1 HX.out.2.2.1 HB4.out.2.2.2.2 (by have := HB4.out; have := HSZ.out; omega) (by have := HB4.out; have := HSZ.out; omega) (by have := HB4.out; have := HSZ.out; omega) (by have := HSZ.out; omega) HGL.out).mono ?_
    rintro e U5 ⟨rfl, v5, vc5, hh⟩
    have hle := genT_le n (G.length : Int) x.body (lev + 1) g4
    have hge := genT_len n (G.length : Int) x.body (lev + 1) g4
    have hty := genT_ty n (G.length : Int) x.body (lev + 1) g4 HB4.out.2.2.2.2
    generalize hgg : genT n (G.length : Int) x.body (lev + 1) g4 = g5 at hh hle hge hty
    have HB5 : Hid ((genT n (G.length : Int) x.body (lev + 1) g4 = g5 ∧ g4.code.length ≤ g5.code.length) ∧ g5.code.length ≤ g0.code.length + (3 + 5 * sizeT n x.body) ∧ g5.consts.length ≤ g0.consts.length + (1 + sizeT n x.body) ∧ g5.certs.length ≤ g0.certs.length + (1 + sizeT n x.body) ∧ ∀ x ∈ g5.consts, x.type = 3) := by
      have hb4 := HB4.out
      have h1 := hle.code
      have h2 := hle.consts
      have h3 := hle.certs
      exact ⟨⟨hgg, hge⟩, by omega, by omega, by omega, hty⟩
    have E5 : Hid (IG w U5 v5 F G C vc5 (lev + 1) g5 DD) := hh
    clear hgg hh hle hge hty E4
    clear x0 x1
    obtain ⟨⟨x0, x1⟩, _⟩ := HC.out _ _ _ _ _ E5.out
    have c5 := E5.out.cells.2.2.2.2.2
    have z5 := E5.out.frozen 5
    have e52 : ((lev + 1 : Nat) : Int) = (lev : Int) + 1 := by omega
    rw [e52] at c5
    go_upto_region 8 with fail
    have E6 : Hid (IG w (U5.setCell ⟨C, 5, none⟩ (.int .i64 (lev : Int))) v5 F G C vc5 lev g5 DD) := E5.out.setLev lev
    refine wp_world (fun U => Hid (IG w U v5 F G C vc5 lev g5 DD)) (by exact E6) ?_
    clear E6 E5 c5 z5 e52 x0 x1
    rintro U5b E5
    obtain ⟨⟨x0, x1⟩, _⟩ := HC.out _ _ _ _ _ E5.out
    go_wp2_with fail
    refine (put_any w _ v5 F G C vc5 lev g5 DD [⟨25, 0, 0, (hd : Int)⟩] U5b.heap.size 1 (by simp) (by simp) (cells_of U5b ⟨25, 0, 0, (hd : Int)⟩) (E5.out.keep (below_alloc _ _)) (by have := HB5.out; have := HSZ.out; omega)).mono ?_
    rintro e U6 ⟨rfl, vc6, hh⟩
    generalize hgg : g5.put [⟨25, 0, 0, (hd : Int)⟩] = g6 at hh
    have HB6 : Hid ((g5.put [⟨25, 0, 0, (hd : Int)⟩] = g6 ∧ g6.code.length = g5.code.length + 1) ∧ g6.code.length ≤ g0.code.length + (4 + 5 * sizeT n x.body) ∧ g6.consts.length = g5.consts.length ∧ g6.certs.length = g5.certs.length ∧ ∀ x ∈ g6.consts, x.type = 3) := by
      have hb := HB5.out
      have hc : g6.code.length = g5.code.length + 1 := by rw [← hgg, Gn.put_len]; rfl
      exact ⟨⟨hgg, hc⟩, by omega, by rw [← hgg]; rfl, by rw [← hgg]; rfl, by rw [← hgg]; exact hb.2.2.2.2⟩
    have E6 : Hid (IG w U6 v5 F G C vc6 lev g6 DD) := hh
    clear hgg hh E5
    clear x0 x1
    obtain ⟨⟨x0, x1⟩, _⟩ := HC.out _ _ _ _ _ E6.out
    go_wp2_with fail
    refine (land_any w U6 v5 F G C vc6 lev g6 DD hd E6.out (by have a := HHD.out; have b := HB3.out.1.2; have c := HB4.out.1.2; have c6 := HB5.out.1.2; have d := HB6.out.1.2; omega) (by have := HB6.out; have := HSZ.out; omega)).mono ?_
    rintro e U7 ⟨rfl, hh⟩
    have hll := Gn.land_len g6 hd
    generalize hgg : g6.land hd = g7 at hh hll
    have HB7 : Hid ((g6.land hd = g7 ∧ g7.code.length = g6.code.length) ∧ g7.code.length ≤ g0.code.length + (4 + 5 * sizeT n x.body) ∧ g7.consts.length = g6.consts.length ∧ g7.certs.length = g6.certs.length ∧ ∀ x ∈ g7.consts, x.type = 3) := by
      have hb := HB6.out
      exact ⟨⟨hgg, hll⟩, by omega, by rw [← hgg]; rfl, by rw [← hgg]; rfl, by rw [← hgg]; exact hb.2.2.2.2⟩
    have E7 : Hid (IG w U7 v5 F G C vc6 lev g7 DD) := hh
    clear hgg hh hll E6
    generalize hvc7 : vc6 = vc7 at E7
    clear hvc7
    clear x0 x1
    obtain ⟨⟨x0, x1⟩, _⟩ := HC.out _ _ _ _ _ E7.out
    go_wp2_with fail
    refine bodyPost_end (v := .tuple #[]) (by kernel_rfl) rfl ?_
    refine ⟨rfl, v5, vc7, ?_⟩
    have e : genS n (G.length : Int) (genT n (G.length : Int)) x lev g0 = g7 := by
      unfold genS
      have hl2 : g0.code.length + 2 = hd := by have a := HHD.out; have b := HB2.out.1.2; have d := HB1.out.1.2; omega
      have e5 : (⟨g0.code ++ [⟨1, (cnstI g0.consts x.b : Int), 0, 0⟩, ⟨3, (lev : Int), 0, 0⟩, ⟨27, (lev : Int), 0, 0⟩], cnstL g0.consts x.b, g0.certs ++ [⟨(G.length : Int), (hd : Int), (lev : Int), x.b⟩]⟩ : Gn) = g4 := by rw [← HB4.out.1.1, ← HB3.out.1.1, ← HB2.out.1.1, ← HB1.out.1.1, HIX.out, HGG.out]; simp [Gn.put]
      rw [if_neg (by rw [KK.out]; omega), if_neg (by rw [KK.out]; omega), if_pos KK.out]
      simp only [hl2]
      rw [e5, HB5.out.1.1, HB6.out.1.1, HB7.out.1.1]
    rw [e]
    exact (HC.out _ _ _ _ _ E7.out).2
end Go.Proofs.YtalkpddhpmjgcaaGreat
