import Derived.Test.YtalkpddhpmjgcaaGreatCm41
import Derived.Test.YtalkpddhpmjgcaaGreatCm43
import Derived.Test.YtalkpddhpmjgcaaGreatCm46
namespace Go.Proofs.YtalkpddhpmjgcaaGreat
open Go.ChangeShapes Go.WideShapes Go.ChangeAt Go.RowKit
set_option linter.unusedVariables false
section
variable {w u u' : World} {v : VP} {F : List (List Int × Value)} {cs : List MC} {G : List (MF × VF)} {ts : List MT} {C RB : Nat} {vc V8 : Value}
/-- A coder of three regions. -/
theorem Bl.coder (h : (iRow V8 (List.replicate 8 3)).own u w.heap.size) (hb : Below w.heap.size w u) : IP w ((u.alloc (.cells #[.slice none 0 0, .slice none 0 0, V8] 49)).alloc (.cells #[.slice (some ⟨u.heap.size, 0, none⟩) 3 3, .slice none 0 0, .slice none 0 0, .slice none 0 0, .slice none 0 0, .int .i64 0] 63)) ⟨.slice (some ⟨u.heap.size, 0, none⟩) 3 3, .slice none 0 0, .slice none 0 0, .slice none 0 0⟩ [([], .slice none 0 0), ([], .slice none 0 0), (List.replicate 8 3, V8)] [] [] [] (u.heap.size + 1) (.slice none 0 0) [] := by
  have lit3 : ∀ (x : World) (a b c : Value), (⟨49, 1, .slice (some ⟨x.heap.size, 0, none⟩) 3 3, 3, [a, b, c]⟩ : RowI).own (x.alloc (.cells #[a, b, c] 49)) x.heap.size := fun x a b c => World.ownsRow_lit (base := x.heap.size) (e := 49) (size := 1) x #[a, b, c] 3 (Nat.le_refl _) (by unfold maxLen; omega) rfl
  have h1 := (Bl.start w).row hb h
  have h2 := h1.row (below_alloc _ _) (lit3 u (.slice none 0 0) (.slice none 0 0) V8)
  have h3 := h2.box 63 6 [.slice (some ⟨u.heap.size, 0, none⟩) 3 3, .slice none 0 0, .slice none 0 0, .slice none 0 0, .slice none 0 0, .int .i64 0] rfl
  have h4 := ((((h3.nil 2 1).nil 2 1).nil 108 2).nil 86 4).nil 112 4
  simp only [World.size_alloc, List.cons_append, List.nil_append] at h4
  refine ⟨h4.perm ?_⟩
  simp only [pItems, rItems, rHead, rCells, cRow, fHead, fItems, tRow, List.map, List.flatMap_cons, List.flatMap_nil, List.cons_append, List.nil_append, List.length_cons, List.length_nil, List.append_nil]
  have e0 : iRow (.slice none 0 0) [] = ⟨2, 1, .slice none 0 0, 0, []⟩ := rfl
  rw [e0]
  generalize (⟨2, 1, .slice none 0 0, 0, []⟩ : RowI) = A0
  generalize iRow V8 (List.replicate 8 3) = A3
  have e1 : cbx (u.heap.size + 1) ⟨.slice (some ⟨u.heap.size, 0, none⟩) 3 3, .slice none 0 0, .slice none 0 0, .slice none 0 0⟩ (.slice none 0 0) 0 = bRow (u.heap.size + 1) 63 6 [.slice (some ⟨u.heap.size, 0, none⟩) 3 3, .slice none 0 0, .slice none 0 0, .slice none 0 0, .slice none 0 0, .int .i64 0] := rfl
  rw [e1]
  generalize bRow (u.heap.size + 1) 63 6 [.slice (some ⟨u.heap.size, 0, none⟩) 3 3, .slice none 0 0, .slice none 0 0, .slice none 0 0, .slice none 0 0, .int .i64 0] = AC
  generalize (⟨49, 1, .slice (some ⟨u.heap.size, 0, none⟩) 3 3, 3, [.slice none 0 0, .slice none 0 0, V8]⟩ : RowI) = AR
  generalize (⟨108, 2, .slice none 0 0, 0, []⟩ : RowI) = K1
  generalize (⟨86, 4, .slice none 0 0, 0, []⟩ : RowI) = K2
  generalize (⟨112, 4, .slice none 0 0, 0, []⟩ : RowI) = K3
  -- [A3, AR, AC, A0, A0, K1, K2, K3] ~ [AR, A0, A0, A3, K1, K2, K3, AC]
  refine (List.Perm.swap AR A3 _).trans (.cons _ ?_)
  refine (List.Perm.cons A3 (List.perm_append_comm (l₁ := [AC]) (l₂ := [A0, A0, K1, K2, K3]))).trans ?_
  exact (List.perm_append_comm (l₁ := [A3]) (l₂ := [A0, A0])).append_right [K1, K2, K3, AC]
theorem Bl.give2 (h : Bl w u (gb RB vN :: pItems v F cs G ts [cbx C v vc 0])) : Bl w ((((u.setCell ⟨RB, 0, none⟩ v.r).setCell ⟨RB, 1, none⟩ v.k).setCell ⟨RB, 2, none⟩ v.f).setCell ⟨RB, 3, none⟩ v.t) (pItems v F cs G ts []) ∧ (let W := (((u.setCell ⟨RB, 0, none⟩ v.r).setCell ⟨RB, 1, none⟩ v.k).setCell ⟨RB, 2, none⟩ v.f).setCell ⟨RB, 3, none⟩ v.t; W.cell? ⟨RB, 0, none⟩ = some v.r ∧ W.cell? ⟨RB, 1, none⟩ = some v.k ∧ W.cell? ⟨RB, 2, none⟩ = some v.f ∧ W.cell? ⟨RB, 3, none⟩ = some v.t) := by
  have h1 := h.set4 v.r v.k v.f v.t
  refine ⟨h1.sub ?_, (h1.four (by simp)).1⟩
  rw [pItems_nil (B := [cbx C v vc 0])]
  exact (List.sublist_append_left _ _).trans (List.sublist_cons_self _ _)
end
set_option maxHeartbeats 8000000 in
set_option maxRecDepth 100000 in
theorem implCompile_any (n1 : Nat) (t : TL n1) (n2 : Nat) (hs : List (TL n2)) (s0 s1 : Value) (w : World) (h0 : OwnT w 0 n1 s0 t) (h1 : OwnHs w n2 s1 hs) (z0 : sizeT n1 t ≤ 1048576) (z1 : ∀ h ∈ hs, sizeT n2 h ≤ 1048576) (z2 : hs.length ≤ 1048576) :
    Calls Tryz.prog 9 #[s0, s1] w (CmRes (allA n1 t n2 hs) w) := by
  have H : Hid (OwnT w 0 n1 s0 t ∧ OwnHs w n2 s1 hs ∧ sizeT n1 t ≤ 1048576 ∧ (∀ h ∈ hs, sizeT n2 h ≤ 1048576) ∧ hs.length ≤ 1048576) := ⟨h0, h1, z0, z1, z2⟩
  clear h0 h1 z0 z1 z2
  have E0 : Hid (Bl w (w.alloc (.cells #[.slice none 0 0, .slice none 0 0, .slice none 0 0, .slice none 0 0] 31)) [gb w.heap.size vN]) := (Bl.start w).box 31 4 [.slice none 0 0, .slice none 0 0, .slice none 0 0, .slice none 0 0] rfl
  go_enter Tryz.func9, Tryz.ntmps9
  go_upto_region 1 with fail
  generalize w.heap.size = RB at E0 ⊢
  refine wp_world (fun U => Hid (Bl w U [gb RB vN])) E0 ?_
  clear E0
  rintro U0 E0
  go_wp2_with fail
  refine (readAll_any n1 t n2 hs s0 s1 U0 (H.out.1.keep E0.out.bel (Nat.le_refl _)) (H.out.2.1.keep E0.out.bel) H.out.2.2.1 H.out.2.2.2.1 H.out.2.2.2.2).mono ?_
  rintro e W1 ⟨V, b, rfl, hb, hr, bl⟩
  generalize hAA : allA n1 t n2 hs = AA at hb hr
  have HAA : Hid (AA = allA n1 t n2 hs) := hAA.symm
  clear hAA
  have E1 : Hid (Bl w W1 [gb RB vN]) := E0.out.keep bl
  have HB : Hid ((b = true ↔ GoodA AA) ∧ (b = true → RdIs W1 (fun _ => True) V AA)) := ⟨hb, hr⟩
  clear hb hr bl E0
  cases b
  · skip
    have HBF : Hid (¬ GoodA AA) := fun e => by have := HB.out.1.2 e; cases this
    clear HB
    have HNG : Hid (¬ (GoodA AA ∧ FaultIs (progA AA) 0)) := fun e => HBF.out e.1
    obtain ⟨⟨p0, p1, p2, p3⟩, f0, f1, f2, f3⟩ := E1.out.four (show gb RB vN ∈ _ by simp)
    have HW : Hid _ := Bl.set4 E1.out (.slice none 0 0) (.slice none 0 0) (.slice none 0 0) (.slice none 0 0)
    go_wp2_with fail
    obtain ⟨⟨q0, q1, q2, q3⟩, -⟩ := HW.out.four (show gb RB ⟨.slice none 0 0, .slice none 0 0, .slice none 0 0, .slice none 0 0⟩ ∈ _ by simp)
    clear p0 p1 p2 p3 f0 f1 f2 f3
    generalize hWW : (((W1.setCell ⟨RB, 0, none⟩ (.slice none 0 0)).setCell ⟨RB, 1, none⟩ (.slice none 0 0)).setCell ⟨RB, 2, none⟩ (.slice none 0 0)).setCell ⟨RB, 3, none⟩ (.slice none 0 0) = WF at *
    exact bodyPost_ret (v := .agg #[.slice none 0 0, .slice none 0 0, .slice none 0 0, .slice none 0 0]) (by simp [results, Tryz.results9, go_sem, q0, q1, q2, q3]) rfl ⟨vN, [], [], [], [], rfl, HW.out.zero, .inr ⟨HAA.out ▸ HNG.out, rfl⟩⟩
  have HG : Hid (GoodA AA ∧ RdIs W1 (fun _ => True) V AA) := ⟨HB.out.1.1 rfl, HB.out.2 rfl⟩
  clear HB
  obtain ⟨aV, cV, eV⟩ := HG.out.2.is_slice
  subst eV
  generalize hN : AA.length = N at HG ⊢
  have HN : Hid (AA.length = N ∧ N ≤ 9) := ⟨hN, by rw [← hN]; exact HG.out.1.1⟩
  have hN9 : N ≤ 9 := HN.out.2
  clear hN
  go_wp2_with fail
  refine (uints_any 8 W1 (by omega)).mono ?_
  rintro e U2 ⟨V8, rfl, ho, b2⟩
  obtain ⟨a8, c8, e8⟩ : ∃ a c, V8 = .slice a (List.replicate 8 (3 : Int)).length c := own_sl ho
  rw [List.length_replicate] at e8
  subst e8
  have E3 : Hid _ := Bl.coder ho b2
  clear ho b2
  go_upto_region 5 with fail
  generalize hC : U2.heap.size + 1 = C at E3 ⊢
  generalize hR3 : U2.heap.size = R3 at E3 ⊢
  clear hC hR3
  generalize hF : [(([] : List Int), Value.slice none 0 0), ([], .slice none 0 0), (List.replicate 8 3, .slice a8 8 c8)] = F at E3
  have HF : Hid (F.map Prod.fst = [[], [], List.replicate 8 3]) := by rw [← hF]; rfl
  clear hF
  generalize hv0 : (⟨.slice (some ⟨R3, 0, none⟩) 3 3, .slice none 0 0, .slice none 0 0, .slice none 0 0⟩ : VP) = v0 at E3
  clear hv0
  refine wp_world (fun U => Hid (IP W1 U v0 F [] [] [] C (.slice none 0 0) [])) E3 ?_
  clear E3
  rintro U3 E3
  go_wp2_with fail
  go_loopw [9, 26] (fun _ i wr => ∃ (k : Nat) (v : VP) (vc : Value), k ≤ N ∧ i = .int .i64 k ∧ Hid (∃ G, G.map Prod.fst = (mkAll (AA.take k)).fs ∧ IP W1 wr v F (mkAll (AA.take k)).cs G (mkAll (AA.take k)).ts C vc [])) (fun _ i _ => N - (intOf i).toNat)
  case atStart => exact ⟨0, v0, _, by omega, rfl, [], rfl, E3.out⟩
  case round =>
    clear E3
    obtain ⟨k, v, vc, hk, rfl, HK⟩ := hrel
    have HMO : Hid (MkOk (mkAll (AA.take k)) k) := mkAll_ok HG.out.1.1 k (by rw [HN.out.1]; omega) (fun i x _ hx => (HG.out.1.2 i x hx).1)
    obtain ⟨G, hG, hS⟩ := HK.out
    have HS : Hid (G.map Prod.fst = (mkAll (AA.take k)).fs ∧ IP W1 wr v F (mkAll (AA.take k)).cs G (mkAll (AA.take k)).ts C vc []) := ⟨hG, hS⟩
    have hGl : G.length = k := by have := congrArg List.length hG; rw [List.length_map, HMO.out.fs.1] at this; exact this
    clear hG hS HK
    by_cases hlt : k < N
    · obtain ⟨x, hx⟩ : ∃ x, AA[k]? = some x := ⟨_, List.getElem?_eq_getElem (by rw [HN.out.1]; exact hlt)⟩
      obtain ⟨g, o, c, z, e1, i0, rx⟩ := HG.out.2.elem hx
      rw [HN.out.1] at e1
      simp only [Value.slice.injEq, true_and] at e1
      obtain ⟨rfl, rfl⟩ := e1
      rw [← HS.out.2.bl.bel.cell (block_lt_of_cell i0)] at i0
      obtain ⟨za, zl, zc⟩ := z
      simp only [slV] at i0 rx
      have HX : Hid (AA[k]? = some x ∧ RdI W1 (fun _ => True) x.n (.slice za zl zc) x.t ∧ CodeIs x.n x.t 0) := ⟨hx, rx, (HG.out.1.2 k x hx).1⟩
      have HGL : Hid (G.length = k ∧ (mkAll (AA.take k)).cs.length ≤ 60 * k ∧ (mkAll (AA.take k)).ts.length ≤ 60 * k ∧ (mkAll (AA.take k)).fs.length = k ∧ ∀ x ∈ (mkAll (AA.take k)).cs, x.type = 3) := ⟨hGl, HMO.out.cs.1, HMO.out.ts.1, HMO.out.fs.1, fun y hy => (HMO.out.cs.2 y hy).1⟩
      clear hx rx hGl HMO
      go_wp2_with fail
      refine (addFunction_any x.n W1 wr v F _ G _ C vc [] _ x.t (fun _ => True) HS.out.2 HX.out.2.1 (code0 HX.out.2.2).1 (code0 HX.out.2.2).2.1 HGL.out.2.2.2.2 (by have := HGL.out; omega) (by have := HGL.out; omega) (by have := HGL.out; omega)).mono ?_
      rintro e V1 ⟨rfl, v2, vc2, vf2, hh⟩
      have HK2 : Hid (∃ G, G.map Prod.fst = (mkAll (AA.take (k + 1))).fs ∧ IP W1 V1 v2 F (mkAll (AA.take (k + 1))).cs G (mkAll (AA.take (k + 1))).ts C vc2 []) := by
        show ∃ G, _
        have hfn : (G.length : Int) = ((mkAll (AA.take k)).fs.length : Int) := by rw [HGL.out.2.2.2.1, HGL.out.1]
        rw [hfn] at hh
        rw [mkAll_next HX.out.1]
        exact ⟨_, by rw [List.map_append, HS.out.1]; rfl, hh⟩
      clear hh HS HGL i0
      go_wp2_with fail
      go_roundw
      case rel => exact ⟨k + 1, _, _, by omega, by go_num, HK2⟩
      case measure => simp [intOf]; omega
    have hkn : k = N := by omega
    have HALL : Hid (AA.take k = AA) := by show AA.take k = AA; rw [hkn, ← HN.out.1, List.take_length]
    have HS2 : Hid (progA AA = ⟨F.map Prod.fst, (mkAll AA).cs, G.map Prod.fst, (mkAll AA).ts⟩ ∧ IP W1 wr v F (mkAll AA).cs G (mkAll AA).ts C vc []) := by
      have h9 := HS.out
      rw [HALL.out] at h9
      exact ⟨by rw [HF.out, h9.1]; rfl, h9.2⟩
    clear HS HALL HMO hGl
    generalize (mkAll AA).cs = cs at HS2
    generalize (mkAll AA).ts = ts at HS2
    obtain ⟨⟨b1, d1, b2, d2, b3, d3, b4, d4, ev⟩, _⟩ := HS2.out.2.bl.prow
    subst ev
    have HO : Hid (OwnP wr W1.heap.size ⟨.slice b1 F.length d1, .slice b2 cs.length d2, .slice b3 G.length d3, .slice b4 ts.length d4⟩ (progA AA)) := by show OwnP wr W1.heap.size _ _; rw [HS2.out.1]; exact HS2.out.2.bl.sep.ownP
    have HCC : Hid (∀ u', Bl W1 u' (pItems ⟨.slice b1 F.length d1, .slice b2 cs.length d2, .slice b3 G.length d3, .slice b4 ts.length d4⟩ F cs G ts [cbx C ⟨.slice b1 F.length d1, .slice b2 cs.length d2, .slice b3 G.length d3, .slice b4 ts.length d4⟩ vc 0]) → u'.cell? ⟨C, 0, none⟩ = some (.slice b1 F.length d1) ∧ u'.cell? ⟨C, 1, none⟩ = some (.slice b2 cs.length d2) ∧ u'.cell? ⟨C, 2, none⟩ = some (.slice b3 G.length d3) ∧ u'.cell? ⟨C, 3, none⟩ = some (.slice b4 ts.length d4)) := fun u' hh => ⟨hh.cell (pItems_in (show cbx C ⟨.slice b1 F.length d1, .slice b2 cs.length d2, .slice b3 G.length d3, .slice b4 ts.length d4⟩ vc 0 ∈ _ by simp)) 0 (by omega), hh.cell (pItems_in (show cbx C ⟨.slice b1 F.length d1, .slice b2 cs.length d2, .slice b3 G.length d3, .slice b4 ts.length d4⟩ vc 0 ∈ _ by simp)) 1 (by omega), hh.cell (pItems_in (show cbx C ⟨.slice b1 F.length d1, .slice b2 cs.length d2, .slice b3 G.length d3, .slice b4 ts.length d4⟩ vc 0 ∈ _ by simp)) 2 (by omega), hh.cell (pItems_in (show cbx C ⟨.slice b1 F.length d1, .slice b2 cs.length d2, .slice b3 G.length d3, .slice b4 ts.length d4⟩ vc 0 ∈ _ by simp)) 3 (by omega)⟩
    obtain ⟨p0, p1, p2, p3⟩ := HCC.out _ HS2.out.2.bl
    go_wp2_with fail
    refine (checkProgram_any ⟨.slice b1 F.length d1, .slice b2 cs.length d2, .slice b3 G.length d3, .slice b4 ts.length d4⟩ (progA AA) wr HG.out.1.small.1 HG.out.1.small.2 HO.out.rd HO.out.regions.rdc HO.out.funcs.rdp).mono ?_
    rintro e V3 ⟨⟨z, rfl, hz⟩, b9⟩
    have HZ : Hid (FaultIs (progA AA) z) := hz
    have E8 : Hid (Bl W1 V3 (pItems ⟨.slice b1 F.length d1, .slice b2 cs.length d2, .slice b3 G.length d3, .slice b4 ts.length d4⟩ F cs G ts [cbx C ⟨.slice b1 F.length d1, .slice b2 cs.length d2, .slice b3 G.length d3, .slice b4 ts.length d4⟩ vc 0])) := HS2.out.2.bl.keep b9
    have E9 : Hid (Bl w V3 (gb RB vN :: pItems ⟨.slice b1 F.length d1, .slice b2 cs.length d2, .slice b3 G.length d3, .slice b4 ts.length d4⟩ F cs G ts [cbx C ⟨.slice b1 F.length d1, .slice b2 cs.length d2, .slice b3 G.length d3, .slice b4 ts.length d4⟩ vc 0])) := E1.out.rows E8.out.bel E8.out.sep
    clear hz b9 p0 p1 p2 p3 HO
    by_cases hz : z = 0
    rotate_left
    · rw [show errOf z = .iface 101 (.int .i64 z) from if_neg hz]
      have HZN : Hid (z ≠ 0) := hz
      clear hz
      have EA : Hid (Bl w V3 [gb RB vN]) := E9.out.sub (List.singleton_sublist.2 (by simp))
      clear E9 E8 E1
      have HNG : Hid (¬ (GoodA AA ∧ FaultIs (progA AA) 0)) := fun e => HZN.out (HZ.out.one e.2)
      obtain ⟨⟨p0, p1, p2, p3⟩, f0, f1, f2, f3⟩ := EA.out.four (show gb RB vN ∈ _ by simp)
      have HW : Hid _ := Bl.set4 EA.out (.slice none 0 0) (.slice none 0 0) (.slice none 0 0) (.slice none 0 0)
      go_wp2_with fail
      obtain ⟨⟨q0, q1, q2, q3⟩, -⟩ := HW.out.four (show gb RB ⟨.slice none 0 0, .slice none 0 0, .slice none 0 0, .slice none 0 0⟩ ∈ _ by simp)
      clear p0 p1 p2 p3 f0 f1 f2 f3
      generalize hWW : (((V3.setCell ⟨RB, 0, none⟩ (.slice none 0 0)).setCell ⟨RB, 1, none⟩ (.slice none 0 0)).setCell ⟨RB, 2, none⟩ (.slice none 0 0)).setCell ⟨RB, 3, none⟩ (.slice none 0 0) = WF at *
      exact bodyPost_ret (v := .agg #[.slice none 0 0, .slice none 0 0, .slice none 0 0, .slice none 0 0]) (by simp [results, Tryz.results9, go_sem, q0, q1, q2, q3]) rfl ⟨vN, [], [], [], [], rfl, HW.out.zero, .inr ⟨HAA.out ▸ HNG.out, rfl⟩⟩
    subst hz
    rw [show errOf 0 = .nilIface from rfl]
    obtain ⟨p0, p1, p2, p3⟩ := HCC.out _ E8.out
    obtain ⟨⟨s0, s1, s2, s3⟩, f0, f1, f2, f3⟩ := E9.out.four (show gb RB vN ∈ _ by simp)
    have HW : Hid _ := E9.out.give2
    go_wp2_with fail
    obtain ⟨q0, q1, q2, q3⟩ := HW.out.2
    clear p0 p1 p2 p3 s0 s1 s2 s3 f0 f1 f2 f3
    generalize hWW : (((V3.setCell ⟨RB, 0, none⟩ (.slice b1 F.length d1)).setCell ⟨RB, 1, none⟩ (.slice b2 cs.length d2)).setCell ⟨RB, 2, none⟩ (.slice b3 G.length d3)).setCell ⟨RB, 3, none⟩ (.slice b4 ts.length d4) = WF at *
    exact bodyPost_ret (v := .agg #[.slice b1 F.length d1, .slice b2 cs.length d2, .slice b3 G.length d3, .slice b4 ts.length d4]) (by simp [results, Tryz.results9, go_sem, q0, q1, q2, q3]) rfl ⟨⟨.slice b1 F.length d1, .slice b2 cs.length d2, .slice b3 G.length d3, .slice b4 ts.length d4⟩, F, cs, G, ts, rfl, HW.out.1, .inl ⟨HAA.out ▸ HG.out.1, HAA.out ▸ HZ.out, HAA.out ▸ HS2.out.1.symm⟩⟩
end Go.Proofs.YtalkpddhpmjgcaaGreat
namespace Go.Proofs.YtalkpddhpmjgcaaGreat
open Go.ChangeShapes Go.WideShapes Go.ChangeAt Go.RowKit
set_option linter.unusedVariables false
/-- How many stand in lists of lists. -/
def sumH {n : Nat} (hs : List (TL n)) (i : Nat) : Nat := ((hs.take i).map (sizeT n)).sum
def sizeH {n : Nat} (hs : List (TL n)) : Nat := hs.length + (hs.map (sizeT n)).sum
theorem sumH_next {n : Nat} {hs : List (TL n)} {i : Nat} {x : TL n} (hx : hs[i]? = some x) : sumH hs (i + 1) = sumH hs i + sizeT n x := by
  unfold sumH
  obtain ⟨hlt, rfl⟩ := List.getElem?_eq_some_iff.1 hx
  rw [List.take_succ_eq_append_getElem hlt, List.map_append, List.sum_append]
  simp
theorem sumH_all {n : Nat} {hs : List (TL n)} {i : Nat} (h : hs.length ≤ i) : sizeH hs = hs.length + sumH hs i := by
  unfold sumH sizeH
  rw [List.take_of_length_le h]
theorem sumH_le {n : Nat} (hs : List (TL n)) (i : Nat) : hs.length + sumH hs i ≤ sizeH hs := by
  have h := sum_take_le (hs.map (sizeT n)) i
  rw [← List.map_take] at h
  exact Nat.add_le_add_left h _
theorem sizeH_mem {n : Nat} {hs : List (TL n)} {x : TL n} (hx : x ∈ hs) : sizeT n x ≤ sizeH hs := by
  obtain ⟨i, hi⟩ := List.getElem?_of_mem hx
  have h1 := sumH_le hs (i + 1)
  rw [sumH_next hi] at h1
  omega
set_option maxHeartbeats 4000000 in
set_option maxRecDepth 100000 in
theorem szStmtSS_any (n : Nat) (s : Value) (hs : List (TL n)) (left : Int) (w : World) (h : RdHs w n s hs) (hf : ∀ x ∈ hs, fitT n x) (hl : hs.length ≤ 9223372036854775807) (h0 : 0 ≤ left) (h1 : left ≤ 1048576) :
    Calls Tryz.prog 5 #[s, .int .i64 left] w fun e w' => e = .returned (.int .i64 (szK left (sizeH hs))) ∧ Below w.heap.size w w' := by
  obtain ⟨a1, c1, e1⟩ := h.is_slice
  subst e1
  have H : Hid (RdHs w n (.slice a1 hs.length c1) hs ∧ ∀ x ∈ hs, fitT n x) := ⟨h, hf⟩
  clear h hf
  generalize hN : hs.length = N at H hl ⊢
  have HN : Hid (hs.length = N) := hN
  clear hN
  go_enter Tryz.func5, Tryz.ntmps5
  by_cases hbig : left - (N : Int) < 0
  · have HR : Hid (szK left (sizeH hs) = -1) := szK_neg (by have := sumH_le hs 0; rw [HN.out] at this; omega)
    have hbig' : left < (N : Int) := by omega
    go_wp2_with fail
    go_ret
    exact ⟨by rw [HR.out]; rfl, Below.refl _ _⟩
  have hNs : (N : Int) ≤ 1048576 := by omega
  go_wp2_with fail
  go_loopw [1, 5] (fun lf i wr => ∃ k : Nat, k ≤ N ∧ i = .int .i64 k ∧ lf = .int .i64 (left - (N : Int) - (sumH hs k : Int)) ∧ 0 ≤ left - (N : Int) - (sumH hs k : Int) ∧ Hid (Below w.heap.size w wr)) (fun _ i _ => N - (intOf i).toNat)
  case atStart => exact ⟨0, by omega, rfl, by simp [sumH], by simp [sumH]; omega, Below.refl _ _⟩
  case round =>
    obtain ⟨k, hk, rfl, rfl, hnn, HB⟩ := hrel
    by_cases hlt : k < N
    · obtain ⟨x, hx⟩ : ∃ x, hs[k]? = some x := ⟨_, List.getElem?_eq_getElem (by rw [HN.out]; exact hlt)⟩
      obtain ⟨g, o, c, v, e1, i0, rx⟩ := (H.out.1.keep HB.out (Nat.le_refl _)).elem hx
      rw [HN.out] at e1
      simp only [Value.slice.injEq, true_and] at e1
      obtain ⟨rfl, rfl⟩ := e1
      obtain ⟨ax, cx, ex⟩ := rx.is_slice
      subst ex
      have HX : Hid (RdT wr n (.slice ax (lenT n x) cx) x ∧ fitT n x ∧ sumH hs (k + 1) = sumH hs k + sizeT n x ∧ N + sumH hs (k + 1) ≤ sizeH hs) := ⟨rx, H.out.2 x (List.mem_of_getElem? hx), sumH_next hx, by have := sumH_le hs (k + 1); rw [HN.out] at this; exact this⟩
      clear rx hx
      generalize lenT n x = lx at HX i0 ⊢
      generalize hlf : left - (N : Int) - (sumH hs k : Int) = lf at hnn ⊢
      have HLF : Hid (left - (N : Int) - (sumH hs k : Int) = lf) := hlf
      have hlf2 : lf ≤ 1048576 := by omega
      clear hlf
      go_wp2_with fail
      refine (szStmtS_any n _ x lf wr HX.out.1 HX.out.2.1 hnn hlf2).mono ?_
      rintro e u ⟨rfl, b1⟩
      have HB2 : Hid (Below w.heap.size w u) := below_on HB.out (Nat.le_refl _) b1
      clear b1 HB i0
      by_cases hneg : lf < (sizeT n x : Int)
      · rw [szK_neg hneg]
        have HR : Hid (szK left (sizeH hs) = -1) := szK_neg (by have a := HX.out.2.2; have b := HLF.out; omega)
        go_wp2_with fail
        go_ret
        exact ⟨by rw [HR.out]; rfl, HB2.out⟩
      · rw [szK_pos (by omega)]
        have hge : 0 ≤ lf - (sizeT n x : Int) := by omega
        have hge' : ¬ (lf - (sizeT n x : Int)) < 0 := by omega
        have HQ : Hid (lf - (sizeT n x : Int) = left - (N : Int) - (sumH hs (k + 1) : Int)) := by have a := HX.out.2.2; have b := HLF.out; show lf - (sizeT n x : Int) = left - (N : Int) - (sumH hs (k + 1) : Int); omega
        rw [HQ.out] at hge hge' ⊢
        go_wp2_with fail
        go_roundw
        case rel => exact ⟨k + 1, by omega, by go_num, rfl, hge, HB2⟩
        case measure => simp [intOf]; omega
    · have hkn : k = N := by omega
      subst hkn
      have HR : Hid (szK left (sizeH hs) = left - (k : Int) - (sumH hs k : Int)) := by
        have e := sumH_all (hs := hs) (i := k) (by rw [HN.out]; exact Nat.le_refl _)
        rw [HN.out] at e
        show szK left (sizeH hs) = _
        rw [szK_pos (by omega), e]
        omega
      go_wp2_with fail
      go_ret
      exact ⟨by rw [HR.out]; rfl, HB.out⟩
/-- Lists of lists that are owned from a base on. -/
def OwnHb (w : World) (base n : Nat) (s : Value) (hs : List (TL n)) : Prop := ∃ xs : List (TL n × SL), xs.map Prod.fst = hs ∧ s = .slice (some ⟨base, 0, none⟩) hs.length hs.length ∧ w.ownsRow base 33 1 s hs.length ((xs.map Prod.snd).flatMap slCell) ∧ ∀ x ∈ xs, OwnT w (base + 1) n (slV x.2) x.1
theorem OwnHb.keep {w w' : World} {base n : Nat} {s : Value} {hs : List (TL n)} (h : OwnHb w base n s hs) (hb : Below w.heap.size w w') : OwnHb w' base n s hs := by
  obtain ⟨xs, h1, h4, h2, h3⟩ := h
  exact ⟨xs, h1, h4, own_keep h2 hb (Nat.le_refl _), fun x hx => (h3 x hx).keep hb (Nat.le_refl _)⟩
theorem OwnHb.zero {w : World} {base n : Nat} {s : Value} {hs : List (TL n)} (h : OwnHb w base n s hs) : OwnHs w n s hs := by
  obtain ⟨xs, h1, h4, h2, h3⟩ := h
  exact ⟨xs, h1, own_base h2 (Nat.zero_le _), fun x hx => (h3 x hx).base (Nat.zero_le _)⟩
theorem map_slV (ys : List SL) : ys.flatMap slCell = ys.map slV := by
  induction ys with
  | nil => rfl
  | cons y ys ih => rw [List.flatMap_cons, ih]; rfl
theorem OwnHs.rd {w : World} {n : Nat} {s : Value} {hs : List (TL n)} (h : OwnHs w n s hs) : RdHs w n s hs := by
  obtain ⟨xs, h1, h2, h3⟩ := h
  refine ⟨xs.map (fun x => (x.1, slV x.2)), by rw [← h1]; simp, ?_, fun x hx => ?_⟩
  · have := Rd.of_own h2
    rw [map_slV] at this
    rw [List.map_map] at this ⊢
    exact this
  · obtain ⟨y, hy, rfl⟩ := List.mem_map.1 hx
    exact (h3 y hy).rd
/-- Where the copying stands. -/
structure THt (w wr : World) (n : Nat) (hs : List (TL n)) (L k : Nat) (ys : List (TL n × SL)) : Prop where
  len : ys.length = k
  fst : ys.map Prod.fst = hs.take k
  row : wr.ownsRow w.heap.size 33 1 (.slice (some ⟨w.heap.size, 0, none⟩) L L) L (newTo slCell [.slice none 0 0] (ys.map Prod.snd) L)
  els : ∀ y ∈ ys, OwnT wr (w.heap.size + 1) n (slV y.2) y.1
  bel : Below w.heap.size w wr
  siz : w.heap.size + 1 ≤ wr.heap.size
theorem set1h (A R : List Value) (z c : Value) (i : Nat) (h : A.length = i) : (A ++ ([z] ++ R)).set i c = A ++ ([c] ++ R) := by
  subst h
  rw [List.set_append_right _ _ (Nat.le_refl _)]
  simp
theorem THt.next {w wr : World} {n : Nat} {hs : List (TL n)} {L k : Nat} {ys : List (TL n × SL)} (h : THt w wr n hs L k ys) (hk : k < L) {u : World} (hb : Below wr.heap.size wr u) {x : TL n} (hx : hs[k]? = some x) {z : SL} (oz : OwnT u wr.heap.size n (slV z) x) :
    THt w (u.setCell ⟨w.heap.size, k, none⟩ (slV z)) n hs L (k + 1) (ys ++ [(x, z)]) ∧ (∃ q, u.cell? ⟨w.heap.size, k, none⟩ = some q) ∧ u.frozen? ⟨w.heap.size, k, none⟩ = false := by
  have ho := own_keep h.row hb (Nat.le_refl _)
  have hl : (ys.map Prod.snd).length = k := by rw [List.length_map]; exact h.len
  have hp := newTo_parts slCell [.slice none 0 0] (ys.map Prod.snd) k L hk hl
  have hfl : ((ys.map Prod.snd).flatMap slCell).length = k := by rw [flat_length slCell 1 slCell_length, hl]; omega
  rw [hp] at ho
  have hs2 := (ho.stored k (slV z)).1
  rw [set1h _ _ _ _ k hfl] at hs2
  have hn := newTo_next slCell [.slice none 0 0] (ys.map Prod.snd) k L z hl
  refine ⟨⟨by simp [h.len], fst_next h.fst hx z, ?_, fun y hy => ?_, (below_on h.bel (Nat.le_refl _) hb).setCell (Nat.le_refl _) _, by rw [World.size_setCell]; exact Nat.le_trans h.siz hb.size⟩, ?_, ho.frozenAt k⟩
  · rw [List.map_append]
    have e : List.map Prod.snd [(x, z)] = [z] := rfl
    rw [e, hn]
    exact hs2
  · rcases List.mem_append.1 hy with hy | hy
    · exact ((h.els y hy).keep hb (Nat.le_refl _)).below (a := ⟨w.heap.size, k, none⟩) (by show w.heap.size < w.heap.size + 1; omega) _
    · rw [List.mem_singleton.1 hy]
      exact (oz.base h.siz).below (a := ⟨w.heap.size, k, none⟩) (by show w.heap.size < w.heap.size + 1; omega) _
  · have := World.ownsRow.cellAt ho k (by omega)
    rw [List.getElem?_append_right (by omega), hfl] at this
    simp at this
    exact ⟨_, this⟩
set_option maxHeartbeats 4000000 in
set_option maxRecDepth 100000 in
theorem toStmtSS_any (n : Nat) (s : Value) (hs : List (TL n)) (w : World) (h : RdHs w n s hs) (hz : ∀ x ∈ hs, sizeT n x ≤ 1048576) (hl : hs.length ≤ 1048576) :
    Calls Tryz.prog 8 #[s] w fun e w' => ∃ v', e = .returned v' ∧ OwnHb w' w.heap.size n v' hs ∧ Below w.heap.size w w' := by
  obtain ⟨i0, hi, hz0, hz1, hz2⟩ := info_parts infoL
  obtain ⟨a1, c1, e1⟩ := h.is_slice
  subst e1
  have H : Hid (RdHs w n (.slice a1 hs.length c1) hs ∧ ∀ x ∈ hs, sizeT n x ≤ 1048576) := ⟨h, hz⟩
  clear h hz
  generalize hN : hs.length = L at H hl ⊢
  have HL : Hid (hs.length = L) := hN
  clear hN
  go_enter Tryz.func8, Tryz.ntmps8
  go_wp2_with (at_make; refine wpList_make_full _ rfl _ _ 35 rfl w.heap.size 33 i0 (.slice none 0 0) 1 Tryz.underlying35 hi hz0 hz1 .i64 .i64 _ _ L rfl rfl rfl rfl (by rw [hz2]; omega) (by unfold maxLen; omega) (Nat.le_refl _) ?_; intro w1 hown hgrow)
  rw [newTo_zero slCell [.slice none 0 0] L (.slice none 0 0) 1 rfl rfl (by omega)] at hown
  have hB : Below w.heap.size w w1 := (Below.refl _ _).grown hgrow (Nat.le_refl _) (fun k hk => by cases hk)
  have HST : Hid (THt w w1 n hs L 0 []) := ⟨rfl, rfl, hown, (fun y hy => by cases hy), hB, own_lt hown⟩
  clear hgrow hown hB
  go_loopw [4] (fun i wr => ∃ k : Nat, k ≤ L ∧ i = .int .i64 k ∧ ∃ ys, Hid (THt w wr n hs L k ys)) (fun i _ => L - (intOf i).toNat)
  case atStart => exact ⟨0, by omega, rfl, _, HST⟩
  case round =>
    clear HST
    obtain ⟨k, hk, rfl, ys, HST⟩ := hrel
    by_cases hlt : k < L
    · obtain ⟨x, hx⟩ : ∃ x, hs[k]? = some x := ⟨_, List.getElem?_eq_getElem (by rw [HL.out]; exact hlt)⟩
      obtain ⟨g, o, c, v, e1, i0, rx⟩ := (H.out.1.keep HST.out.bel (Nat.le_refl _)).elem hx
      rw [HL.out] at e1
      simp only [Value.slice.injEq, true_and] at e1
      obtain ⟨rfl, rfl⟩ := e1
      obtain ⟨ax, cx, ex⟩ := rx.is_slice
      subst ex
      have HX : Hid (hs[k]? = some x ∧ RdT wr n (.slice ax (lenT n x) cx) x ∧ sizeT n x ≤ 1048576) := ⟨hx, rx, H.out.2 x (List.mem_of_getElem? hx)⟩
      clear rx hx
      generalize lenT n x = lx at HX i0 ⊢
      go_wp2_with fail
      refine (toStmtS_any n _ x wr HX.out.2.1 HX.out.2.2).mono ?_
      rintro e u ⟨v', rfl, ob, hbu⟩
      obtain ⟨⟨za, zl, zc⟩, ez⟩ := slV_is ob.rd
      subst ez
      have HN : Hid _ := HST.out.next hlt hbu HX.out.1 ob
      obtain ⟨qq, q0⟩ := HN.out.2.1
      have f0 := HN.out.2.2
      simp only [slV] at HN
      simp only [slV]
      clear ob hbu i0 HST HX
      go_wp2
      go_roundw
      case rel => exact ⟨k + 1, by omega, by go_num, _, HN.out.1⟩
      case measure => simp [intOf]; omega
    · have hkn : k = L := by omega
      subst hkn
      have HO : Hid (OwnHb wr w.heap.size n (.slice (some ⟨w.heap.size, 0, none⟩) k k) hs) := by
        refine ⟨ys, by rw [HST.out.fst, List.take_of_length_le (by rw [HL.out]; exact Nat.le_refl _)], by rw [HL.out], ?_, fun y hy => HST.out.els y hy⟩
        have := HST.out.row
        rw [newTo_all slCell [.slice none 0 0] (ys.map Prod.snd) k (by rw [List.length_map]; exact HST.out.len)] at this
        rw [HL.out]
        exact this
      go_wp2
      go_ret
      exact ⟨_, rfl, HO.out, HST.out.bel⟩
set_option maxHeartbeats 4000000 in
set_option maxRecDepth 100000 in
theorem eqStmtSS_any (n : Nat) (s s' : Value) (hs : List (TL n)) (w : World) (h : RdHs w n s hs) (h' : RdHs w n s' hs) (hz : ∀ x ∈ hs, sizeT n x ≤ 1048576) (hl : hs.length ≤ 1048576) :
    Calls Tryz.prog 12 #[s, s'] w fun e w' => e = .returned (.bool true) ∧ Below w.heap.size w w' := by
  obtain ⟨a1, c1, e1⟩ := h.is_slice
  obtain ⟨a2, c2, e2⟩ := h'.is_slice
  subst e1 e2
  have H : Hid (RdHs w n (.slice a1 hs.length c1) hs ∧ RdHs w n (.slice a2 hs.length c2) hs ∧ ∀ x ∈ hs, sizeT n x ≤ 1048576) := ⟨h, h', hz⟩
  clear h h' hz
  generalize hN : hs.length = L at H hl ⊢
  have HL : Hid (hs.length = L) := hN
  clear hN
  go_enter Tryz.func12, Tryz.ntmps12
  go_wp2_with fail
  go_loopw [5] (fun i wr => ∃ k : Nat, k ≤ L ∧ i = .int .i64 k ∧ Hid (Below w.heap.size w wr)) (fun i _ => L - (intOf i).toNat)
  case atStart => exact ⟨0, by omega, rfl, Below.refl _ _⟩
  case round =>
    obtain ⟨k, hk, rfl, HB⟩ := hrel
    by_cases hlt : k < L
    · obtain ⟨x, hx⟩ : ∃ x, hs[k]? = some x := ⟨_, List.getElem?_eq_getElem (by rw [HL.out]; exact hlt)⟩
      obtain ⟨g, o, c, v, e1, i0, rx⟩ := (H.out.1.keep HB.out (Nat.le_refl _)).elem hx
      obtain ⟨g', o', c', v', e2, j0, rx'⟩ := (H.out.2.1.keep HB.out (Nat.le_refl _)).elem hx
      rw [HL.out] at e1 e2
      simp only [Value.slice.injEq, true_and] at e1 e2
      obtain ⟨rfl, rfl⟩ := e1
      obtain ⟨rfl, rfl⟩ := e2
      have HX : Hid (RdT wr n v x ∧ RdT wr n v' x ∧ sizeT n x ≤ 1048576) := ⟨rx, rx', H.out.2.2 x (List.mem_of_getElem? hx)⟩
      obtain ⟨ax, cx, rfl⟩ := rx.is_slice
      obtain ⟨ax', cx', rfl⟩ := rx'.is_slice
      clear rx rx' hx
      go_wp2_with fail
      go_region_with (go_at_call 11; refine (eqStmtS_any n _ _ x _ (HX.out.1.keep (below_drew1 _) (Nat.le_refl _)) (HX.out.2.1.keep (below_drew1 _) (Nat.le_refl _)) HX.out.2.2).mono ?_; rintro e u ⟨rfl, hbu⟩)
      all_goals
        have HB2 : Hid (Below w.heap.size w u) := HB.out.trans (below_drew_trans hbu HB.out.size)
        clear hbu HB i0 j0
        go_wp2
        go_roundw
        case rel => exact ⟨k + 1, by omega, by go_num, HB2⟩
        case measure => simp [intOf]; omega
    · go_wp2
      go_ret
      exact ⟨rfl, HB.out⟩
end Go.Proofs.YtalkpddhpmjgcaaGreat
