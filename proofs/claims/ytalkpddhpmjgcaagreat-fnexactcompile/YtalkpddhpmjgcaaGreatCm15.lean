import Derived.Test.YtalkpddhpmjgcaaGreatCm14
import Derived.Test.YtalkpddhpmjgcaaGreatCm0
namespace Go.Proofs.YtalkpddhpmjgcaaGreat
open Go.ChangeShapes Go.WideShapes Go.ChangeAt Go.RowKit
set_option linter.unusedVariables false
set_option maxHeartbeats 2000000 in
set_option maxRecDepth 100000 in
theorem heldInt64SS_sep (s : Value) (F : List (List Int × Value)) (k0 : Int) (w : World) (hn : F.length ≤ 1048576) (hr : ∀ x ∈ F, x.1.length ≤ 1048576) (h0 : 0 ≤ k0) (h1 : k0 ≤ 281474976710656) (h : Rd w 1 s F.length (F.flatMap rCells)) (hf : ∀ x ∈ markRs k0 F, Rd w 1 x.2 x.1.length (x.1.flatMap intCell)) :
    Calls Tryz.prog 36 #[s, .int .i64 k0] w fun e w' => e = .returned (.int .i64 (endR k0 F)) ∧ w' = w := by
  have H : Hid (Rd w 1 s F.length (F.flatMap rCells) ∧ (∀ x ∈ F, x.1.length ≤ 1048576) ∧ ∀ x ∈ markRs k0 F, Rd w 1 x.2 x.1.length (x.1.flatMap intCell)) := ⟨h, hr, hf⟩
  obtain ⟨a1, c1, rfl⟩ := h.is_slice
  clear h hr hf
  generalize hLL : F.length = n at hn H
  have HL : Hid (F.length = n) := hLL
  clear hLL
  go_enter Tryz.func36, Tryz.ntmps36
  go_wp2
  go_loopw [1, 5] (fun q i wr => ∃ D E : List (List Int × Value), Hid (F = D ++ E) ∧ D.length ≤ n ∧ q = .int .i64 (endR k0 D) ∧ i = .int .i64 (D.length : Nat) ∧ wr = w) (fun _ i _ => n - (intOf i).toNat)
  case atStart => exact ⟨[], F, rfl, by simp, rfl, rfl, rfl⟩
  case round =>
    obtain ⟨D, E, HD, hk, rfl, rfl, rfl⟩ := hrel
    have hlen : D.length + E.length = n := by have := HL.out; rw [HD.out, List.length_append] at this; exact this
    have hend := endR_le k0 D (fun x hx => H.out.2.1 x (by rw [HD.out]; simp [hx]))
    generalize hK : endR k0 D = K at hend ⊢
    have HK : Hid (endR k0 D = K) := hK
    clear hK
    cases E with
    | cons x E' =>
      obtain ⟨f, v⟩ := x
      have hlt : D.length < n := by simp only [List.length_cons] at hlen; omega
      have hcl : f.length ≤ 1048576 := H.out.2.1 (f, v) (by rw [HD.out]; simp)
      have hx : F[D.length]? = some (f, v) := by rw [HD.out]; simp
      have hov := H.out.2.2 (markIs K f.length, v) (by rw [HD.out, markRs_app, HK.out]; simp [markRs])
      simp only [markIs_length] at hov
      rcases H.out.1.2 with ⟨e0, _⟩ | ⟨g, o, cc, e1, hc1⟩
      · omega
      simp only [Value.slice.injEq, true_and] at e1
      obtain ⟨rfl, rfl⟩ := e1
      have j0 := Rd.elem rCells_length hc1 D.length _ hx 0 _ rfl
      rw [Nat.mul_one, Nat.add_zero] at j0
      simp only [] at j0
      have HO : Hid (Rd wr 1 v f.length ((markIs K f.length).flatMap intCell)) := hov
      clear hc1 hx hov
      have hdl : (D.length : Int) < (n : Int) := by omega
      have hes : endR k0 (D ++ [(f, v)]) = K + (f.length : Int) := by rw [endR_snoc, HK.out]
      have hn0 : ¬ K + (f.length : Int) < 0 := by omega
      go_wp2_with fail
      refine (heldInt64S_ex v f.length K _ hcl (by omega) (by omega) HO.out).mono ?_
      rintro e u ⟨rfl, rfl⟩
      clear j0
      go_wp2
      go_roundw
      case rel => exact ⟨D ++ [(f, v)], E', by show _ = _; rw [HD.out]; simp, by simp; omega, by rw [hes], by simp, by trivial⟩
      case measure => simp [intOf]; omega
    | nil =>
      have hDn : D.length = n := by simpa using hlen
      have hDL : D = F := by rw [HD.out]; simp
      subst hDL
      have hKe := HK.out
      go_wp2
      go_ret
      exact ⟨by simp [hKe], rfl⟩
set_option maxHeartbeats 4000000 in
set_option maxRecDepth 100000 in
theorem heldFuncS_sep (s : Value) (F : List (MF × VF)) (k0 : Int) (w : World) (hn : F.length ≤ 1048576) (hr : ∀ x ∈ F, x.1.small) (h0 : 0 ≤ k0) (h1 : k0 ≤ 281474976710656) (h : Rd w 4 s F.length ((markFs k0 F).flatMap fCells)) (hf : ∀ x ∈ markFs k0 F, RdF w x.2 x.1) :
    Calls Tryz.prog 38 #[s, .int .i64 k0] w fun e w' => e = .returned (.int .i64 (endF k0 F)) ∧ w' = w := by
  have H : Hid (Rd w 4 s F.length ((markFs k0 F).flatMap fCells) ∧ (∀ x ∈ F, x.1.small) ∧ ∀ x ∈ markFs k0 F, RdF w x.2 x.1) := ⟨h, hr, hf⟩
  obtain ⟨a1, c1, rfl⟩ := h.is_slice
  clear h hr hf
  generalize hLL : F.length = n at hn H
  have HL : Hid (F.length = n) := hLL
  clear hLL
  go_enter Tryz.func38, Tryz.ntmps38
  go_wp2
  go_loopw [1, 5] (fun q i wr => ∃ D E : List (MF × VF), Hid (F = D ++ E) ∧ D.length ≤ n ∧ q = .int .i64 (endF k0 D) ∧ i = .int .i64 (D.length : Nat) ∧ wr = w) (fun _ i _ => n - (intOf i).toNat)
  case atStart => exact ⟨[], F, rfl, by simp, rfl, rfl, rfl⟩
  case round =>
    obtain ⟨D, E, HD, hk, rfl, rfl, rfl⟩ := hrel
    have hlen : D.length + E.length = n := by have := HL.out; rw [HD.out, List.length_append] at this; exact this
    have hend := endF_le k0 D (fun x hx => H.out.2.1 x (by rw [HD.out]; simp [hx]))
    generalize hK : endF k0 D = K at hend ⊢
    have HK : Hid (endF k0 D = K) := hK
    clear hK
    cases E with
    | cons x E' =>
      obtain ⟨⟨ps, rs, ls, cs⟩, ⟨vp, vl, vc⟩⟩ := x
      have hlt : D.length < n := by simp only [List.length_cons] at hlen; omega
      have hcl : ps.length ≤ 1048576 ∧ ls.length ≤ 1048576 ∧ cs.length ≤ 1048576 := H.out.2.1 (⟨ps, rs, ls, cs⟩, ⟨vp, vl, vc⟩) (by rw [HD.out]; simp)
      obtain ⟨hc1, hc2, hc3⟩ := hcl
      have hsplit : markFs k0 F = markFs k0 D ++ markF K (⟨ps, rs, ls, cs⟩, ⟨vp, vl, vc⟩) :: markFs (nextF K (⟨ps, rs, ls, cs⟩, ⟨vp, vl, vc⟩)) E' := by
        rw [HD.out, markFs_app, HK.out]
        rfl
      have hx : (markFs k0 F)[D.length]? = some (markF K (⟨ps, rs, ls, cs⟩, ⟨vp, vl, vc⟩)) := by
        rw [hsplit, List.getElem?_append_right (by rw [markFs_length]; omega), markFs_length, Nat.sub_self]
        rfl
      have hov := H.out.2.2 (markF K (⟨ps, rs, ls, cs⟩, ⟨vp, vl, vc⟩)) (by rw [hsplit]; simp)
      obtain ⟨ho1, ho2, ho3⟩ := hov
      simp only [markF, markIs_length, mkRow_length] at ho1 ho2 ho3
      rcases H.out.1.2 with ⟨e0, _⟩ | ⟨g, o, cc, e1, hcc1⟩
      · omega
      simp only [Value.slice.injEq, true_and] at e1
      obtain ⟨rfl, rfl⟩ := e1
      have j0 := Rd.elem fCells_length hcc1 D.length _ hx 0 _ rfl
      have j1 := Rd.elem fCells_length hcc1 D.length _ hx 1 _ rfl
      have j2 := Rd.elem fCells_length hcc1 D.length _ hx 2 _ rfl
      have j3 := Rd.elem fCells_length hcc1 D.length _ hx 3 _ rfl
      rw [Nat.add_zero] at j0
      simp only [markF] at j0 j1 j2 j3
      have HO : Hid (Rd wr 1 vp ps.length ((markIs K ps.length).flatMap intCell) ∧ Rd wr 1 vl ls.length ((markIs (K + (ps.length : Int) + 1) ls.length).flatMap intCell) ∧ Rd wr 4 vc cs.length ((mkRow mkI 4 (K + (ps.length : Int) + 1 + (ls.length : Int)) cs.length).flatMap MI.cells)) := ⟨ho1, ho2, ho3⟩
      clear hcc1 hx ho1 ho2 ho3 hsplit
      have hdl : (D.length : Int) < (n : Int) := by omega
      have hes : endF k0 (D ++ [(⟨ps, rs, ls, cs⟩, ⟨vp, vl, vc⟩)]) = K + (ps.length : Int) + 1 + (ls.length : Int) + 4 * (cs.length : Int) := by rw [endF_snoc, HK.out]; rfl
      have hn0 : ¬ K + (ps.length : Int) < 0 := by omega
      have hn1 : ¬ K + (ps.length : Int) + 1 + (ls.length : Int) < 0 := by omega
      have hn2 : ¬ K + (ps.length : Int) + 1 + (ls.length : Int) + 4 * (cs.length : Int) < 0 := by omega
      go_wp2_with fail
      refine (heldInt64S_ex vp ps.length K _ hc1 (by omega) (by omega) HO.out.1).mono ?_
      rintro e u ⟨rfl, rfl⟩
      go_wp2_with fail
      refine (heldInt64S_ex vl ls.length (K + (ps.length : Int) + 1) _ hc2 (by omega) (by omega) HO.out.2.1).mono ?_
      rintro e u ⟨rfl, rfl⟩
      go_wp2_with fail
      refine (heldInstrS_ex vc cs.length (K + (ps.length : Int) + 1 + (ls.length : Int)) _ hc3 (by omega) (by omega) HO.out.2.2).mono ?_
      rintro e u ⟨rfl, rfl⟩
      clear j0 j1 j2 j3
      go_wp2
      go_roundw
      case rel => exact ⟨D ++ [(⟨ps, rs, ls, cs⟩, ⟨vp, vl, vc⟩)], E', by show _ = _; rw [HD.out]; simp, by simp; omega, by rw [hes], by simp, by trivial⟩
      case measure => simp [intOf]; omega
    | nil =>
      have hDn : D.length = n := by simpa using hlen
      have hDL : D = F := by rw [HD.out]; simp
      subst hDL
      have hKe := HK.out
      go_wp2
      go_ret
      exact ⟨by simp [hKe], rfl⟩
end Go.Proofs.YtalkpddhpmjgcaaGreat
namespace Go.Proofs.YtalkpddhpmjgcaaGreat
open Go.ChangeShapes Go.WideShapes Go.ChangeAt Go.RowKit
set_option linter.unusedVariables false
/-- The rows of a program, and others behind them. -/
def pItems (v : VP) (F : List (List Int × Value)) (cs : List MC) (G : List (MF × VF)) (ts : List MT) (B : List RowI) : List RowI := rHead v.r F :: rItems F ++ (cRow v.k cs :: (fHead v.f G :: fItems G ++ (tRow v.t ts :: B)))
/-- A block as a row of one thing. -/
def bRow (b : Nat) (t : TypeId) (k : Nat) (xs : List Value) : RowI := ⟨t, k, .slice (some ⟨b, 0, none⟩) 1 1, 1, xs⟩
theorem bRow.new (w : World) (t : TypeId) (k : Nat) (xs : List Value) (hk : xs.length = k) : (bRow w.heap.size t k xs).own (w.alloc (.cells xs.toArray t)) w.heap.size := by
  have := World.ownsRow_lit (base := w.heap.size) (e := t) (size := k) w xs.toArray 1 (Nat.le_refl _) (by unfold maxLen; omega) (by simpa using hk)
  simpa [bRow, RowI.own] using this
theorem bRow.cell {w : World} {base b : Nat} {t : TypeId} {k : Nat} {xs : List Value} (h : (bRow b t k xs).own w base) (i : Nat) (hi : i < k) : w.cell? ⟨b, i, none⟩ = xs[i]? := World.ownsRow.cellAt (show w.ownsRow base t k (.slice (some ⟨b, 0, none⟩) 1 1) 1 xs from h) i (by omega)
theorem Sep.box {w : World} {base : Nat} {L : List RowI} (h : Sep w base L) (hB : base ≤ w.heap.size) (t : TypeId) (k : Nat) (xs : List Value) (hk : xs.length = k) : Sep (w.alloc (.cells xs.toArray t)) base (L ++ [bRow w.heap.size t k xs]) :=
  (h.keep (below_alloc _ _)).snoc (fun x hx g hg => (h.lt x hx g hg).2) (bRow.new w t k xs hk) hB
structure PSmall (F : List (List Int × Value)) (cs : List MC) (G : List (MF × VF)) (ts : List MT) : Prop where
  fl : F.length ≤ 1048576
  f : ∀ x ∈ F, x.1.length ≤ 1048576
  c : cs.length ≤ 1048576
  gl : G.length ≤ 1048576
  g : ∀ x ∈ G, x.1.small
  t : ts.length ≤ 1048576
theorem Sep.front {w : World} {base : Nat} {L M : List RowI} (h : Sep w base (L ++ M)) : Sep w base L := ⟨fun r hr => h.own r (by simp [hr]), (List.pairwise_append.1 h.sep).1⟩
theorem rHead_mark (s : Value) (k : Int) (F : List (List Int × Value)) : rHead s (markRs k F) = rHead s F := by unfold rHead; rw [markRs_length, markRs_cells]
set_option maxHeartbeats 4000000 in
set_option maxRecDepth 100000 in
theorem markProgram_sep (base : Nat) (v : VP) (F : List (List Int × Value)) (cs : List MC) (G : List (MF × VF)) (ts : List MT) (B : List RowI) (w : World) (hB : base ≤ w.heap.size) (hs : PSmall F cs G ts) (h : Sep w base (pItems v F cs G ts B)) :
    Calls Tryz.prog 15 #[.agg #[v.r, v.k, v.f, v.t], .int .i64 1] w fun e w' => e = .returned (.int .i64 (endF (endR 1 F + 2 * (cs.length : Int)) G + 4 * (ts.length : Int))) ∧ Sep w' base (pItems v (markRs 1 F) (mkRow mkC 2 (endR 1 F) cs.length) (markFs (endR 1 F + 2 * (cs.length : Int)) G) (mkRow mkT 4 (endF (endR 1 F + 2 * (cs.length : Int)) G) ts.length) B) ∧ Below base w w' := by
  obtain ⟨vr, vk, vf, vt⟩ := v
  obtain ⟨a1, c1, e1⟩ : ∃ a c, vr = .slice a F.length c := own_sl (h.own (rHead vr F) (by simp [pItems]))
  obtain ⟨a2, c2, e2⟩ : ∃ a c, vk = .slice a cs.length c := own_sl (h.own (cRow vk cs) (by simp [pItems]))
  obtain ⟨a3, c3, e3⟩ : ∃ a c, vf = .slice a G.length c := own_sl (h.own (fHead vf G) (by simp [pItems]))
  obtain ⟨a4, c4, e4⟩ : ∃ a c, vt = .slice a ts.length c := own_sl (h.own (tRow vt ts) (by simp [pItems]))
  subst e1 e2 e3 e4
  have H0 : Hid (Sep (w.alloc (.cells #[.slice a1 F.length c1, .slice a2 cs.length c2, .slice a3 G.length c3, .slice a4 ts.length c4] 31)) base (rHead (.slice a1 F.length c1) F :: rItems F ++ (cRow (.slice a2 cs.length c2) cs :: (fHead (.slice a3 G.length c3) G :: fItems G ++ (tRow (.slice a4 ts.length c4) ts :: (B ++ [bRow w.heap.size 31 4 [.slice a1 F.length c1, .slice a2 cs.length c2, .slice a3 G.length c3, .slice a4 ts.length c4]]))))) ∧ Below base w (w.alloc (.cells #[.slice a1 F.length c1, .slice a2 cs.length c2, .slice a3 G.length c3, .slice a4 ts.length c4] 31))) := by
    refine ⟨?_, (Below.refl _ _).alloc hB _⟩
    have := h.box hB 31 4 [.slice a1 F.length c1, .slice a2 cs.length c2, .slice a3 G.length c3, .slice a4 ts.length c4] rfl
    simpa [pItems, List.append_assoc] using this
  clear h
  have hR := endR_le 1 F hs.f
  have hG := endF_le (endR 1 F + 2 * (cs.length : Int)) G hs.g
  have hs1 := hs.fl
  have hs2 := hs.c
  have hs3 := hs.gl
  have hs4 := hs.t
  have HS : Hid (PSmall F cs G ts) := hs
  clear hs
  have q0 : (w.alloc (.cells #[.slice a1 F.length c1, .slice a2 cs.length c2, .slice a3 G.length c3, .slice a4 ts.length c4] 31)).cell? ⟨w.heap.size, 0, none⟩ = some (.slice a1 F.length c1) := bRow.cell (H0.out.1.own (bRow w.heap.size 31 4 [.slice a1 F.length c1, .slice a2 cs.length c2, .slice a3 G.length c3, .slice a4 ts.length c4]) (by simp)) 0 (by omega)
  go_enter Tryz.func15, Tryz.ntmps15
  go_wp2_with fail
  refine (markInt64SS_sep base (.slice a1 F.length c1) [] (cRow (.slice a2 cs.length c2) cs :: (fHead (.slice a3 G.length c3) G :: fItems G ++ (tRow (.slice a4 ts.length c4) ts :: (B ++ [bRow w.heap.size 31 4 [.slice a1 F.length c1, .slice a2 cs.length c2, .slice a3 G.length c3, .slice a4 ts.length c4]])))) F 1 _ (Nat.le_trans hB H0.out.2.size) hs1 HS.out.f (by omega) (by omega) (by simpa [List.append_assoc] using H0.out.1)).mono ?_
  rintro e u1 ⟨rfl, hs, hb⟩
  have H1 : Hid (Sep u1 base (rHead (.slice a1 F.length c1) F :: rItems (markRs 1 F) ++ (cRow (.slice a2 cs.length c2) cs :: (fHead (.slice a3 G.length c3) G :: fItems G ++ (tRow (.slice a4 ts.length c4) ts :: (B ++ [bRow w.heap.size 31 4 [.slice a1 F.length c1, .slice a2 cs.length c2, .slice a3 G.length c3, .slice a4 ts.length c4]]))))) ∧ Below base w u1) := ⟨by simpa [List.append_assoc] using hs, H0.out.2.trans hb⟩
  clear hs hb q0 H0
  generalize hK1 : endR 1 F = K1 at *
  have q1 : u1.cell? ⟨w.heap.size, 1, none⟩ = some (.slice a2 cs.length c2) := bRow.cell (H1.out.1.own (bRow w.heap.size 31 4 [.slice a1 F.length c1, .slice a2 cs.length c2, .slice a3 G.length c3, .slice a4 ts.length c4]) (by simp)) 1 (by omega)
  go_wp2_with fail
  refine (markConstS_ex base (.slice a2 cs.length c2) cs K1 u1 hs2 (by omega) (by omega) (H1.out.1.own (cRow (.slice a2 cs.length c2) cs) (by simp))).mono ?_
  rintro e u2 ⟨rfl, ho, hg⟩
  have H2 : Hid (Sep u2 base (rHead (.slice a1 F.length c1) F :: rItems (markRs 1 F) ++ (cRow (.slice a2 cs.length c2) (mkRow mkC 2 (K1) cs.length) :: (fHead (.slice a3 G.length c3) G :: fItems G ++ (tRow (.slice a4 ts.length c4) ts :: (B ++ [bRow w.heap.size 31 4 [.slice a1 F.length c1, .slice a2 cs.length c2, .slice a3 G.length c3, .slice a4 ts.length c4]]))))) ∧ Below base w u2) := by
    refine ⟨?_, H1.out.2.grown hg (Nat.le_trans hB H1.out.2.size) (fun k hk => ((H1.out.1.own (cRow (.slice a2 cs.length c2) cs) (by simp)).lt k hk).1)⟩
    have := H1.out.1.put ((mkRow mkC 2 K1 cs.length).flatMap MC.cells) ho hg
    simpa [cRow, mkRow_length, List.append_assoc] using this
  clear ho hg q1 H1
  generalize hK2 : K1 + 2 * (cs.length : Int) = K2 at *
  have q2 : u2.cell? ⟨w.heap.size, 2, none⟩ = some (.slice a3 G.length c3) := bRow.cell (H2.out.1.own (bRow w.heap.size 31 4 [.slice a1 F.length c1, .slice a2 cs.length c2, .slice a3 G.length c3, .slice a4 ts.length c4]) (by simp)) 2 (by omega)
  go_wp2_with fail
  refine (markFuncS_sep base (.slice a3 G.length c3) (rHead (.slice a1 F.length c1) F :: rItems (markRs 1 F) ++ [cRow (.slice a2 cs.length c2) (mkRow mkC 2 (K1) cs.length)]) (tRow (.slice a4 ts.length c4) ts :: (B ++ [bRow w.heap.size 31 4 [.slice a1 F.length c1, .slice a2 cs.length c2, .slice a3 G.length c3, .slice a4 ts.length c4]])) G K2 _ (Nat.le_trans hB H2.out.2.size) hs3 HS.out.g (by omega) (by omega) (by simpa [List.append_assoc] using H2.out.1)).mono ?_
  rintro e u3 ⟨rfl, hs, hb⟩
  have H3 : Hid (Sep u3 base (rHead (.slice a1 F.length c1) F :: rItems (markRs 1 F) ++ (cRow (.slice a2 cs.length c2) (mkRow mkC 2 (K1) cs.length) :: (fHead (.slice a3 G.length c3) (markFs K2 G) :: fItems (markFs K2 G) ++ (tRow (.slice a4 ts.length c4) ts :: (B ++ [bRow w.heap.size 31 4 [.slice a1 F.length c1, .slice a2 cs.length c2, .slice a3 G.length c3, .slice a4 ts.length c4]]))))) ∧ Below base w u3) := ⟨by simpa [List.append_assoc] using hs, H2.out.2.trans hb⟩
  clear hs hb q2 H2
  generalize hK3 : endF K2 G = K3 at *
  have q3 : u3.cell? ⟨w.heap.size, 3, none⟩ = some (.slice a4 ts.length c4) := bRow.cell (H3.out.1.own (bRow w.heap.size 31 4 [.slice a1 F.length c1, .slice a2 cs.length c2, .slice a3 G.length c3, .slice a4 ts.length c4]) (by simp)) 3 (by omega)
  go_wp2_with fail
  refine (markCertS_ex base (.slice a4 ts.length c4) ts K3 u3 hs4 (by omega) (by omega) (H3.out.1.own (tRow (.slice a4 ts.length c4) ts) (by simp))).mono ?_
  rintro e u4 ⟨rfl, ho, hg⟩
  have H4 : Hid (Sep u4 base (pItems ⟨.slice a1 F.length c1, .slice a2 cs.length c2, .slice a3 G.length c3, .slice a4 ts.length c4⟩ (markRs 1 F) (mkRow mkC 2 K1 cs.length) (markFs K2 G) (mkRow mkT 4 K3 ts.length) B) ∧ Below base w u4) := by
    refine ⟨?_, H3.out.2.grown hg (Nat.le_trans hB H3.out.2.size) (fun k hk => ((H3.out.1.own (tRow (.slice a4 ts.length c4) ts) (by simp)).lt k hk).1)⟩
    have h1 : Sep u3 base ((rHead (.slice a1 F.length c1) F :: rItems (markRs 1 F) ++ (cRow (.slice a2 cs.length c2) (mkRow mkC 2 (K1) cs.length) :: (fHead (.slice a3 G.length c3) (markFs K2 G) :: fItems (markFs K2 G)))) ++ tRow (.slice a4 ts.length c4) ts :: (B ++ [bRow w.heap.size 31 4 [.slice a1 F.length c1, .slice a2 cs.length c2, .slice a3 G.length c3, .slice a4 ts.length c4]])) := by simpa [List.append_assoc] using H3.out.1
    have h2 := h1.put ((mkRow mkT 4 K3 ts.length).flatMap MT.cells) ho hg
    have h3 : Sep u4 base (pItems ⟨.slice a1 F.length c1, .slice a2 cs.length c2, .slice a3 G.length c3, .slice a4 ts.length c4⟩ (markRs 1 F) (mkRow mkC 2 K1 cs.length) (markFs K2 G) (mkRow mkT 4 K3 ts.length) B ++ [bRow w.heap.size 31 4 [.slice a1 F.length c1, .slice a2 cs.length c2, .slice a3 G.length c3, .slice a4 ts.length c4]]) := by simpa [pItems, rHead_mark, tRow, mkRow_length, List.append_assoc] using h2
    exact h3.front
  clear ho hg q3 H3
  go_wp2
  go_ret
  rw [hK1, hK2, hK3]
  exact ⟨rfl, H4.out⟩
set_option maxHeartbeats 2000000 in
set_option maxRecDepth 100000 in
theorem heldProgram_sep (base : Nat) (v : VP) (F : List (List Int × Value)) (cs : List MC) (G : List (MF × VF)) (ts : List MT) (B : List RowI) (w : World) (hs : PSmall F cs G ts) (h : Sep w base (pItems v (markRs 1 F) (mkRow mkC 2 (endR 1 F) cs.length) (markFs (endR 1 F + 2 * (cs.length : Int)) G) (mkRow mkT 4 (endF (endR 1 F + 2 * (cs.length : Int)) G) ts.length) B)) :
    Calls Tryz.prog 16 #[.agg #[v.r, v.k, v.f, v.t], .int .i64 1] w fun e w' => e = .returned (.int .i64 (endF (endR 1 F + 2 * (cs.length : Int)) G + 4 * (ts.length : Int))) ∧ Below w.heap.size w w' := by
  obtain ⟨vr, vk, vf, vt⟩ := v
  have hr1 : Rd w 1 vr F.length (F.flatMap rCells) := by
    have := Rd.of_own (h.own (rHead vr (markRs 1 F)) (by simp [pItems]))
    rw [rHead_mark] at this
    exact this
  have hr2 : Rd w 2 vk cs.length ((mkRow mkC 2 (endR 1 F) cs.length).flatMap MC.cells) := by
    have := Rd.of_own (h.own (cRow vk (mkRow mkC 2 (endR 1 F) cs.length)) (by simp [pItems]))
    simpa [cRow, mkRow_length] using this
  have hr3 : Rd w 4 vf G.length ((markFs (endR 1 F + 2 * (cs.length : Int)) G).flatMap fCells) := by
    have := Rd.of_own (h.own (fHead vf (markFs (endR 1 F + 2 * (cs.length : Int)) G)) (by simp [pItems]))
    simpa [fHead, markFs_length] using this
  have hr4 : Rd w 4 vt ts.length ((mkRow mkT 4 (endF (endR 1 F + 2 * (cs.length : Int)) G) ts.length).flatMap MT.cells) := by
    have := Rd.of_own (h.own (tRow vt (mkRow mkT 4 (endF (endR 1 F + 2 * (cs.length : Int)) G) ts.length)) (by simp [pItems]))
    simpa [tRow, mkRow_length] using this
  have hf1 : ∀ x ∈ markRs 1 F, Rd w 1 x.2 x.1.length (x.1.flatMap intCell) := fun x hx => Rd.of_own (h.own (iRow x.2 x.1) (by
    have : iRow x.2 x.1 ∈ rItems (markRs 1 F) := List.mem_map.2 ⟨x, hx, rfl⟩
    simp [pItems, this]))
  have hf3 : ∀ x ∈ markFs (endR 1 F + 2 * (cs.length : Int)) G, RdF w x.2 x.1 := fun x hx => by
    have m : ∀ r ∈ fItem x, r ∈ pItems ⟨vr, vk, vf, vt⟩ (markRs 1 F) (mkRow mkC 2 (endR 1 F) cs.length) (markFs (endR 1 F + 2 * (cs.length : Int)) G) (mkRow mkT 4 (endF (endR 1 F + 2 * (cs.length : Int)) G) ts.length) B := fun r hr => by
      have : r ∈ fItems (markFs (endR 1 F + 2 * (cs.length : Int)) G) := List.mem_flatMap.2 ⟨x, hx, hr⟩
      simp [pItems, this]
    exact ⟨Rd.of_own (h.own _ (m (iRow x.2.p x.1.params) (by simp [fItem]))), Rd.of_own (h.own _ (m (iRow x.2.l x.1.locals) (by simp [fItem]))), Rd.of_own (h.own _ (m (nRow x.2.c x.1.code) (by simp [fItem])))⟩
  have hR := endR_le 1 F hs.f
  have hG := endF_le (endR 1 F + 2 * (cs.length : Int)) G hs.g
  have hs1 := hs.fl
  have hs2 := hs.c
  have hs3 := hs.gl
  have hs4 := hs.t
  obtain ⟨a1, c1, e1⟩ := hr1.is_slice
  obtain ⟨a2, c2, e2⟩ := hr2.is_slice
  obtain ⟨a3, c3, e3⟩ := hr3.is_slice
  obtain ⟨a4, c4, e4⟩ := hr4.is_slice
  subst e1 e2 e3 e4
  generalize hK1 : endR 1 F = K1 at *
  generalize hK2 : K1 + 2 * (cs.length : Int) = K2 at *
  generalize hK3 : endF K2 G = K3 at *
  have bA := below_alloc w (.cells #[.slice a1 F.length c1, .slice a2 cs.length c2, .slice a3 G.length c3, .slice a4 ts.length c4] 31)
  have HH : Hid (PSmall F cs G ts ∧ Rd (w.alloc (.cells #[.slice a1 F.length c1, .slice a2 cs.length c2, .slice a3 G.length c3, .slice a4 ts.length c4] 31)) 1 (.slice a1 F.length c1) F.length (F.flatMap rCells) ∧ Rd (w.alloc (.cells #[.slice a1 F.length c1, .slice a2 cs.length c2, .slice a3 G.length c3, .slice a4 ts.length c4] 31)) 2 (.slice a2 cs.length c2) cs.length ((mkRow mkC 2 K1 cs.length).flatMap MC.cells) ∧ Rd (w.alloc (.cells #[.slice a1 F.length c1, .slice a2 cs.length c2, .slice a3 G.length c3, .slice a4 ts.length c4] 31)) 4 (.slice a3 G.length c3) G.length ((markFs K2 G).flatMap fCells) ∧ Rd (w.alloc (.cells #[.slice a1 F.length c1, .slice a2 cs.length c2, .slice a3 G.length c3, .slice a4 ts.length c4] 31)) 4 (.slice a4 ts.length c4) ts.length ((mkRow mkT 4 K3 ts.length).flatMap MT.cells) ∧ (∀ x ∈ markRs 1 F, Rd (w.alloc (.cells #[.slice a1 F.length c1, .slice a2 cs.length c2, .slice a3 G.length c3, .slice a4 ts.length c4] 31)) 1 x.2 x.1.length (x.1.flatMap intCell)) ∧ (∀ x ∈ markFs K2 G, RdF (w.alloc (.cells #[.slice a1 F.length c1, .slice a2 cs.length c2, .slice a3 G.length c3, .slice a4 ts.length c4] 31)) x.2 x.1) ∧ Below w.heap.size w (w.alloc (.cells #[.slice a1 F.length c1, .slice a2 cs.length c2, .slice a3 G.length c3, .slice a4 ts.length c4] 31))) := ⟨hs, hr1.keep bA (Nat.le_refl _), hr2.keep bA (Nat.le_refl _), hr3.keep bA (Nat.le_refl _), hr4.keep bA (Nat.le_refl _), fun x hx => (hf1 x hx).keep bA (Nat.le_refl _), fun x hx => (hf3 x hx).keep bA (Nat.le_refl _), bA⟩
  have HKK : Hid (endR 1 F = K1 ∧ K1 + 2 * (cs.length : Int) = K2 ∧ endF K2 G = K3) := ⟨hK1, hK2, hK3⟩
  obtain ⟨q0, q1, q2, q3⟩ := At4.new w (.slice a1 F.length c1) (.slice a2 cs.length c2) (.slice a3 G.length c3) (.slice a4 ts.length c4) 31
  clear h hs hr1 hr2 hr3 hr4 hf1 hf3 bA
  have hn1 : ¬ K1 < 0 := by omega
  have hn2 : ¬ K2 < 0 := by omega
  have hn3 : ¬ K3 < 0 := by omega
  have hn4 : ¬ K3 + 4 * (ts.length : Int) < 0 := by omega
  go_enter Tryz.func16, Tryz.ntmps16
  go_wp2_with fail
  refine (heldInt64SS_sep (.slice a1 F.length c1) F 1 _ hs1 HH.out.1.f (by omega) (by omega) HH.out.2.1 HH.out.2.2.2.2.2.1).mono ?_
  rintro e u ⟨rfl, rfl⟩
  rw [HKK.out.1]
  go_wp2_with fail
  refine (heldConstS_ex (.slice a2 cs.length c2) cs.length K1 _ hs2 (by omega) (by omega) HH.out.2.2.1).mono ?_
  rintro e u ⟨rfl, rfl⟩
  rw [HKK.out.2.1]
  go_wp2_with fail
  refine (heldFuncS_sep (.slice a3 G.length c3) G K2 _ hs3 HH.out.1.g (by omega) (by omega) HH.out.2.2.2.1 HH.out.2.2.2.2.2.2.1).mono ?_
  rintro e u ⟨rfl, rfl⟩
  rw [HKK.out.2.2]
  go_wp2_with fail
  refine (heldCertS_ex (.slice a4 ts.length c4) ts.length K3 _ hs4 (by omega) (by omega) HH.out.2.2.2.2.1).mono ?_
  rintro e u ⟨rfl, rfl⟩
  go_wp2
  go_ret
  exact ⟨rfl, HH.out.2.2.2.2.2.2.2⟩
end Go.Proofs.YtalkpddhpmjgcaaGreat
namespace Go.Proofs.YtalkpddhpmjgcaaGreat
open Go.ChangeShapes Go.WideShapes Go.ChangeAt Go.RowKit
set_option linter.unusedVariables false
/-- What is being made: the code of a function, the constants and the certificates so far. -/
structure Gn where
  code : List MI
  consts : List MC
  certs : List MT
def Gn.put (g : Gn) (xs : List MI) : Gn := ⟨g.code ++ xs, g.consts, g.certs⟩
/-- An instruction that was put goes to the place that comes next. -/
def setC (x : MI) (c : Int) : MI := ⟨x.op, x.a, x.b, c⟩
def landL (l : List MI) (i : Nat) : List MI := match l[i]? with | some x => l.set i (setC x (l.length : Int)) | none => l
def Gn.land (g : Gn) (i : Nat) : Gn := ⟨landL g.code i, g.consts, g.certs⟩
/-- The number of a constant, and the constants with it. -/
def cnstI (cs : List MC) (v : Int) : Nat := cs.findIdx fun c => decide (c.word = v)
def cnstL (cs : List MC) (v : Int) : List MC := if cnstI cs v < cs.length then cs else cs ++ [⟨3, v⟩]
def ldK (a : Int) : MI := ⟨4, 2, a, 0⟩
/-- One statement. -/
def genS (n : Nat) (fn : Int) (gen : TL n → Nat → Gn → Gn) (s : SS (TL n)) (lev : Nat) (g : Gn) : Gn :=
  if s.k = 1 then g.put [ldK s.a, ldK s.b, ⟨8, 3, 0, 0⟩, ⟨5, 2, s.a, 0⟩]
  else if s.k = 2 then
    let g1 := g.put [ldK s.a, ldK s.b, ⟨21, 3, 0, 0⟩, ⟨26, 0, 0, 0⟩]
    let g2 := (gen s.body lev g1).put [⟨25, 0, 0, 0⟩]
    let g3 := gen s.els lev (g2.land (g.code.length + 3))
    g3.land (g2.code.length - 1)
  else if s.k = 3 then
    let g1 : Gn := ⟨g.code ++ [⟨1, (cnstI g.consts s.b : Int), 0, 0⟩, ⟨3, (lev : Int), 0, 0⟩, ⟨27, (lev : Int), 0, 0⟩], cnstL g.consts s.b, g.certs ++ [⟨fn, (g.code.length + 2 : Nat), (lev : Int), s.b⟩]⟩
    ((gen s.body (lev + 1) g1).put [⟨25, 0, 0, (g.code.length + 2 : Nat)⟩]).land (g.code.length + 2)
  else if s.k = 4 then g.put [⟨28, s.a + 1, 0, 0⟩]
  else g
/-- A list of them. -/
def genT : (n : Nat) → Int → TL n → Nat → Gn → Gn
  | 0, _, _, _, g => g
  | n + 1, fn, l, lev, g => List.foldl (fun g s => genS n fn (genT n fn) s lev g) g l
/-- Do all calls go to helpers from .. to? -/
def callsT : (n : Nat) → TL n → Int → Int → Prop
  | 0, _, _, _ => True
  | n + 1, l, a, b => ∀ s : SS (TL n), List.Mem s l → (s.k = 4 → a ≤ s.a ∧ s.a < b) ∧ callsT n s.body a b ∧ callsT n s.els a b
/-- A function that is made of a list. -/
def fnOf (n : Nat) (t : TL n) (g : Gn) : MF := ⟨[], 0, List.replicate (levT n t) 3, g.code⟩
theorem landL_length (l : List MI) (i : Nat) : (landL l i).length = l.length := by
  unfold landL
  split <;> simp
theorem Gn.put_len (g : Gn) (xs : List MI) : (g.put xs).code.length = g.code.length + xs.length := by simp [Gn.put]
theorem Gn.land_len (g : Gn) (i : Nat) : (g.land i).code.length = g.code.length := landL_length _ _
/-- Code grows. -/
theorem genS_len (n : Nat) (fn : Int) (gen : TL n → Nat → Gn → Gn) (h : ∀ t lev g, g.code.length ≤ (gen t lev g).code.length) (s : SS (TL n)) (lev : Nat) (g : Gn) : g.code.length ≤ (genS n fn gen s lev g).code.length := by
  unfold genS
  split
  · rw [Gn.put_len]; omega
  · split
    · simp only [Gn.land_len]
      refine Nat.le_trans ?_ (h _ _ _)
      rw [Gn.land_len, Gn.put_len]
      refine Nat.le_trans ?_ (Nat.le_add_right _ _)
      refine Nat.le_trans ?_ (h _ _ _)
      rw [Gn.put_len]
      omega
    · split
      · simp only [Gn.land_len, Gn.put_len]
        refine Nat.le_trans ?_ (Nat.le_add_right _ _)
        refine Nat.le_trans ?_ (h _ _ _)
        simp
      · split
        · rw [Gn.put_len]; omega
        · exact Nat.le_refl _
theorem genT_len (n : Nat) (fn : Int) : ∀ (t : TL n) (lev : Nat) (g : Gn), g.code.length ≤ (genT n fn t lev g).code.length := by
  induction n with
  | zero => intro t lev g; exact Nat.le_refl _
  | succ n ih =>
    intro t lev g
    have : ∀ (l : List (SS (TL n))) (g : Gn), g.code.length ≤ (List.foldl (fun g s => genS n fn (genT n fn) s lev g) g l).code.length := by
      intro l
      induction l with
      | nil => intro g; exact Nat.le_refl _
      | cons s l ihl => intro g; exact Nat.le_trans (genS_len n fn _ ih s lev g) (ihl _)
    exact this t g
end Go.Proofs.YtalkpddhpmjgcaaGreat
