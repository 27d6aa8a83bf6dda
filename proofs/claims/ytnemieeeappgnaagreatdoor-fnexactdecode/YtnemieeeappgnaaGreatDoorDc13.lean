import Derived.Test.YtnemieeeappgnaaGreatDoorDc12
import Derived.Test.YtnemieeeappgnaaGreatDoorDc11
import Derived.OneCell
import Derived.Maps.AppendAt
namespace Go.Proofs.YtnemieeeappgnaaGreatDoor
open Go.ChangeShapes Go.WideShapes Go.ChangeAt Go.RowKit
set_option linter.unusedVariables false
/-- The rows of a program, and others behind them. -/
def pItems (v : VP) (F : List (List Int × Value)) (cs : List MC) (G : List (MF × VF)) (ts : List MT) (B : List RowI) : List RowI := rHead v.r F :: rItems F ++ (cRow v.k cs :: (fHead v.f G :: fItems G ++ (tRow v.t ts :: B)))
/-- A block as a row of one thing. -/
def bRow (b : Nat) (t : TypeId) (k : Nat) (xs : List Value) : RowI := ⟨t, k, .slice (some ⟨b, 0, none⟩) 1 1, 1, xs⟩
theorem bRow.new (w : World) (t : TypeId) (k : Nat) (xs : List Value) (hk : xs.length = k) : (bRow w.heap.size t k xs).own (w.alloc (.cells xs.toArray t)) w.heap.size := by
  have := World.ownsRow_lit (base := w.heap.size) (e := t) (size := k) w xs.toArray 1 (Nat.le_refl _) (by unfold maxLen; omega) (by simpa using hk)
  simpa [bRow, RowI.own] using this
theorem bRow.cell {w : World} {base b : Nat} {t : TypeId} {k : Nat} {xs : List Value} (h : (bRow b t k xs).own w base) (i : Nat) (hi : i < k) : w.cell? ⟨b, i, none⟩ = xs[i]? := World.ownsRow.cellAt (show w.ownsRow base t k (.slice (some ⟨b, 0, none⟩) 1 1) 1 xs from h) i (by omega)
theorem Sep.box {w : World} {base : Nat} {L : List RowI} (h : Sep w base L) (hB : base ≤ w.heap.size) (t : TypeId) (k : Nat) (xs : List Value) (hk : xs.length = k) : Sep (w.alloc (.cells xs.toArray t)) base (L ++ [bRow w.heap.size t k xs]) :=
  (h.keep (below_alloc _ _)).snoc (fun x hx g hg => (h.lt x hx g hg).2) (bRow.new w t k xs hk) hB
structure PSmall (F : List (List Int × Value)) (cs : List MC) (G : List (MF × VF)) (ts : List MT) : Prop where
  fl : F.length ≤ 1048576
  f : ∀ x ∈ F, x.1.length ≤ 1048576
  c : cs.length ≤ 1048576
  gl : G.length ≤ 1048576
  g : ∀ x ∈ G, x.1.small
  t : ts.length ≤ 1048576
theorem Sep.front {w : World} {base : Nat} {L M : List RowI} (h : Sep w base (L ++ M)) : Sep w base L := ⟨fun r hr => h.own r (by simp [hr]), (List.pairwise_append.1 h.sep).1⟩
theorem rHead_mark (s : Value) (k : Int) (F : List (List Int × Value)) : rHead s (markRs k F) = rHead s F := by unfold rHead; rw [markRs_length, markRs_cells]
set_option maxHeartbeats 4000000 in
set_option maxRecDepth 100000 in
theorem markProgram_sep (base : Nat) (v : VP) (F : List (List Int × Value)) (cs : List MC) (G : List (MF × VF)) (ts : List MT) (B : List RowI) (w : World) (hB : base ≤ w.heap.size) (hs : PSmall F cs G ts) (h : Sep w base (pItems v F cs G ts B)) :
    Calls Tryz.prog 19 #[.agg #[v.r, v.k, v.f, v.t], .int .i64 1] w fun e w' => e = .returned (.int .i64 (endF (endR 1 F + 2 * (cs.length : Int)) G + 4 * (ts.length : Int))) ∧ Sep w' base (pItems v (markRs 1 F) (mkRow mkC 2 (endR 1 F) cs.length) (markFs (endR 1 F + 2 * (cs.length : Int)) G) (mkRow mkT 4 (endF (endR 1 F + 2 * (cs.length : Int)) G) ts.length) B) ∧ Below base w w' := by
  obtain ⟨vr, vk, vf, vt⟩ := v
  obtain ⟨a1, c1, e1⟩ : ∃ a c, vr = .slice a F.length c := own_sl (h.own (rHead vr F) (by simp [pItems]))
  obtain ⟨a2, c2, e2⟩ : ∃ a c, vk = .slice a cs.length c := own_sl (h.own (cRow vk cs) (by simp [pItems]))
  obtain ⟨a3, c3, e3⟩ : ∃ a c, vf = .slice a G.length c := own_sl (h.own (fHead vf G) (by simp [pItems]))
  obtain ⟨a4, c4, e4⟩ : ∃ a c, vt = .slice a ts.length c := own_sl (h.own (tRow vt ts) (by simp [pItems]))
  subst e1 e2 e3 e4
  have H0 : Hid (Sep (w.alloc (.cells #[.slice a1 F.length c1, .slice a2 cs.length c2, .slice a3 G.length c3, .slice a4 ts.length c4] 28)) base (rHead (.slice a1 F.length c1) F :: rItems F ++ (cRow (.slice a2 cs.length c2) cs :: (fHead (.slice a3 G.length c3) G :: fItems G ++ (tRow (.slice a4 ts.length c4) ts :: (B ++ [bRow w.heap.size 28 4 [.slice a1 F.length c1, .slice a2 cs.length c2, .slice a3 G.length c3, .slice a4 ts.length c4]]))))) ∧ Below base w (w.alloc (.cells #[.slice a1 F.length c1, .slice a2 cs.length c2, .slice a3 G.length c3, .slice a4 ts.length c4] 28))) := by
    refine ⟨?_, (Below.refl _ _).alloc hB _⟩
    have := h.box hB 28 4 [.slice a1 F.length c1, .slice a2 cs.length c2, .slice a3 G.length c3, .slice a4 ts.length c4] rfl
    simpa [pItems, List.append_assoc] using this
  clear h
  have hR := endR_le 1 F hs.f
  have hG := endF_le (endR 1 F + 2 * (cs.length : Int)) G hs.g
  have hs1 := hs.fl
  have hs2 := hs.c
  have hs3 := hs.gl
  have hs4 := hs.t
  have HS : Hid (PSmall F cs G ts) := hs
  clear hs
  have q0 : (w.alloc (.cells #[.slice a1 F.length c1, .slice a2 cs.length c2, .slice a3 G.length c3, .slice a4 ts.length c4] 28)).cell? ⟨w.heap.size, 0, none⟩ = some (.slice a1 F.length c1) := bRow.cell (H0.out.1.own (bRow w.heap.size 28 4 [.slice a1 F.length c1, .slice a2 cs.length c2, .slice a3 G.length c3, .slice a4 ts.length c4]) (by simp)) 0 (by omega)
  go_enter Tryz.func19, Tryz.ntmps19
  go_wp2_with fail
  refine (markInt64SS_sep base (.slice a1 F.length c1) [] (cRow (.slice a2 cs.length c2) cs :: (fHead (.slice a3 G.length c3) G :: fItems G ++ (tRow (.slice a4 ts.length c4) ts :: (B ++ [bRow w.heap.size 28 4 [.slice a1 F.length c1, .slice a2 cs.length c2, .slice a3 G.length c3, .slice a4 ts.length c4]])))) F 1 _ (Nat.le_trans hB H0.out.2.size) hs1 HS.out.f (by omega) (by omega) (by simpa [List.append_assoc] using H0.out.1)).mono ?_
  rintro e u1 ⟨rfl, hs, hb⟩
  have H1 : Hid (Sep u1 base (rHead (.slice a1 F.length c1) F :: rItems (markRs 1 F) ++ (cRow (.slice a2 cs.length c2) cs :: (fHead (.slice a3 G.length c3) G :: fItems G ++ (tRow (.slice a4 ts.length c4) ts :: (B ++ [bRow w.heap.size 28 4 [.slice a1 F.length c1, .slice a2 cs.length c2, .slice a3 G.length c3, .slice a4 ts.length c4]]))))) ∧ Below base w u1) := ⟨by simpa [List.append_assoc] using hs, H0.out.2.trans hb⟩
  clear hs hb q0 H0
  generalize hK1 : endR 1 F = K1 at *
  have q1 : u1.cell? ⟨w.heap.size, 1, none⟩ = some (.slice a2 cs.length c2) := bRow.cell (H1.out.1.own (bRow w.heap.size 28 4 [.slice a1 F.length c1, .slice a2 cs.length c2, .slice a3 G.length c3, .slice a4 ts.length c4]) (by simp)) 1 (by omega)
  go_wp2_with fail
  refine (markConstS_ex base (.slice a2 cs.length c2) cs K1 u1 hs2 (by omega) (by omega) (H1.out.1.own (cRow (.slice a2 cs.length c2) cs) (by simp))).mono ?_
  rintro e u2 ⟨rfl, ho, hg⟩
  have H2 : Hid (Sep u2 base (rHead (.slice a1 F.length c1) F :: rItems (markRs 1 F) ++ (cRow (.slice a2 cs.length c2) (mkRow mkC 2 (K1) cs.length) :: (fHead (.slice a3 G.length c3) G :: fItems G ++ (tRow (.slice a4 ts.length c4) ts :: (B ++ [bRow w.heap.size 28 4 [.slice a1 F.length c1, .slice a2 cs.length c2, .slice a3 G.length c3, .slice a4 ts.length c4]]))))) ∧ Below base w u2) := by
    refine ⟨?_, H1.out.2.grown hg (Nat.le_trans hB H1.out.2.size) (fun k hk => ((H1.out.1.own (cRow (.slice a2 cs.length c2) cs) (by simp)).lt k hk).1)⟩
    have := H1.out.1.put ((mkRow mkC 2 K1 cs.length).flatMap MC.cells) ho hg
    simpa [cRow, mkRow_length, List.append_assoc] using this
  clear ho hg q1 H1
  generalize hK2 : K1 + 2 * (cs.length : Int) = K2 at *
  have q2 : u2.cell? ⟨w.heap.size, 2, none⟩ = some (.slice a3 G.length c3) := bRow.cell (H2.out.1.own (bRow w.heap.size 28 4 [.slice a1 F.length c1, .slice a2 cs.length c2, .slice a3 G.length c3, .slice a4 ts.length c4]) (by simp)) 2 (by omega)
  go_wp2_with fail
  refine (markFuncS_sep base (.slice a3 G.length c3) (rHead (.slice a1 F.length c1) F :: rItems (markRs 1 F) ++ [cRow (.slice a2 cs.length c2) (mkRow mkC 2 (K1) cs.length)]) (tRow (.slice a4 ts.length c4) ts :: (B ++ [bRow w.heap.size 28 4 [.slice a1 F.length c1, .slice a2 cs.length c2, .slice a3 G.length c3, .slice a4 ts.length c4]])) G K2 _ (Nat.le_trans hB H2.out.2.size) hs3 HS.out.g (by omega) (by omega) (by simpa [List.append_assoc] using H2.out.1)).mono ?_
  rintro e u3 ⟨rfl, hs, hb⟩
  have H3 : Hid (Sep u3 base (rHead (.slice a1 F.length c1) F :: rItems (markRs 1 F) ++ (cRow (.slice a2 cs.length c2) (mkRow mkC 2 (K1) cs.length) :: (fHead (.slice a3 G.length c3) (markFs K2 G) :: fItems (markFs K2 G) ++ (tRow (.slice a4 ts.length c4) ts :: (B ++ [bRow w.heap.size 28 4 [.slice a1 F.length c1, .slice a2 cs.length c2, .slice a3 G.length c3, .slice a4 ts.length c4]]))))) ∧ Below base w u3) := ⟨by simpa [List.append_assoc] using hs, H2.out.2.trans hb⟩
  clear hs hb q2 H2
  generalize hK3 : endF K2 G = K3 at *
  have q3 : u3.cell? ⟨w.heap.size, 3, none⟩ = some (.slice a4 ts.length c4) := bRow.cell (H3.out.1.own (bRow w.heap.size 28 4 [.slice a1 F.length c1, .slice a2 cs.length c2, .slice a3 G.length c3, .slice a4 ts.length c4]) (by simp)) 3 (by omega)
  go_wp2_with fail
  refine (markCertS_ex base (.slice a4 ts.length c4) ts K3 u3 hs4 (by omega) (by omega) (H3.out.1.own (tRow (.slice a4 ts.length c4) ts) (by simp))).mono ?_
  rintro e u4 ⟨rfl, ho, hg⟩
  have H4 : Hid (Sep u4 base (pItems ⟨.slice a1 F.length c1, .slice a2 cs.length c2, .slice a3 G.length c3, .slice a4 ts.length c4⟩ (markRs 1 F) (mkRow mkC 2 K1 cs.length) (markFs K2 G) (mkRow mkT 4 K3 ts.length) B) ∧ Below base w u4) := by
    refine ⟨?_, H3.out.2.grown hg (Nat.le_trans hB H3.out.2.size) (fun k hk => ((H3.out.1.own (tRow (.slice a4 ts.length c4) ts) (by simp)).lt k hk).1)⟩
    have h1 : Sep u3 base ((rHead (.slice a1 F.length c1) F :: rItems (markRs 1 F) ++ (cRow (.slice a2 cs.length c2) (mkRow mkC 2 (K1) cs.length) :: (fHead (.slice a3 G.length c3) (markFs K2 G) :: fItems (markFs K2 G)))) ++ tRow (.slice a4 ts.length c4) ts :: (B ++ [bRow w.heap.size 28 4 [.slice a1 F.length c1, .slice a2 cs.length c2, .slice a3 G.length c3, .slice a4 ts.length c4]])) := by simpa [List.append_assoc] using H3.out.1
    have h2 := h1.put ((mkRow mkT 4 K3 ts.length).flatMap MT.cells) ho hg
    have h3 : Sep u4 base (pItems ⟨.slice a1 F.length c1, .slice a2 cs.length c2, .slice a3 G.length c3, .slice a4 ts.length c4⟩ (markRs 1 F) (mkRow mkC 2 K1 cs.length) (markFs K2 G) (mkRow mkT 4 K3 ts.length) B ++ [bRow w.heap.size 28 4 [.slice a1 F.length c1, .slice a2 cs.length c2, .slice a3 G.length c3, .slice a4 ts.length c4]]) := by simpa [pItems, rHead_mark, tRow, mkRow_length, List.append_assoc] using h2
    exact h3.front
  clear ho hg q3 H3
  go_wp2
  go_ret
  rw [hK1, hK2, hK3]
  exact ⟨rfl, H4.out⟩
set_option maxHeartbeats 2000000 in
set_option maxRecDepth 100000 in
theorem heldProgram_sep (base : Nat) (v : VP) (F : List (List Int × Value)) (cs : List MC) (G : List (MF × VF)) (ts : List MT) (B : List RowI) (w : World) (hs : PSmall F cs G ts) (h : Sep w base (pItems v (markRs 1 F) (mkRow mkC 2 (endR 1 F) cs.length) (markFs (endR 1 F + 2 * (cs.length : Int)) G) (mkRow mkT 4 (endF (endR 1 F + 2 * (cs.length : Int)) G) ts.length) B)) :
    Calls Tryz.prog 20 #[.agg #[v.r, v.k, v.f, v.t], .int .i64 1] w fun e w' => e = .returned (.int .i64 (endF (endR 1 F + 2 * (cs.length : Int)) G + 4 * (ts.length : Int))) ∧ Below w.heap.size w w' := by
  obtain ⟨vr, vk, vf, vt⟩ := v
  have hr1 : Rd w 1 vr F.length (F.flatMap rCells) := by
    have := Rd.of_own (h.own (rHead vr (markRs 1 F)) (by simp [pItems]))
    rw [rHead_mark] at this
    exact this
  have hr2 : Rd w 2 vk cs.length ((mkRow mkC 2 (endR 1 F) cs.length).flatMap MC.cells) := by
    have := Rd.of_own (h.own (cRow vk (mkRow mkC 2 (endR 1 F) cs.length)) (by simp [pItems]))
    simpa [cRow, mkRow_length] using this
  have hr3 : Rd w 4 vf G.length ((markFs (endR 1 F + 2 * (cs.length : Int)) G).flatMap fCells) := by
    have := Rd.of_own (h.own (fHead vf (markFs (endR 1 F + 2 * (cs.length : Int)) G)) (by simp [pItems]))
    simpa [fHead, markFs_length] using this
  have hr4 : Rd w 4 vt ts.length ((mkRow mkT 4 (endF (endR 1 F + 2 * (cs.length : Int)) G) ts.length).flatMap MT.cells) := by
    have := Rd.of_own (h.own (tRow vt (mkRow mkT 4 (endF (endR 1 F + 2 * (cs.length : Int)) G) ts.length)) (by simp [pItems]))
    simpa [tRow, mkRow_length] using this
  have hf1 : ∀ x ∈ markRs 1 F, Rd w 1 x.2 x.1.length (x.1.flatMap intCell) := fun x hx => Rd.of_own (h.own (iRow x.2 x.1) (by
    have : iRow x.2 x.1 ∈ rItems (markRs 1 F) := List.mem_map.2 ⟨x, hx, rfl⟩
    simp [pItems, this]))
  have hf3 : ∀ x ∈ markFs (endR 1 F + 2 * (cs.length : Int)) G, RdF w x.2 x.1 := fun x hx => by
    have m : ∀ r ∈ fItem x, r ∈ pItems ⟨vr, vk, vf, vt⟩ (markRs 1 F) (mkRow mkC 2 (endR 1 F) cs.length) (markFs (endR 1 F + 2 * (cs.length : Int)) G) (mkRow mkT 4 (endF (endR 1 F + 2 * (cs.length : Int)) G) ts.length) B := fun r hr => by
      have : r ∈ fItems (markFs (endR 1 F + 2 * (cs.length : Int)) G) := List.mem_flatMap.2 ⟨x, hx, hr⟩
      simp [pItems, this]
    exact ⟨Rd.of_own (h.own _ (m (iRow x.2.p x.1.params) (by simp [fItem]))), Rd.of_own (h.own _ (m (iRow x.2.l x.1.locals) (by simp [fItem]))), Rd.of_own (h.own _ (m (nRow x.2.c x.1.code) (by simp [fItem])))⟩
  have hR := endR_le 1 F hs.f
  have hG := endF_le (endR 1 F + 2 * (cs.length : Int)) G hs.g
  have hs1 := hs.fl
  have hs2 := hs.c
  have hs3 := hs.gl
  have hs4 := hs.t
  obtain ⟨a1, c1, e1⟩ := hr1.is_slice
  obtain ⟨a2, c2, e2⟩ := hr2.is_slice
  obtain ⟨a3, c3, e3⟩ := hr3.is_slice
  obtain ⟨a4, c4, e4⟩ := hr4.is_slice
  subst e1 e2 e3 e4
  generalize hK1 : endR 1 F = K1 at *
  generalize hK2 : K1 + 2 * (cs.length : Int) = K2 at *
  generalize hK3 : endF K2 G = K3 at *
  have bA := below_alloc w (.cells #[.slice a1 F.length c1, .slice a2 cs.length c2, .slice a3 G.length c3, .slice a4 ts.length c4] 28)
  have HH : Hid (PSmall F cs G ts ∧ Rd (w.alloc (.cells #[.slice a1 F.length c1, .slice a2 cs.length c2, .slice a3 G.length c3, .slice a4 ts.length c4] 28)) 1 (.slice a1 F.length c1) F.length (F.flatMap rCells) ∧ Rd (w.alloc (.cells #[.slice a1 F.length c1, .slice a2 cs.length c2, .slice a3 G.length c3, .slice a4 ts.length c4] 28)) 2 (.slice a2 cs.length c2) cs.length ((mkRow mkC 2 K1 cs.length).flatMap MC.cells) ∧ Rd (w.alloc (.cells #[.slice a1 F.length c1, .slice a2 cs.length c2, .slice a3 G.length c3, .slice a4 ts.length c4] 28)) 4 (.slice a3 G.length c3) G.length ((markFs K2 G).flatMap fCells) ∧ Rd (w.alloc (.cells #[.slice a1 F.length c1, .slice a2 cs.length c2, .slice a3 G.length c3, .slice a4 ts.length c4] 28)) 4 (.slice a4 ts.length c4) ts.length ((mkRow mkT 4 K3 ts.length).flatMap MT.cells) ∧ (∀ x ∈ markRs 1 F, Rd (w.alloc (.cells #[.slice a1 F.length c1, .slice a2 cs.length c2, .slice a3 G.length c3, .slice a4 ts.length c4] 28)) 1 x.2 x.1.length (x.1.flatMap intCell)) ∧ (∀ x ∈ markFs K2 G, RdF (w.alloc (.cells #[.slice a1 F.length c1, .slice a2 cs.length c2, .slice a3 G.length c3, .slice a4 ts.length c4] 28)) x.2 x.1) ∧ Below w.heap.size w (w.alloc (.cells #[.slice a1 F.length c1, .slice a2 cs.length c2, .slice a3 G.length c3, .slice a4 ts.length c4] 28))) := ⟨hs, hr1.keep bA (Nat.le_refl _), hr2.keep bA (Nat.le_refl _), hr3.keep bA (Nat.le_refl _), hr4.keep bA (Nat.le_refl _), fun x hx => (hf1 x hx).keep bA (Nat.le_refl _), fun x hx => (hf3 x hx).keep bA (Nat.le_refl _), bA⟩
  have HKK : Hid (endR 1 F = K1 ∧ K1 + 2 * (cs.length : Int) = K2 ∧ endF K2 G = K3) := ⟨hK1, hK2, hK3⟩
  obtain ⟨q0, q1, q2, q3⟩ := At4.new w (.slice a1 F.length c1) (.slice a2 cs.length c2) (.slice a3 G.length c3) (.slice a4 ts.length c4) 28
  clear h hs hr1 hr2 hr3 hr4 hf1 hf3 bA
  have hn1 : ¬ K1 < 0 := by omega
  have hn2 : ¬ K2 < 0 := by omega
  have hn3 : ¬ K3 < 0 := by omega
  have hn4 : ¬ K3 + 4 * (ts.length : Int) < 0 := by omega
  go_enter Tryz.func20, Tryz.ntmps20
  go_wp2_with fail
  refine (heldInt64SS_sep (.slice a1 F.length c1) F 1 _ hs1 HH.out.1.f (by omega) (by omega) HH.out.2.1 HH.out.2.2.2.2.2.1).mono ?_
  rintro e u ⟨rfl, rfl⟩
  rw [HKK.out.1]
  go_wp2_with fail
  refine (heldConstS_ex (.slice a2 cs.length c2) cs.length K1 _ hs2 (by omega) (by omega) HH.out.2.2.1).mono ?_
  rintro e u ⟨rfl, rfl⟩
  rw [HKK.out.2.1]
  go_wp2_with fail
  refine (heldFuncS_sep (.slice a3 G.length c3) G K2 _ hs3 HH.out.1.g (by omega) (by omega) HH.out.2.2.2.1 HH.out.2.2.2.2.2.2.1).mono ?_
  rintro e u ⟨rfl, rfl⟩
  rw [HKK.out.2.2]
  go_wp2_with fail
  refine (heldCertS_ex (.slice a4 ts.length c4) ts.length K3 _ hs4 (by omega) (by omega) HH.out.2.2.2.2.1).mono ?_
  rintro e u ⟨rfl, rfl⟩
  go_wp2
  go_ret
  exact ⟨rfl, HH.out.2.2.2.2.2.2.2⟩
end Go.Proofs.YtnemieeeappgnaaGreatDoor
namespace Go.Proofs.YtnemieeeappgnaaGreatDoor
open Go.ChangeShapes Go.WideShapes Go.ChangeAt Go.RowKit
set_option linter.unusedVariables false
theorem num_bd {zs : List Int} (hz : AllB zs) {n k k' : Nat} {bad bad' : Bool} {v : Int} (hn : n ≤ 7) (h : Reads' (numR zs n) k bad v k' bad') (h0 : bad' = true → v = 0) : 0 ≤ v ∧ v < 2 ^ (8 * n) := by
  rcases h with ⟨_, _, h⟩ | ⟨h, _⟩
  · exact numR_val hz hn h
  · rw [h0 h]; exact ⟨by omega, Int.pow_pos (by omega)⟩
/-- One reader behind another. -/
theorem Reads'.then {α β : Type} {r : Rdr α} {f : α → Rdr β} {k k1 k2 : Nat} {b b1 b2 : Bool} {x : α} {y : β} (h : Reads' r k b x k1 b1) (h' : Reads' (f x) k1 b1 y k2 b2) : Reads' (thenR r f) k b y k2 b2 := by
  rcases h with ⟨h1, h2, h3⟩ | ⟨h1, h2⟩
  · rcases h' with ⟨g1, g2, g3⟩ | ⟨g1, g2⟩
    · exact .inl ⟨h1, g2, by rw [thenR_some h3]; exact g3⟩
    · rcases g2 with g2 | g2
      · rw [h2] at g2; cases g2
      · exact .inr ⟨g1, .inr (by rw [thenR_some h3]; exact g2)⟩
  · rcases h' with ⟨g1, g2, g3⟩ | ⟨g1, g2⟩
    · rw [h1] at g1; cases g1
    · exact .inr ⟨g1, h2.imp_right fun e => thenR_none e⟩
theorem Reads'.give {α : Type} (x : α) (k : Nat) (b : Bool) : Reads' (giveR x) k b x k b := by
  cases b
  · exact .inl ⟨rfl, rfl, rfl⟩
  · exact .inr ⟨rfl, .inl rfl⟩
theorem Sep.sub {w : World} {base : Nat} {L M : List RowI} (h : Sep w base L) (hs : M.Sublist L) : Sep w base M := ⟨fun r hr => h.own r (hs.subset hr), h.sep.sublist hs⟩
theorem bRow.ob (X : Nat) (t : TypeId) (k : Nat) (xs : List Value) : (bRow X t k xs).v.ownBlock = some X := rfl
theorem bRow.set {w : World} {base X : Nat} {t : TypeId} {k : Nat} {xs : List Value} (h : (bRow X t k xs).own w base) (i : Nat) (hi : i < k) (x : Value) : (bRow X t k (xs.set i x)).own (w.setCell ⟨X, i, none⟩ x) base := by
  have h' : w.ownsRow base t k (.slice (some ⟨X, 0, none⟩) 1 1) 1 xs := h
  have := h'.stored i x
  exact this.1
theorem Sep.setBox {w : World} {base X : Nat} {A B : List RowI} {t : TypeId} {k : Nat} {xs : List Value} (h : Sep w base (A ++ bRow X t k xs :: B)) (i : Nat) (hi : i < k) (x : Value) : Sep (w.setCell ⟨X, i, none⟩ x) base (A ++ bRow X t k (xs.set i x) :: B) :=
  h.put (xs.set i x) (bRow.set (h.own _ (by simp)) i hi x) (grown_set' (⟨rfl, rfl, rfl, Nat.le_refl _, fun _ _ _ => rfl⟩ : w.grownBy w (some X)) i x)
/-- What has been built and read from w on. -/
structure Bt (w u : World) (Ls : List RowI) (B I L : Nat) (a : Option Addr) (c : Nat) (zs : List Int) (k : Nat) (bad : Bool) : Prop where
  sep : Sep u w.heap.size Ls
  got : GotAt w u B I L a c zs k bad
  lt : I < w.heap.size
section
variable {w u v : World} {Ls : List RowI} {B I L : Nat} {a : Option Addr} {c : Nat} {zs : List Int} {k k' : Nat} {bad bad' : Bool}
theorem Bt.start (h : InAt w B I L a c zs k bad) : Bt w w [] B I L a c zs k bad := ⟨Sep.nil _ _, GotAt.refl h, h.lt⟩
theorem Bt.size (h : Bt w u Ls B I L a c zs k bad) : w.heap.size ≤ u.heap.size := h.got.chg.size
theorem Bt.keep (h : Bt w u Ls B I L a c zs k bad) (hb : Below u.heap.size u v) : Bt w v Ls B I L a c zs k bad := ⟨h.sep.keep hb, h.got.keep hb, h.lt⟩
theorem Bt.read (h : Bt w u Ls B I L a c zs k bad) (hg : GotAt u v B I L a c zs k' bad') : Bt w v Ls B I L a c zs k' bad' := ⟨h.sep.chg hg.chg (fun j hj e => by have := h.lt; omega), h.got.trans hg, h.lt⟩
theorem Bt.box (h : Bt w u Ls B I L a c zs k bad) (t : TypeId) (q : Nat) (xs : List Value) (hk : xs.length = q) : Bt w (u.alloc (.cells xs.toArray t)) (Ls ++ [bRow u.heap.size t q xs]) B I L a c zs k bad := ⟨h.sep.box h.size t q xs hk, h.got.keep (below_alloc _ _), h.lt⟩
/-- A call that reads gave a row of its own, and more. -/
theorem Bt.rows (h : Bt w u Ls B I L a c zs k bad) (hg : GotAt u v B I L a c zs k' bad') {M : List RowI} (hs : Sep v u.heap.size M) : Bt w v (Ls ++ M) B I L a c zs k' bad' :=
  ⟨(h.read hg).sep.app hs (fun x hx g hgx => (h.sep.lt x hx g hgx).2) h.size, (h.read hg).got, h.lt⟩
theorem Bt.row (h : Bt w u Ls B I L a c zs k bad) (hg : GotAt u v B I L a c zs k' bad') {r : RowI} (ho : r.own v u.heap.size) : Bt w v (Ls ++ [r]) B I L a c zs k' bad' :=
  h.rows hg ⟨fun x hx => by rw [List.mem_singleton.1 hx]; exact ho, List.pairwise_singleton _ _⟩
theorem Bt.set {A C : List RowI} {X : Nat} {t : TypeId} {q : Nat} {xs : List Value} (h : Bt w u (A ++ bRow X t q xs :: C) B I L a c zs k bad) (i : Nat) (hi : i < q) (x : Value) : Bt w (u.setCell ⟨X, i, none⟩ x) (A ++ bRow X t q (xs.set i x) :: C) B I L a c zs k bad :=
  ⟨h.sep.setBox i hi x, h.got.set X i x ((h.sep.lt (bRow X t q xs) (by simp) X rfl).1) h.lt, h.lt⟩
theorem Bt.grow {A C : List RowI} {r : RowI} (h : Bt w u (A ++ r :: C) B I L a c zs k bad) (r' : RowI) (ho : r'.own v w.heap.size) (hg : u.grownBy v r.v.ownBlock) (hat : r'.v.ownBlock = r.v.ownBlock ∨ ∀ g, r'.v.ownBlock = some g → u.heap.size ≤ g) : Bt w v (A ++ r' :: C) B I L a c zs k bad :=
  ⟨h.sep.grow r' ho hg hat, h.got.grow hg (fun g e => (h.sep.lt r (by simp) g e).1) h.lt, h.lt⟩
theorem Bt.app {A C : List RowI} {r : RowI} (h : Bt w u (A ++ r :: C) B I L a c zs k bad) (r' : RowI) (ho : r'.own v w.heap.size) (hg : u.grownBy v r.v.ownBlock) (hat : r'.v.ownBlock = r.v.ownBlock ∨ r'.v.ownBlock = some u.heap.size) : Bt w v (A ++ r' :: C) B I L a c zs k bad :=
  h.grow r' ho hg (hat.imp_right fun e g hg => by rw [e] at hg; cases hg; exact Nat.le_refl _)
theorem Bt.sub {M : List RowI} (h : Bt w u Ls B I L a c zs k bad) (hs : M.Sublist Ls) : Bt w u M B I L a c zs k bad := ⟨h.sep.sub hs, h.got, h.lt⟩
theorem Bt.perm {M : List RowI} (h : Bt w u Ls B I L a c zs k bad) (hs : Ls.Perm M) : Bt w u M B I L a c zs k bad := ⟨h.sep.perm hs, h.got, h.lt⟩
theorem Bt.nil (h : Bt w u Ls B I L a c zs k bad) (e : TypeId) (q : Nat) : Bt w u (Ls ++ [⟨e, q, .slice none 0 0, 0, []⟩]) B I L a c zs k bad :=
  ⟨h.sep.snoc (N := u.heap.size) (fun x hx g hg => (h.sep.lt x hx g hg).2) (World.ownsRow_nil _ _ _ _) h.size, h.got, h.lt⟩
theorem Bt.cell {X : Nat} {t : TypeId} {q : Nat} {xs : List Value} (h : Bt w u Ls B I L a c zs k bad) (hm : bRow X t q xs ∈ Ls) (i : Nat) (hi : i < q) : u.cell? ⟨X, i, none⟩ = xs[i]? := bRow.cell (h.sep.own _ hm) i hi
theorem Bt.frozen {X : Nat} {t : TypeId} {q : Nat} {xs : List Value} (h : Bt w u Ls B I L a c zs k bad) (hm : bRow X t q xs ∈ Ls) (i : Nat) : u.frozen? ⟨X, i, none⟩ = false := World.ownsRow.frozenAt (show u.ownsRow w.heap.size t q (.slice (some ⟨X, 0, none⟩) 1 1) 1 xs from h.sep.own _ hm) i
theorem Bt.four {X : Nat} {t : TypeId} {x0 x1 x2 x3 : Value} (h : Bt w u Ls B I L a c zs k bad) (hm : bRow X t 4 [x0, x1, x2, x3] ∈ Ls) : (u.cell? ⟨X, 0, none⟩ = some x0 ∧ u.cell? ⟨X, 1, none⟩ = some x1 ∧ u.cell? ⟨X, 2, none⟩ = some x2 ∧ u.cell? ⟨X, 3, none⟩ = some x3) ∧ (u.frozen? ⟨X, 0, none⟩ = false ∧ u.frozen? ⟨X, 1, none⟩ = false ∧ u.frozen? ⟨X, 2, none⟩ = false ∧ u.frozen? ⟨X, 3, none⟩ = false) :=
  ⟨⟨h.cell hm 0 (by omega), h.cell hm 1 (by omega), h.cell hm 2 (by omega), h.cell hm 3 (by omega)⟩, h.frozen hm 0, h.frozen hm 1, h.frozen hm 2, h.frozen hm 3⟩
theorem Bt.four_set {X : Nat} {t : TypeId} {x0 x1 x2 x3 : Value} {C : List RowI} (h : Bt w u (bRow X t 4 [x0, x1, x2, x3] :: C) B I L a c zs k bad) (y0 y1 y2 y3 : Value) : Bt w ((((u.setCell ⟨X, 0, none⟩ y0).setCell ⟨X, 1, none⟩ y1).setCell ⟨X, 2, none⟩ y2).setCell ⟨X, 3, none⟩ y3) (bRow X t 4 [y0, y1, y2, y3] :: C) B I L a c zs k bad :=
  Bt.set (A := []) (Bt.set (A := []) (Bt.set (A := []) (Bt.set (A := []) h 0 (by omega) y0) 1 (by omega) y1) 2 (by omega) y2) 3 (by omega) y3
end
end Go.Proofs.YtnemieeeappgnaaGreatDoor
