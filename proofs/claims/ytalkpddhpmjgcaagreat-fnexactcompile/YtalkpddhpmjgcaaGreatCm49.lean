import Derived.Test.YtalkpddhpmjgcaaGreatCm48
import Derived.Test.YtalkpddhpmjgcaaGreatCm2
namespace Go.Proofs.YtalkpddhpmjgcaaGreat
open Go.ChangeShapes Go.WideShapes Go.ChangeAt Go.RowKit
set_option linter.unusedVariables false
theorem Rd.block {w w' : World} {k n m c g o : Nat} {xs : List Value} (h : Rd w k (.slice (some ⟨g, o, none⟩) n c) m xs) (hb : w'.heap[g]? = w.heap[g]?) : Rd w' k (.slice (some ⟨g, o, none⟩) n c) m xs := by
  refine ⟨h.1, ?_⟩
  rcases h.2 with h2 | ⟨g', o', c', e, hc⟩
  · exact .inl h2
  · refine .inr ⟨g', o', c', e, fun j u hj => ?_⟩
    simp only [Value.slice.injEq, Option.some.injEq, Addr.mk.injEq, and_true] at e
    obtain ⟨⟨rfl, rfl⟩, _⟩ := e
    rw [World.cell?_of_block hb]
    exact hc j u hj
theorem rdp_slices {w : World} {v : VP} {p : MP} (h : RdP w v p) : ∃ a1 c1 a2 c2 a3 c3 a4 c4, v = ⟨.slice a1 p.regions.length c1, .slice a2 p.consts.length c2, .slice a3 p.funcs.length c3, .slice a4 p.certs.length c4⟩ := by
  obtain ⟨v1, v2, v3, v4⟩ := v
  obtain ⟨a1, c1, e1⟩ : ∃ a c, v1 = .slice a p.regions.length c := by obtain ⟨xs, _, h2, _⟩ := h.regions; exact h2.is_slice
  obtain ⟨a2, c2, e2⟩ : ∃ a c, v2 = .slice a p.consts.length c := h.consts.is_slice
  obtain ⟨a3, c3, e3⟩ : ∃ a c, v3 = .slice a p.funcs.length c := by obtain ⟨xs, _, h2, _⟩ := h.funcs; exact h2.is_slice
  obtain ⟨a4, c4, e4⟩ : ∃ a c, v4 = .slice a p.certs.length c := h.certs.is_slice
  exact ⟨a1, c1, a2, c2, a3, c3, a4, c4, by rw [e1, e2, e3, e4]⟩
theorem psmall_of {F : List (List Int × Value)} {cs : List MC} {G : List (MF × VF)} {ts : List MT} (h : MP.small ⟨F.map Prod.fst, cs, G.map Prod.fst, ts⟩) : PSmall F cs G ts :=
  ⟨by simpa using h.regions, fun x hx => h.region x.1 (List.mem_map.2 ⟨x, hx, rfl⟩), h.consts, by simpa using h.funcs, fun x hx => h.func x.1 (List.mem_map.2 ⟨x, hx, rfl⟩), h.certs⟩
theorem CompIs.small {xs : List AT} {p : MP} (h : CompIs xs p) : p.small := by
  rcases h with ⟨h1, _, rfl⟩ | ⟨_, rfl⟩
  · exact h1.small.1
  · exact ⟨by simp, fun r hr => (by cases hr), by simp, by simp, fun f hf => (by cases hf), by simp⟩
/-- The helpers' copy that is marked: its own row at B, what stands in it from there on to N. -/
def X1s (u : World) (B N n : Nat) (s : Value) (hs : List (TL n)) : Prop := ∃ xs : List (TL n × SL), xs.map Prod.fst = hs ∧ s = .slice (some ⟨B, 0, none⟩) hs.length hs.length ∧ Rd u 1 s hs.length ((xs.map Prod.snd).flatMap slCell) ∧ ∀ x ∈ xs, ShT u (B + 1) N n (slV x.2) x.1
theorem OwnHb.x1 {w : World} {base n : Nat} {s : Value} {hs : List (TL n)} (h : OwnHb w base n s hs) : X1s w base w.heap.size n s hs := by
  obtain ⟨xs, h1, h4, h2, h3⟩ := h
  exact ⟨xs, h1, h4, Rd.of_own h2, fun x hx => (h3 x hx).shape (Nat.le_refl _)⟩
theorem X1s.keep {w w' : World} {B N n : Nat} {s : Value} {hs : List (TL n)} (h : X1s w B N n s hs) (hb : Below w.heap.size w w') : X1s w' B N n s hs := by
  obtain ⟨xs, h1, h4, h2, h3⟩ := h
  exact ⟨xs, h1, h4, h2.keep hb (Nat.le_refl _), fun x hx => (h3 x hx).keep hb⟩
theorem X1s.mks {w w' : World} {B N n lo : Nat} {s : Value} {hs : List (TL n)} (h : X1s w B N n s hs) (hm : Mks lo B w w') : X1s w' B N n s hs := by
  obtain ⟨xs, h1, h4, h2, h3⟩ := h
  refine ⟨xs, h1, h4, ?_, fun x hx => (h3 x hx).mks hm⟩
  subst h4
  exact h2.block (hm.block B (by omega))
theorem X1s.all {w : World} {B N n : Nat} {s : Value} {hs : List (TL n)} (h : X1s w B N n s hs) : ∃ xs : List (TL n × SL), xs.map Prod.fst = hs ∧ (∀ u, Mks (B + 1) N w u → Rd u 1 s hs.length ((xs.map Prod.snd).flatMap slCell)) ∧ ∀ x ∈ xs, ShT w (B + 1) N n (slV x.2) x.1 := by
  obtain ⟨xs, h1, h4, h2, h3⟩ := h
  subst h4
  exact ⟨xs, h1, fun u hu => h2.block (hu.block B (by omega)), h3⟩
set_option maxHeartbeats 8000000 in
set_option maxRecDepth 100000 in
theorem compile_walk (n1 : Nat) (t : TL n1) (n2 : Nat) (hs : List (TL n2)) (s0 s1 : Value) (w : World) (h0 : RdT w n1 s0 t) (b0 : fitT n1 t) (h1 : RdHs w n2 s1 hs) (b1 : ∀ x ∈ hs, fitT n2 x) (b2 : hs.length ≤ 9223372036854775807) :
    Calls Tryz.prog 3 #[s0, s1] w fun e w' => e = .returned (.bool true) ∧ Below w.heap.size w w' := by
  have H : Hid (RdT w n1 s0 t ∧ fitT n1 t ∧ RdHs w n2 s1 hs ∧ (∀ x ∈ hs, fitT n2 x) ∧ hs.length ≤ 9223372036854775807) := ⟨h0, b0, h1, b1, b2⟩
  clear h0 b0 h1 b1 b2
  go_enter Tryz.func3, Tryz.ntmps3
  go_wp2_with fail
  refine (szStmtS_any n1 s0 t 1048576 w H.out.1 H.out.2.1 (by omega) (by omega)).mono ?_
  rintro e u ⟨rfl, c1⟩
  have B1 : Hid (Below w.heap.size w u) := c1
  clear c1
  by_cases hb : (1048576 : Int) < (sizeT n1 t : Int)
  · rw [szK_neg hb]
    clear hb
    go_wp2_with fail
    go_ret
    exact ⟨rfl, B1.out⟩
  rw [szK_pos (by omega)]
  have HS1 : Hid (sizeT n1 t ≤ 1048576) := by show sizeT n1 t ≤ 1048576; omega
  have hnn : ¬ ((1048576 : Int) - (sizeT n1 t : Int)) < 0 := by omega
  generalize hlf : (1048576 : Int) - (sizeT n1 t : Int) = lf at hnn ⊢
  have hlf2 : lf ≤ 1048576 := by omega
  have HLF : Hid ((1048576 : Int) - (sizeT n1 t : Int) = lf) := hlf
  clear hlf hb
  go_wp2_with fail
  refine (szStmtSS_any n2 s1 hs lf u (H.out.2.2.1.keep B1.out (Nat.le_refl _)) H.out.2.2.2.1 H.out.2.2.2.2 (by omega) hlf2).mono ?_
  rintro e u2 ⟨rfl, c2⟩
  have B2 : Hid (Below w.heap.size w u2) := below_on B1.out (Nat.le_refl _) c2
  clear c2 B1
  by_cases hb : lf < (sizeH hs : Int)
  · rw [szK_neg hb]
    clear hb
    go_wp2_with fail
    go_ret
    exact ⟨rfl, B2.out⟩
  rw [szK_pos (by omega)]
  have HSZ : Hid (sizeT n1 t ≤ 1048576 ∧ sizeH hs ≤ 1048576 ∧ hs.length ≤ 1048576 ∧ ∀ x ∈ hs, sizeT n2 x ≤ 1048576) := by
    have a := HLF.out
    have c : sizeH hs ≤ 1048576 := by omega
    have d := sumH_le hs 0
    exact ⟨HS1.out, c, by omega, fun x hx => Nat.le_trans (sizeH_mem hx) c⟩
  have hnn2 : ¬ (lf - (sizeH hs : Int)) < 0 := by omega
  clear hb HLF HS1 hlf2 hnn
  go_wp2_with fail
  refine (toStmtS_any n1 s0 t u2 (H.out.1.keep B2.out (Nat.le_refl _)) HSZ.out.1).mono ?_
  rintro e u3 ⟨v1, rfl, o1, c3⟩
  have B3 : Hid (RdT u3 n1 v1 t ∧ Below w.heap.size w u3) := ⟨o1.rd, below_on B2.out (Nat.le_refl _) c3⟩
  clear o1 c3 B2 hnn2
  go_wp2_with fail
  refine (toStmtSS_any n2 s1 hs u3 (H.out.2.2.1.keep B3.out.2 (Nat.le_refl _)) HSZ.out.2.2.2 HSZ.out.2.2.1).mono ?_
  rintro e u4 ⟨v2, rfl, o2, c4⟩
  have B4 : Hid (RdT u4 n1 v1 t ∧ RdHs u4 n2 v2 hs ∧ Below w.heap.size w u4) := ⟨B3.out.1.keep c4 (Nat.le_refl _), o2.zero.rd, below_on B3.out.2 (Nat.le_refl _) c4⟩
  clear o2 c4 B3
  go_wp2_with fail
  refine (specCompile_any n1 t n2 hs v1 v2 u4 B4.out.1 B4.out.2.1 HSZ.out.1 HSZ.out.2.2.2 HSZ.out.2.2.1).mono ?_
  rintro e u5 ⟨vs, Fs, ks, Gs, ls, rfl, hbl, hcp⟩
  obtain ⟨p, hp⟩ : ∃ p : MP, p = ⟨Fs.map Prod.fst, ks, Gs.map Prod.fst, ls⟩ := ⟨_, rfl⟩
  have hrd : RdP u5 vs p := by rw [hp]; exact hbl.sep.ownP.rd
  rw [← hp] at hcp
  clear hp
  obtain ⟨f1, g1, f2, g2, f3, g3, f4, g4, ev⟩ := rdp_slices hrd
  subst ev
  have HP : Hid (CompIs (allA n1 t n2 hs) p ∧ p.small) := ⟨hcp, hcp.small⟩
  generalize p.regions.length = r1 at hrd
  generalize p.consts.length = r2 at hrd
  generalize p.funcs.length = r3 at hrd
  generalize p.certs.length = r4 at hrd
  have E0 : Hid (Below w.heap.size w (u5.alloc (.cells #[.slice f1 r1 g1, .slice f2 r2 g2, .slice f3 r3 g3, .slice f4 r4 g4] 31)) ∧ Blk (u5.alloc (.cells #[.slice f1 r1 g1, .slice f2 r2 g2, .slice f3 r3 g3, .slice f4 r4 g4] 31)) u5.heap.size #[.slice f1 r1 g1, .slice f2 r2 g2, .slice f3 r3 g3, .slice f4 r4 g4] 31 ∧ RdP (u5.alloc (.cells #[.slice f1 r1 g1, .slice f2 r2 g2, .slice f3 r3 g3, .slice f4 r4 g4] 31)) ⟨.slice f1 r1 g1, .slice f2 r2 g2, .slice f3 r3 g3, .slice f4 r4 g4⟩ p) := ⟨below_on (below_on B4.out.2.2 (Nat.le_refl _) hbl.bel) (Nat.le_refl _) (below_alloc _ _), Blk.new _ _ _, hrd.keep (below_alloc _ _) (Nat.le_refl _)⟩
  clear hbl hcp hrd B4
  go_upto_region 9 with fail
  generalize u5.heap.size = X6 at E0 ⊢
  refine wp_world (fun U => Hid (Below w.heap.size w U ∧ Blk U X6 #[.slice f1 r1 g1, .slice f2 r2 g2, .slice f3 r3 g3, .slice f4 r4 g4] 31 ∧ RdP U ⟨.slice f1 r1 g1, .slice f2 r2 g2, .slice f3 r3 g3, .slice f4 r4 g4⟩ p)) E0 ?_
  clear E0 u u2 u3 u4 u5
  rintro W0 E0
  -- what stays, whatever is done from here on
  have KW : Hid (∀ u, Below W0.heap.size W0 u → (u.cell? ⟨X6, 0, none⟩ = some (.slice f1 r1 g1) ∧ u.cell? ⟨X6, 1, none⟩ = some (.slice f2 r2 g2) ∧ u.cell? ⟨X6, 2, none⟩ = some (.slice f3 r3 g3) ∧ u.cell? ⟨X6, 3, none⟩ = some (.slice f4 r4 g4)) ∧ RdP u ⟨.slice f1 r1 g1, .slice f2 r2 g2, .slice f3 r3 g3, .slice f4 r4 g4⟩ p ∧ RdT u n1 s0 t ∧ RdHs u n2 s1 hs ∧ Below w.heap.size w u) := fun u hu => by
    have hk := E0.out.2.1.keep hu
    have hb := below_on E0.out.1 (Nat.le_refl _) hu
    exact ⟨⟨hk.cell 0, hk.cell 1, hk.cell 2, hk.cell 3⟩, E0.out.2.2.keep hu (Nat.le_refl _), H.out.1.keep hb (Nat.le_refl _), H.out.2.2.1.keep hb (Nat.le_refl _), hb⟩
  clear E0
  have K0 : Hid (Below W0.heap.size W0 W0) := Below.refl _ _
  go_wp2_with fail
  refine (toStmtS_any n1 s0 t W0 (KW.out _ K0.out).2.2.1 HSZ.out.1).mono ?_
  rintro e W1 ⟨y0, rfl, o1, c3⟩
  have K1 : Hid (Below W0.heap.size W0 W1 ∧ OwnT W1 W0.heap.size n1 y0 t ∧ ShT W1 W0.heap.size W1.heap.size n1 y0 t) := ⟨c3, o1, o1.shape (Nat.le_refl _)⟩
  clear o1 c3 K0
  go_wp2_with fail
  refine (toStmtSS_any n2 s1 hs W1 (KW.out _ K1.out.1).2.2.2.1 HSZ.out.2.2.2 HSZ.out.2.2.1).mono ?_
  rintro e W2 ⟨y1, rfl, o2, c4⟩
  have K2 : Hid (Below W0.heap.size W0 W2 ∧ OwnT W2 W0.heap.size n1 y0 t ∧ ShT W2 W0.heap.size W1.heap.size n1 y0 t ∧ OwnHb W2 W1.heap.size n2 y1 hs ∧ X1s W2 W1.heap.size W2.heap.size n2 y1 hs ∧ W1.heap.size ≤ W2.heap.size) := ⟨below_on K1.out.1 (Nat.le_refl _) c4, K1.out.2.1.keep c4 (Nat.le_refl _), K1.out.2.2.keep c4, o2, o2.x1, c4.size⟩
  have HW01 : Hid (W0.heap.size ≤ W1.heap.size) := K1.out.1.size
  clear o2 c4 K1
  go_wp2_with fail
  refine (implCompile_any n1 t n2 hs y0 y1 W2 (K2.out.2.1.base (Nat.zero_le _)) K2.out.2.2.2.1.zero HSZ.out.1 HSZ.out.2.2.2 HSZ.out.2.2.1).mono ?_
  rintro e W3 ⟨vg, F, cs, G, ts, rfl, hbl, hcp⟩
  obtain rfl := HP.out.1.one hcp
  obtain ⟨⟨a1, d1, a2, d2, a3, d3, a4, d4, ev⟩, -⟩ := hbl.prow
  subst ev
  have HPS : Hid (PSmall F cs G ts) := psmall_of HP.out.2
  have E4 : Hid (Below W0.heap.size W0 (W3.alloc (.cells #[.slice a1 F.length d1, .slice a2 cs.length d2, .slice a3 G.length d3, .slice a4 ts.length d4] 31)) ∧ Sep (W3.alloc (.cells #[.slice a1 F.length d1, .slice a2 cs.length d2, .slice a3 G.length d3, .slice a4 ts.length d4] 31)) W2.heap.size (pItems ⟨.slice a1 F.length d1, .slice a2 cs.length d2, .slice a3 G.length d3, .slice a4 ts.length d4⟩ F cs G ts [gb W3.heap.size ⟨.slice a1 F.length d1, .slice a2 cs.length d2, .slice a3 G.length d3, .slice a4 ts.length d4⟩]) ∧ W2.heap.size ≤ (W3.alloc (.cells #[.slice a1 F.length d1, .slice a2 cs.length d2, .slice a3 G.length d3, .slice a4 ts.length d4] 31)).heap.size ∧ RdT (W3.alloc (.cells #[.slice a1 F.length d1, .slice a2 cs.length d2, .slice a3 G.length d3, .slice a4 ts.length d4] 31)) n1 y0 t ∧ ShT (W3.alloc (.cells #[.slice a1 F.length d1, .slice a2 cs.length d2, .slice a3 G.length d3, .slice a4 ts.length d4] 31)) W0.heap.size W1.heap.size n1 y0 t ∧ RdHs (W3.alloc (.cells #[.slice a1 F.length d1, .slice a2 cs.length d2, .slice a3 G.length d3, .slice a4 ts.length d4] 31)) n2 y1 hs ∧ X1s (W3.alloc (.cells #[.slice a1 F.length d1, .slice a2 cs.length d2, .slice a3 G.length d3, .slice a4 ts.length d4] 31)) W1.heap.size W2.heap.size n2 y1 hs) := by
    have hb9 : Below W2.heap.size W2 (W3.alloc (.cells #[.slice a1 F.length d1, .slice a2 cs.length d2, .slice a3 G.length d3, .slice a4 ts.length d4] 31)) := below_on hbl.bel (Nat.le_refl _) (below_alloc _ _)
    have hbx := hbl.box 31 4 [.slice a1 F.length d1, .slice a2 cs.length d2, .slice a3 G.length d3, .slice a4 ts.length d4] rfl
    rw [← pItems_app] at hbx
    exact ⟨below_on K2.out.1 (Nat.le_refl _) hb9, hbx.sep, hb9.size, K2.out.2.1.rd.keep hb9 (Nat.le_refl _), K2.out.2.2.1.keep hb9, K2.out.2.2.2.1.zero.rd.keep hb9 (Nat.le_refl _), K2.out.2.2.2.2.1.keep hb9⟩
  have HBN : Hid (W0.heap.size ≤ W1.heap.size ∧ W1.heap.size ≤ W2.heap.size) := ⟨HW01.out, K2.out.2.2.2.2.2⟩
  clear hbl hcp K2 HW01
  go_upto_region 12 with fail
  generalize W3.heap.size = X9 at E4 ⊢
  generalize W2.heap.size = N at E4 HBN
  generalize W1.heap.size = B1 at E4 HBN
  refine wp_world (fun U => Hid (Below W0.heap.size W0 U ∧ Sep U N (pItems ⟨.slice a1 F.length d1, .slice a2 cs.length d2, .slice a3 G.length d3, .slice a4 ts.length d4⟩ F cs G ts [gb X9 ⟨.slice a1 F.length d1, .slice a2 cs.length d2, .slice a3 G.length d3, .slice a4 ts.length d4⟩]) ∧ N ≤ U.heap.size ∧ RdT U n1 y0 t ∧ ShT U W0.heap.size B1 n1 y0 t ∧ RdHs U n2 y1 hs ∧ X1s U B1 N n2 y1 hs)) E4 ?_
  clear E4 W1 W2 W3
  rintro U4 E4
  have C9 : Hid (∀ u (F' : List (List Int × Value)) (cs' : List MC) (G' : List (MF × VF)) (ts' : List MT), Sep u N (pItems ⟨.slice a1 F.length d1, .slice a2 cs.length d2, .slice a3 G.length d3, .slice a4 ts.length d4⟩ F' cs' G' ts' [gb X9 ⟨.slice a1 F.length d1, .slice a2 cs.length d2, .slice a3 G.length d3, .slice a4 ts.length d4⟩]) → u.cell? ⟨X9, 0, none⟩ = some (.slice a1 F.length d1) ∧ u.cell? ⟨X9, 1, none⟩ = some (.slice a2 cs.length d2) ∧ u.cell? ⟨X9, 2, none⟩ = some (.slice a3 G.length d3) ∧ u.cell? ⟨X9, 3, none⟩ = some (.slice a4 ts.length d4)) := fun u F' cs' G' ts' hh => ⟨bRow.cell (hh.own (gb X9 ⟨.slice a1 F.length d1, .slice a2 cs.length d2, .slice a3 G.length d3, .slice a4 ts.length d4⟩) (by simp [pItems])) 0 (by omega), bRow.cell (hh.own (gb X9 ⟨.slice a1 F.length d1, .slice a2 cs.length d2, .slice a3 G.length d3, .slice a4 ts.length d4⟩) (by simp [pItems])) 1 (by omega), bRow.cell (hh.own (gb X9 ⟨.slice a1 F.length d1, .slice a2 cs.length d2, .slice a3 G.length d3, .slice a4 ts.length d4⟩) (by simp [pItems])) 2 (by omega), bRow.cell (hh.own (gb X9 ⟨.slice a1 F.length d1, .slice a2 cs.length d2, .slice a3 G.length d3, .slice a4 ts.length d4⟩) (by simp [pItems])) 3 (by omega)⟩
  have KK : Hid (∀ u u', (Below W0.heap.size W0 u ∧ Sep u N (pItems ⟨.slice a1 F.length d1, .slice a2 cs.length d2, .slice a3 G.length d3, .slice a4 ts.length d4⟩ F cs G ts [gb X9 ⟨.slice a1 F.length d1, .slice a2 cs.length d2, .slice a3 G.length d3, .slice a4 ts.length d4⟩]) ∧ N ≤ u.heap.size ∧ RdT u n1 y0 t ∧ ShT u W0.heap.size B1 n1 y0 t ∧ RdHs u n2 y1 hs ∧ X1s u B1 N n2 y1 hs) → Below u.heap.size u u' → (Below W0.heap.size W0 u' ∧ Sep u' N (pItems ⟨.slice a1 F.length d1, .slice a2 cs.length d2, .slice a3 G.length d3, .slice a4 ts.length d4⟩ F cs G ts [gb X9 ⟨.slice a1 F.length d1, .slice a2 cs.length d2, .slice a3 G.length d3, .slice a4 ts.length d4⟩]) ∧ N ≤ u'.heap.size ∧ RdT u' n1 y0 t ∧ ShT u' W0.heap.size B1 n1 y0 t ∧ RdHs u' n2 y1 hs ∧ X1s u' B1 N n2 y1 hs)) := fun u u' h hb => ⟨below_on h.1 (Nat.le_refl _) hb, h.2.1.keep hb, Nat.le_trans h.2.2.1 hb.size, h.2.2.2.1.keep hb (Nat.le_refl _), h.2.2.2.2.1.keep hb, h.2.2.2.2.2.1.keep hb (Nat.le_refl _), h.2.2.2.2.2.2.keep hb⟩
  obtain ⟨z0, z1, z2, z3⟩ := C9.out _ _ _ _ _ E4.out.2.1
  obtain ⟨⟨x0, x1, x2, x3⟩, -⟩ := KW.out _ E4.out.1
  go_wp2_with fail
  refine (eqProgram_same ⟨.slice a1 F.length d1, .slice a2 cs.length d2, .slice a3 G.length d3, .slice a4 ts.length d4⟩ ⟨.slice f1 r1 g1, .slice f2 r2 g2, .slice f3 r3 g3, .slice f4 r4 g4⟩ (⟨F.map Prod.fst, cs, G.map Prod.fst, ts⟩ : MP) U4 HP.out.2 E4.out.2.1.ownP.rd (KW.out _ E4.out.1).2.1).mono ?_
  rintro e U5 ⟨rfl, hb⟩
  have E5 : Hid (Below W0.heap.size W0 U5 ∧ Sep U5 N (pItems ⟨.slice a1 F.length d1, .slice a2 cs.length d2, .slice a3 G.length d3, .slice a4 ts.length d4⟩ F cs G ts [gb X9 ⟨.slice a1 F.length d1, .slice a2 cs.length d2, .slice a3 G.length d3, .slice a4 ts.length d4⟩]) ∧ N ≤ U5.heap.size ∧ RdT U5 n1 y0 t ∧ ShT U5 W0.heap.size B1 n1 y0 t ∧ RdHs U5 n2 y1 hs ∧ X1s U5 B1 N n2 y1 hs) := KK.out _ _ E4.out hb
  clear hb E4 z0 z1 z2 z3 x0 x1 x2 x3
  go_wp2_with fail
  refine (toStmtS_any n1 s0 t U5 (KW.out _ E5.out.1).2.2.1 HSZ.out.1).mono ?_
  rintro e U6 ⟨q1, rfl, o1, hb⟩
  have E6 : Hid (Below W0.heap.size W0 U6 ∧ Sep U6 N (pItems ⟨.slice a1 F.length d1, .slice a2 cs.length d2, .slice a3 G.length d3, .slice a4 ts.length d4⟩ F cs G ts [gb X9 ⟨.slice a1 F.length d1, .slice a2 cs.length d2, .slice a3 G.length d3, .slice a4 ts.length d4⟩]) ∧ N ≤ U6.heap.size ∧ RdT U6 n1 y0 t ∧ ShT U6 W0.heap.size B1 n1 y0 t ∧ RdHs U6 n2 y1 hs ∧ X1s U6 B1 N n2 y1 hs) := KK.out _ _ E5.out hb
  have O6 : Hid (RdT U6 n1 q1 t) := o1.rd
  clear hb E5 o1
  go_wp2_with fail
  refine (eqStmtS_any n1 y0 q1 t U6 E6.out.2.2.2.1 O6.out HSZ.out.1).mono ?_
  rintro e U7 ⟨rfl, hb⟩
  have E7 : Hid (Below W0.heap.size W0 U7 ∧ Sep U7 N (pItems ⟨.slice a1 F.length d1, .slice a2 cs.length d2, .slice a3 G.length d3, .slice a4 ts.length d4⟩ F cs G ts [gb X9 ⟨.slice a1 F.length d1, .slice a2 cs.length d2, .slice a3 G.length d3, .slice a4 ts.length d4⟩]) ∧ N ≤ U7.heap.size ∧ RdT U7 n1 y0 t ∧ ShT U7 W0.heap.size B1 n1 y0 t ∧ RdHs U7 n2 y1 hs ∧ X1s U7 B1 N n2 y1 hs) := KK.out _ _ E6.out hb
  clear hb E6 O6
  go_wp2_with fail
  refine (toStmtSS_any n2 s1 hs U7 (KW.out _ E7.out.1).2.2.2.1 HSZ.out.2.2.2 HSZ.out.2.2.1).mono ?_
  rintro e U8 ⟨q2, rfl, o2, hb⟩
  have E8 : Hid (Below W0.heap.size W0 U8 ∧ Sep U8 N (pItems ⟨.slice a1 F.length d1, .slice a2 cs.length d2, .slice a3 G.length d3, .slice a4 ts.length d4⟩ F cs G ts [gb X9 ⟨.slice a1 F.length d1, .slice a2 cs.length d2, .slice a3 G.length d3, .slice a4 ts.length d4⟩]) ∧ N ≤ U8.heap.size ∧ RdT U8 n1 y0 t ∧ ShT U8 W0.heap.size B1 n1 y0 t ∧ RdHs U8 n2 y1 hs ∧ X1s U8 B1 N n2 y1 hs) := KK.out _ _ E7.out hb
  have O8 : Hid (RdHs U8 n2 q2 hs) := o2.zero.rd
  clear hb E7 o2
  go_wp2_with fail
  refine (eqStmtSS_any n2 y1 q2 hs U8 E8.out.2.2.2.2.2.1 O8.out HSZ.out.2.2.2 HSZ.out.2.2.1).mono ?_
  rintro e U9 ⟨rfl, hb⟩
  have E9 : Hid (Below W0.heap.size W0 U9 ∧ Sep U9 N (pItems ⟨.slice a1 F.length d1, .slice a2 cs.length d2, .slice a3 G.length d3, .slice a4 ts.length d4⟩ F cs G ts [gb X9 ⟨.slice a1 F.length d1, .slice a2 cs.length d2, .slice a3 G.length d3, .slice a4 ts.length d4⟩]) ∧ N ≤ U9.heap.size ∧ RdT U9 n1 y0 t ∧ ShT U9 W0.heap.size B1 n1 y0 t ∧ RdHs U9 n2 y1 hs ∧ X1s U9 B1 N n2 y1 hs) := KK.out _ _ E8.out hb
  clear hb E8 O8 KK
  go_wp2_with fail
  refine (markStmtS_any n1 W0.heap.size B1 y0 t 1 U9 E9.out.2.2.2.2.1 HSZ.out.1 (by omega) (by have := HSZ.out.1; omega)).mono ?_
  rintro e UA ⟨rfl, hm⟩
  have EA : Hid ((Below W0.heap.size W0 UA ∧ Sep UA N (pItems ⟨.slice a1 F.length d1, .slice a2 cs.length d2, .slice a3 G.length d3, .slice a4 ts.length d4⟩ F cs G ts [gb X9 ⟨.slice a1 F.length d1, .slice a2 cs.length d2, .slice a3 G.length d3, .slice a4 ts.length d4⟩]) ∧ N ≤ UA.heap.size) ∧ X1s UA B1 N n2 y1 hs) := ⟨⟨E9.out.1.trans hm.below, E9.out.2.1.chg hm.chg (fun j hj e => by have := HBN.out; omega), by rw [hm.size]; exact E9.out.2.2.1⟩, E9.out.2.2.2.2.2.2.mks hm⟩
  clear hm E9
  generalize hk1 : (1 : Int) + 3 * (sizeT n1 t : Int) = k1
  have hk2 : 0 ≤ k1 ∧ k1 ≤ 1152921504600000000 := by have := HSZ.out.1; omega
  clear hk1
  go_wp2_with fail
  refine (markStmtSS_any n2 (B1 + 1) N y1 hs k1 UA EA.out.2.all HSZ.out.2.1 hk2.1 hk2.2).mono ?_
  rintro e UB ⟨⟨k3, rfl, hk3⟩, hm⟩
  have EB : Hid (Below W0.heap.size W0 UB ∧ Sep UB N (pItems ⟨.slice a1 F.length d1, .slice a2 cs.length d2, .slice a3 G.length d3, .slice a4 ts.length d4⟩ F cs G ts [gb X9 ⟨.slice a1 F.length d1, .slice a2 cs.length d2, .slice a3 G.length d3, .slice a4 ts.length d4⟩]) ∧ N ≤ UB.heap.size) := ⟨EA.out.1.1.trans (hm.below.mono (by have := HBN.out; omega)), EA.out.1.2.1.chg hm.chg (fun j hj e => by have := HBN.out; omega), by rw [hm.size]; exact EA.out.1.2.2⟩
  clear hm EA
  have hk4 : ¬ k3 < 0 := by omega
  have KK : Hid (∀ u u', (Below W0.heap.size W0 u ∧ Sep u N (pItems ⟨.slice a1 F.length d1, .slice a2 cs.length d2, .slice a3 G.length d3, .slice a4 ts.length d4⟩ F cs G ts [gb X9 ⟨.slice a1 F.length d1, .slice a2 cs.length d2, .slice a3 G.length d3, .slice a4 ts.length d4⟩]) ∧ N ≤ u.heap.size) → Below u.heap.size u u' → (Below W0.heap.size W0 u' ∧ Sep u' N (pItems ⟨.slice a1 F.length d1, .slice a2 cs.length d2, .slice a3 G.length d3, .slice a4 ts.length d4⟩ F cs G ts [gb X9 ⟨.slice a1 F.length d1, .slice a2 cs.length d2, .slice a3 G.length d3, .slice a4 ts.length d4⟩]) ∧ N ≤ u'.heap.size)) := fun u u' h hb => ⟨below_on h.1 (Nat.le_refl _) hb, h.2.1.keep hb, Nat.le_trans h.2.2 hb.size⟩
  obtain ⟨z0, z1, z2, z3⟩ := C9.out _ _ _ _ _ EB.out.2.1
  obtain ⟨⟨x0, x1, x2, x3⟩, -⟩ := KW.out _ EB.out.1
  go_wp2_with fail
  refine (eqProgram_same ⟨.slice a1 F.length d1, .slice a2 cs.length d2, .slice a3 G.length d3, .slice a4 ts.length d4⟩ ⟨.slice f1 r1 g1, .slice f2 r2 g2, .slice f3 r3 g3, .slice f4 r4 g4⟩ (⟨F.map Prod.fst, cs, G.map Prod.fst, ts⟩ : MP) UB HP.out.2 EB.out.2.1.ownP.rd (KW.out _ EB.out.1).2.1).mono ?_
  rintro e UC ⟨rfl, hb⟩
  have EC : Hid (Below W0.heap.size W0 UC ∧ Sep UC N (pItems ⟨.slice a1 F.length d1, .slice a2 cs.length d2, .slice a3 G.length d3, .slice a4 ts.length d4⟩ F cs G ts [gb X9 ⟨.slice a1 F.length d1, .slice a2 cs.length d2, .slice a3 G.length d3, .slice a4 ts.length d4⟩]) ∧ N ≤ UC.heap.size) := KK.out _ _ EB.out hb
  clear hb EB z0 z1 z2 z3 x0 x1 x2 x3
  have hKR := endR_le 1 F HPS.out.f
  have hKG := endF_le (endR 1 F + 2 * (cs.length : Int)) G HPS.out.g
  have HMK : Hid (∀ u, Sep u N (pItems ⟨.slice a1 F.length d1, .slice a2 cs.length d2, .slice a3 G.length d3, .slice a4 ts.length d4⟩ F cs G ts [gb X9 ⟨.slice a1 F.length d1, .slice a2 cs.length d2, .slice a3 G.length d3, .slice a4 ts.length d4⟩]) → N ≤ u.heap.size → Calls Tryz.prog 15 #[.agg #[.slice a1 F.length d1, .slice a2 cs.length d2, .slice a3 G.length d3, .slice a4 ts.length d4], .int .i64 1] u fun e w' => e = .returned (.int .i64 (endF (endR 1 F + 2 * (cs.length : Int)) G + 4 * (ts.length : Int))) ∧ Sep w' N (pItems ⟨.slice a1 F.length d1, .slice a2 cs.length d2, .slice a3 G.length d3, .slice a4 ts.length d4⟩ (markRs 1 F) (mkRow mkC 2 (endR 1 F) cs.length) (markFs (endR 1 F + 2 * (cs.length : Int)) G) (mkRow mkT 4 (endF (endR 1 F + 2 * (cs.length : Int)) G) ts.length) [gb X9 ⟨.slice a1 F.length d1, .slice a2 cs.length d2, .slice a3 G.length d3, .slice a4 ts.length d4⟩]) ∧ Below N u w') := fun u hs9 hN => markProgram_sep N ⟨.slice a1 F.length d1, .slice a2 cs.length d2, .slice a3 G.length d3, .slice a4 ts.length d4⟩ F cs G ts [gb X9 ⟨.slice a1 F.length d1, .slice a2 cs.length d2, .slice a3 G.length d3, .slice a4 ts.length d4⟩] u hN HPS.out hs9
  have HHD : Hid (∀ u, Sep u N (pItems ⟨.slice a1 F.length d1, .slice a2 cs.length d2, .slice a3 G.length d3, .slice a4 ts.length d4⟩ (markRs 1 F) (mkRow mkC 2 (endR 1 F) cs.length) (markFs (endR 1 F + 2 * (cs.length : Int)) G) (mkRow mkT 4 (endF (endR 1 F + 2 * (cs.length : Int)) G) ts.length) [gb X9 ⟨.slice a1 F.length d1, .slice a2 cs.length d2, .slice a3 G.length d3, .slice a4 ts.length d4⟩]) → Calls Tryz.prog 16 #[.agg #[.slice a1 F.length d1, .slice a2 cs.length d2, .slice a3 G.length d3, .slice a4 ts.length d4], .int .i64 1] u fun e w' => e = .returned (.int .i64 (endF (endR 1 F + 2 * (cs.length : Int)) G + 4 * (ts.length : Int))) ∧ Below u.heap.size u w') := fun u hs9 => heldProgram_sep N ⟨.slice a1 F.length d1, .slice a2 cs.length d2, .slice a3 G.length d3, .slice a4 ts.length d4⟩ F cs G ts [gb X9 ⟨.slice a1 F.length d1, .slice a2 cs.length d2, .slice a3 G.length d3, .slice a4 ts.length d4⟩] u HPS.out hs9
  have hK0 : (0 : Int) ≤ (endF (endR 1 F + 2 * (cs.length : Int)) G + 4 * (ts.length : Int)) := by omega
  clear hKR hKG KK
  generalize (endF (endR 1 F + 2 * (cs.length : Int)) G + 4 * (ts.length : Int)) = K at HMK HHD hK0
  have hK1 : ¬ K < 0 := by omega
  generalize hMM : pItems ⟨.slice a1 F.length d1, .slice a2 cs.length d2, .slice a3 G.length d3, .slice a4 ts.length d4⟩ (markRs 1 F) (mkRow mkC 2 (endR 1 F) cs.length) (markFs (endR 1 F + 2 * (cs.length : Int)) G) (mkRow mkT 4 (endF (endR 1 F + 2 * (cs.length : Int)) G) ts.length) [gb X9 ⟨.slice a1 F.length d1, .slice a2 cs.length d2, .slice a3 G.length d3, .slice a4 ts.length d4⟩] = MM at HMK HHD
  have C10 : Hid (∀ u, Sep u N MM → u.cell? ⟨X9, 0, none⟩ = some (.slice a1 F.length d1) ∧ u.cell? ⟨X9, 1, none⟩ = some (.slice a2 cs.length d2) ∧ u.cell? ⟨X9, 2, none⟩ = some (.slice a3 G.length d3) ∧ u.cell? ⟨X9, 3, none⟩ = some (.slice a4 ts.length d4)) := fun u hh => C9.out u _ _ _ _ (by rw [hMM]; exact hh)
  clear hMM
  obtain ⟨z0, z1, z2, z3⟩ := C9.out _ _ _ _ _ EC.out.2.1
  go_wp2_with fail
  refine (HMK.out UC EC.out.2.1 EC.out.2.2).mono ?_
  rintro e UD ⟨rfl, hs9, hb⟩
  have ED : Hid (Below W0.heap.size W0 UD ∧ Sep UD N MM) := ⟨EC.out.1.trans (hb.mono (by have := HBN.out; omega)), hs9⟩
  clear hs9 hb EC z0 z1 z2 z3 HMK C9
  have KK : Hid (∀ u u', (Below W0.heap.size W0 u ∧ Sep u N MM) → Below u.heap.size u u' → (Below W0.heap.size W0 u' ∧ Sep u' N MM)) := fun u u' h hb => ⟨below_on h.1 (Nat.le_refl _) hb, h.2.keep hb⟩
  obtain ⟨z0, z1, z2, z3⟩ := C10.out _ ED.out.2
  go_wp2_with fail
  refine (HHD.out UD ED.out.2).mono ?_
  rintro e UE ⟨rfl, hb⟩
  have EE : Hid (Below W0.heap.size W0 UE ∧ Sep UE N MM) := KK.out _ _ ED.out hb
  clear hb ED z0 z1 z2 z3
  go_wp2_with fail
  refine (toStmtS_any n1 s0 t UE (KW.out _ EE.out.1).2.2.1 HSZ.out.1).mono ?_
  rintro e UF ⟨q1, rfl, o1, hb⟩
  have EF : Hid (Below W0.heap.size W0 UF ∧ Sep UF N MM) := KK.out _ _ EE.out hb
  have OF : Hid (OwnT UF 0 n1 q1 t) := o1.base (Nat.zero_le _)
  clear hb EE o1
  go_wp2_with fail
  refine (toStmtSS_any n2 s1 hs UF (KW.out _ EF.out.1).2.2.2.1 HSZ.out.2.2.2 HSZ.out.2.2.1).mono ?_
  rintro e UG ⟨q2, rfl, o2, hb⟩
  have EG : Hid (Below W0.heap.size W0 UG ∧ Sep UG N MM) := KK.out _ _ EF.out hb
  have OG : Hid (OwnT UG 0 n1 q1 t ∧ OwnHs UG n2 q2 hs) := ⟨OF.out.keep hb (Nat.le_refl _), o2.zero⟩
  clear hb EF o2 OF
  go_wp2_with fail
  refine (implCompile_any n1 t n2 hs q1 q2 UG OG.out.1 OG.out.2 HSZ.out.1 HSZ.out.2.2.2 HSZ.out.2.2.1).mono ?_
  rintro e UH ⟨vh, Fh, ch, Gh, th, rfl, hbl, hcp⟩
  have hpp := HP.out.1.one hcp
  have hrh : RdP UH vh (⟨F.map Prod.fst, cs, G.map Prod.fst, ts⟩ : MP) := by rw [hpp]; exact hbl.sep.ownP.rd
  obtain ⟨⟨m1, j1, m2, j2, m3, j3, m4, j4, ev⟩, -⟩ := hbl.prow
  subst ev
  generalize Fh.length = l1 at hrh
  generalize ch.length = l2 at hrh
  generalize Gh.length = l3 at hrh
  generalize th.length = l4 at hrh
  have EH : Hid ((Below W0.heap.size W0 (UH.alloc (.cells #[.slice m1 l1 j1, .slice m2 l2 j2, .slice m3 l3 j3, .slice m4 l4 j4] 31)) ∧ Sep (UH.alloc (.cells #[.slice m1 l1 j1, .slice m2 l2 j2, .slice m3 l3 j3, .slice m4 l4 j4] 31)) N MM) ∧ RdP (UH.alloc (.cells #[.slice m1 l1 j1, .slice m2 l2 j2, .slice m3 l3 j3, .slice m4 l4 j4] 31)) ⟨.slice m1 l1 j1, .slice m2 l2 j2, .slice m3 l3 j3, .slice m4 l4 j4⟩ (⟨F.map Prod.fst, cs, G.map Prod.fst, ts⟩ : MP) ∧ Blk (UH.alloc (.cells #[.slice m1 l1 j1, .slice m2 l2 j2, .slice m3 l3 j3, .slice m4 l4 j4] 31)) UH.heap.size #[.slice m1 l1 j1, .slice m2 l2 j2, .slice m3 l3 j3, .slice m4 l4 j4] 31) := ⟨KK.out _ _ (KK.out _ _ EG.out hbl.bel) (below_alloc _ _), hrh.keep (below_alloc _ _) (Nat.le_refl _), Blk.new _ _ _⟩
  clear hbl hcp hpp hrh EG OG
  go_upto_region 32 with fail
  generalize UH.heap.size = X13 at EH ⊢
  refine wp_world (fun U => Hid ((Below W0.heap.size W0 U ∧ Sep U N MM) ∧ RdP U ⟨.slice m1 l1 j1, .slice m2 l2 j2, .slice m3 l3 j3, .slice m4 l4 j4⟩ (⟨F.map Prod.fst, cs, G.map Prod.fst, ts⟩ : MP) ∧ Blk U X13 #[.slice m1 l1 j1, .slice m2 l2 j2, .slice m3 l3 j3, .slice m4 l4 j4] 31)) EH ?_
  clear EH
  rintro UI EI
  obtain ⟨⟨x0, x1, x2, x3⟩, -⟩ := KW.out _ EI.out.1.1
  have z0 := EI.out.2.2.cell 0
  have z1 := EI.out.2.2.cell 1
  have z2 := EI.out.2.2.cell 2
  have z3 := EI.out.2.2.cell 3
  simp only [List.getElem?_toArray, List.getElem?_cons_zero, List.getElem?_cons_succ] at z0 z1 z2 z3
  go_wp2_with fail
  refine (eqProgram_same ⟨.slice m1 l1 j1, .slice m2 l2 j2, .slice m3 l3 j3, .slice m4 l4 j4⟩ ⟨.slice f1 r1 g1, .slice f2 r2 g2, .slice f3 r3 g3, .slice f4 r4 g4⟩ (⟨F.map Prod.fst, cs, G.map Prod.fst, ts⟩ : MP) UI HP.out.2 EI.out.2.1 (KW.out _ EI.out.1.1).2.1).mono ?_
  rintro e UJ ⟨rfl, hb⟩
  have EJ : Hid (Below W0.heap.size W0 UJ ∧ Sep UJ N MM) := KK.out _ _ EI.out.1 hb
  clear hb EI x0 x1 x2 x3 z0 z1 z2 z3
  obtain ⟨z0, z1, z2, z3⟩ := C10.out _ EJ.out.2
  go_wp2_with fail
  refine (HHD.out UJ EJ.out.2).mono ?_
  rintro e UK ⟨rfl, hb⟩
  have EK : Hid (Below w.heap.size w UK) := (KW.out _ (KK.out _ _ EJ.out hb).1).2.2.2.2
  clear hb EJ z0 z1 z2 z3
  go_wp2_with fail
  go_ret
  exact ⟨rfl, EK.out⟩
end Go.Proofs.YtalkpddhpmjgcaaGreat
