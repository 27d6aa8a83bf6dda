import Derived.Test.YtdfmdgbolmbffaaGreatLf42
import Derived.Test.YtdfmdgbolmbffaaGreatLf13
namespace Go.Proofs.YtdfmdgbolmbffaaGreat
open Go.ChangeShapes Go.WideShapes Go.ChangeAt Go.RowKit
set_option linter.unusedVariables false
theorem cel15 {u : World} {b : Nat} {t : TypeId} {v : BdV} (H : Blk u b v.cells t) : u.cell? ⟨b, 0, none⟩ = some (.slice v.r.a v.r.n v.r.c) ∧ u.cell? ⟨b, 1, none⟩ = some (.slice v.k.a v.k.n v.k.c) ∧ u.cell? ⟨b, 2, none⟩ = some (.slice v.f.a v.f.n v.f.c) ∧ u.cell? ⟨b, 3, none⟩ = some (.slice v.t.a v.t.n v.t.c) ∧ u.cell? ⟨b, 4, none⟩ = some (.slice v.p.a v.p.n v.p.c) ∧ u.cell? ⟨b, 5, none⟩ = some (.int .i64 v.rs) ∧ u.cell? ⟨b, 6, none⟩ = some (.slice v.l.a v.l.n v.l.c) ∧ u.cell? ⟨b, 7, none⟩ = some (.slice v.c.a v.c.n v.c.c) ∧ u.cell? ⟨b, 8, none⟩ = some (.int .i64 v.nu) ∧ u.cell? ⟨b, 9, none⟩ = some (.int .i64 v.co) ∧ u.cell? ⟨b, 10, none⟩ = some (.int .i64 v.at_) ∧ u.cell? ⟨b, 11, none⟩ = some (.slice v.b.a v.b.n v.b.c) ∧ u.cell? ⟨b, 12, none⟩ = some (.slice v.o.a v.o.n v.o.c) ∧ u.cell? ⟨b, 13, none⟩ = some (.slice v.i.a v.i.n v.i.c) ∧ u.cell? ⟨b, 14, none⟩ = some (.slice v.q.a v.q.n v.q.c) := by
  unfold BdV.cells at H
  exact ⟨H.cell 0, H.cell 1, H.cell 2, H.cell 3, H.cell 4, H.cell 5, H.cell 6, H.cell 7, H.cell 8, H.cell 9, H.cell 10, H.cell 11, H.cell 12, H.cell 13, H.cell 14⟩
/-- A body and a loop, laid in blocks. -/
structure WfAt (w u : World) (v : BdV) (h : Nat) (x y : SlV) : Prop where
  body : Blk u w.heap.size v.cells 106
  loop : Blk u (w.heap.size + 1) #[.int .i64 (h : Int), .slice x.a x.n x.c, .slice y.a y.n y.c] 53
  bel : Below w.heap.size w u
theorem WfAt.keep {w u u' : World} {v : BdV} {h : Nat} {x y : SlV} (H : WfAt w u v h x y) (hb : Below u.heap.size u u') : WfAt w u' v h x y := ⟨H.body.keep hb, H.loop.keep hb, below_on H.bel (Nat.le_refl _) hb⟩
theorem placeOf_b (v : BdV) (h : Nat) (x y : SlV) (F : List (MB × Value)) (m : MB) (w : World) (hn : F.length ≤ 1048576) (hb : Rd w 3 (.slice v.b.a v.b.n v.b.c) F.length (F.flatMap bCells)) (hm : (F.map Prod.fst)[h]? = some m) :
    Calls Tryz.prog 92 #[.agg v.cells, .agg #[.int .i64 (h : Int), .slice x.a x.n x.c, .slice y.a y.n y.c]] w fun e w' => e = .returned (.int .i64 m.first) ∧ Below w.heap.size w w' :=
  placeOf_any (.slice v.r.a v.r.n v.r.c) (.slice v.k.a v.k.n v.k.c) (.slice v.f.a v.f.n v.f.c) (.slice v.t.a v.t.n v.t.c) (.slice v.p.a v.p.n v.p.c) (.int .i64 v.rs) (.slice v.l.a v.l.n v.l.c) (.slice v.c.a v.c.n v.c.c) (.int .i64 v.nu) (.int .i64 v.co) (.int .i64 v.at_) (.slice v.b.a v.b.n v.b.c) (.slice v.o.a v.o.n v.o.c) (.slice v.i.a v.i.n v.i.c) (.slice v.q.a v.q.n v.q.c) (.slice x.a x.n x.c) (.slice y.a y.n y.c) F h m w hn hb hm
set_option maxHeartbeats 8000000 in
set_option maxRecDepth 100000 in
theorem writesElsewhere_any (v : BdV) (h : Nat) (x y : SlV) (F : List (MB × Value)) (xs : List MI) (bl : List Int) (cnt : Int) (m : MB) (w : World) (hF : BsAt w v F xs.length) (hm : (F.map Prod.fst)[h]? = some m) (hy : Rd w 1 (.slice y.a y.n y.c) bl.length (bl.flatMap intCell)) (hbl : bl.length ≤ 1024) (hz : ∀ z ∈ bl, ∃ b : Nat, z = (b : Int) ∧ b < F.length) (hc : Rd w 4 (.slice v.c.a v.c.n v.c.c) xs.length (xs.flatMap MI.cells)) :
    Calls Tryz.prog 95 #[.agg v.cells, .agg #[.int .i64 (h : Int), .slice x.a x.n x.c, .slice y.a y.n y.c], .int .i64 cnt] w fun e w' => SaysIff e (∃ a, InBl (F.map Prod.fst) bl a ∧ a ≠ m.first ∧ WrC xs cnt a) ∧ Below w.heap.size w w' := by
  have H : Hid (BsAt w v F xs.length ∧ (F.map Prod.fst)[h]? = some m ∧ Rd w 1 (.slice y.a y.n y.c) bl.length (bl.flatMap intCell) ∧ bl.length ≤ 1024 ∧ (∀ z ∈ bl, ∃ b : Nat, z = (b : Int) ∧ b < F.length) ∧ Rd w 4 (.slice v.c.a v.c.n v.c.c) xs.length (xs.flatMap MI.cells)) := ⟨hF, hm, hy, hbl, hz, hc⟩
  have htop : xs.length ≤ 1024 := hF.top
  clear hF hm hy hbl hz hc
  have E0 := two_new w v.cells #[.int .i64 (h : Int), .slice x.a x.n x.c, .slice y.a y.n y.c] 106 53
  go_enter Tryz.func95, Tryz.ntmps95
  go_upto_region 1 with fail
  refine wp_world (fun u => Hid (WfAt w u v h x y)) ⟨E0.1, E0.2.1, E0.2.2⟩ ?_
  rintro U HE
  clear E0
  obtain ⟨p0, p1, p2, p3, p4, p5, p6, p7, p8, p9, p10, p11, p12, p13, p14⟩ := cel15 HE.out.body
  obtain ⟨l0, l1, l2⟩ := blk3 HE.out.loop
  go_wp2_with fail
  refine (instructionsOf_any v (h : Int) x y F xs.length bl U (H.out.1.keep HE.out.bel) (H.out.2.2.1.keep HE.out.bel (Nat.le_refl _)) H.out.2.2.2.1 H.out.2.2.2.2.1).mono ?_
  rintro e u1 ⟨pa, pc, ps, rfl, hps, hin, hpl, bb⟩
  have E1 : Hid (WfAt w u1 v h x y ∧ Rd u1 1 (.slice pa ps.length pc) ps.length (ps.flatMap intCell)) := ⟨HE.out.keep bb, hps⟩
  have HI : Hid (∀ z, z ∈ ps ↔ InBl (F.map Prod.fst) bl z) := hin
  have HP : Hid (∀ z ∈ ps, ∃ (d : Nat) (q : MI), z = (d : Int) ∧ d < xs.length ∧ xs[d]? = some q) := fun z hz => by
    obtain ⟨y', hy', m', h1, h2, h3⟩ := (HI.out z).1 hz
    obtain ⟨b, eb, hb⟩ := H.out.2.2.2.2.1 y' hy'
    rw [eb, Int.toNat_natCast] at h1
    obtain ⟨a, e, e1, e2, e3, e4⟩ := H.out.1.blk b m' h1
    rw [e1] at h2
    rw [e2] at h3
    obtain ⟨d, hd⟩ := Int.eq_ofNat_of_zero_le (show 0 ≤ z by omega)
    exact ⟨d, _, hd, by omega, List.getElem?_eq_getElem (by omega)⟩
  clear bb hps hin HE p0 p1 p2 p3 p4 p5 p6 p7 p8 p9 p10 p11 p12 p13 p14 l0 l1 l2
  clear U
  go_wp2_with fail
  go_loopw [15] (fun i wr => ∃ k : Nat, k ≤ ps.length ∧ i = .int .i64 k ∧ Hid (∀ (j : Nat) (z : Int), j < k → ps[j]? = some z → ¬ (z ≠ m.first ∧ WrC xs cnt z)) ∧ Hid (WfAt w wr v h x y ∧ Rd wr 1 (.slice pa ps.length pc) ps.length (ps.flatMap intCell))) (fun i _ => ps.length - (intOf i).toNat)
  case atStart => exact ⟨0, by omega, rfl, fun j z hj => absurd hj (by omega), E1⟩
  case round =>
  clear E1
  obtain ⟨k, hk, rfl, HT, E1⟩ := hrel
  by_cases hlt : k < ps.length
  case pos =>
    obtain ⟨z, hz⟩ : ∃ z, ps[k]? = some z := ⟨_, List.getElem?_eq_getElem hlt⟩
    obtain ⟨d, ⟨yo, ya, yb, yc⟩, ed, hd, hq⟩ := HP.out z (List.mem_of_getElem? hz)
    rcases E1.out.2.2 with ⟨q0, _⟩ | ⟨gp, op, cp, q1, hcp⟩
    · omega
    simp only [Value.slice.injEq, true_and] at q1
    obtain ⟨rfl, rfl⟩ := q1
    have z0 := Rd.elem intCell_length hcp k z hz 0 _ rfl
    rw [Nat.mul_one, Nat.add_zero, ed] at z0
    rcases H.out.2.2.2.2.2.2 with ⟨q0, _⟩ | ⟨gc, oc, cc, q1, hcc⟩
    · omega
    simp only [Value.slice.injEq] at q1
    have HQ1 : Hid (v.c.a = some ⟨gc, oc, none⟩ ∧ v.c.n = xs.length) := ⟨q1.1, q1.2.1⟩
    have w0 := Rd.elem MI.cells_length hcc d _ hq 0 _ rfl
    have w1 := Rd.elem MI.cells_length hcc d _ hq 1 _ rfl
    have w2 := Rd.elem MI.cells_length hcc d _ hq 2 _ rfl
    have w3 := Rd.elem MI.cells_length hcc d _ hq 3 _ rfl
    rw [← E1.out.1.bel.cell (block_lt_of_cell w0), Nat.add_zero] at w0
    rw [← E1.out.1.bel.cell (block_lt_of_cell w1)] at w1
    rw [← E1.out.1.bel.cell (block_lt_of_cell w2)] at w2
    rw [← E1.out.1.bel.cell (block_lt_of_cell w3)] at w3
    simp only [] at w0 w1 w2 w3
    have HZ : Hid (ps[k]? = some z ∧ z = (d : Int) ∧ xs[d]? = some ⟨yo, ya, yb, yc⟩) := ⟨hz, ed, hq⟩
    clear hcc hcp q1 hz ed hq
    obtain ⟨p0, p1, p2, p3, p4, p5, p6, p7, p8, p9, p10, p11, p12, p13, p14⟩ := cel15 E1.out.1.body
    simp only [HQ1.out.1, HQ1.out.2] at p7
    have hdI : (d : Int) < (xs.length : Int) := by omega
    have s1 : ¬ gc = wr.heap.size := Nat.ne_of_lt (block_lt_of_cell w0)
    have s2 : gc < wr.heap.size := block_lt_of_cell w0
    go_upto_region 5 with fail
    refine wp_world (fun u => Hid ((WfAt w u v h x y ∧ Rd u 1 (.slice (some ⟨gp, op, none⟩) ps.length pc) ps.length (ps.flatMap intCell)) ∧ Blk u wr.heap.size #[.int .i64 yo, .int .i64 ya, .int .i64 yb, .int .i64 yc] 73)) ⟨⟨E1.out.1.keep (below_alloc _ _), E1.out.2.keep (below_alloc _ _) (Nat.le_refl _)⟩, Blk.new _ _ _⟩ ?_
    rintro UA EA
    generalize wr.heap.size = YB at EA ⊢
    clear s1 s2 w0 w1 w2 w3 z0 E1 p0 p1 p2 p3 p4 p5 p6 p7 p8 p9 p10 p11 p12 p13 p14
    obtain ⟨w0, w1, w2, w3⟩ := blkc4 EA.out.2
    have HW : Hid (WrC xs cnt z ↔ (yo = 3 ∨ yo = 27) ∧ ya = cnt) := by
      constructor
      · rintro ⟨q, hq, h1, h2⟩
        rw [HZ.out.2.1, Int.toNat_natCast, HZ.out.2.2] at hq
        have ey := Option.some.inj hq
        subst ey
        exact ⟨h1, h2⟩
      · rintro ⟨h1, h2⟩
        exact ⟨_, by rw [HZ.out.2.1, Int.toNat_natCast]; exact HZ.out.2.2, h1, h2⟩
    have HT' : Hid (¬ (z ≠ m.first ∧ WrC xs cnt z) → ∀ (j : Nat) (z : Int), j < k + 1 → ps[j]? = some z → ¬ (z ≠ m.first ∧ WrC xs cnt z)) := fun hno j z' hj hz' => by
      by_cases e : j = k
      · subst e
        rw [HZ.out.1] at hz'
        have ez := Option.some.inj hz'
        subst ez
        exact hno
      · exact HT.out j z' (by omega) hz'
    by_cases g1 : yo = 3 ∨ yo = 27
    case neg =>
      have g2 : ¬ yo = 3 := fun e => g1 (.inl e)
      have g3 : ¬ yo = 27 := fun e => g1 (.inr e)
      have HNO : Hid (¬ (z ≠ m.first ∧ WrC xs cnt z)) := fun e => g1 (HW.out.1 e.2).1
      clear g1
      go_wp2
      go_roundw
      case rel => exact ⟨k + 1, by omega, by go_num, HT'.out HNO.out, EA.out.1⟩
      case measure => simp [intOf]; omega
    by_cases g4 : ya = cnt
    case neg =>
      have g4' : (ya == cnt) = false := by simp [g4]
      have HNO : Hid (¬ (z ≠ m.first ∧ WrC xs cnt z)) := fun e => g4 (HW.out.1 e.2).2
      rcases g1 with g1 | g1
      · rw [g1] at w0
        go_wp2
        go_roundw
        case rel => exact ⟨k + 1, by omega, by go_num, HT'.out HNO.out, EA.out.1⟩
        case measure => simp [intOf]; omega
      · rw [g1] at w0
        go_wp2
        go_roundw
        case rel => exact ⟨k + 1, by omega, by go_num, HT'.out HNO.out, EA.out.1⟩
        case measure => simp [intOf]; omega
    have HWY : Hid (WrC xs cnt z) := HW.out.2 ⟨g1, g4⟩
    rw [g4] at w1
    obtain ⟨p0, p1, p2, p3, p4, p5, p6, p7, p8, p9, p10, p11, p12, p13, p14⟩ := cel15 EA.out.1.1.body
    obtain ⟨l0, l1, l2⟩ := blk3 EA.out.1.1.loop
    have HK : Hid ((yo = 3 ∨ yo = 27) → True) := fun _ => trivial
    have hY : ∀ o : Int, (o = 3 ∨ o = 27) → o = yo → True := fun _ _ _ => trivial
    clear hY HK
    rcases g1 with g1 | g1
    all_goals
      rw [g1] at w0
      go_wp2_with fail
      refine (placeOf_b v h x y F m UA (Nat.le_trans H.out.1.len (by omega)) ((H.out.1.rd).keep EA.out.1.1.bel (Nat.le_refl _)) H.out.2.1).mono ?_
      rintro e u3 ⟨rfl, bb⟩
      have E3 : Hid (WfAt w u3 v h x y ∧ Rd u3 1 (.slice (some ⟨gp, op, none⟩) ps.length pc) ps.length (ps.flatMap intCell)) := ⟨EA.out.1.1.keep bb, EA.out.1.2.keep bb (Nat.le_refl _)⟩
      clear bb
      by_cases g5 : (d : Int) = m.first
      · have HNO : Hid (¬ (z ≠ m.first ∧ WrC xs cnt z)) := fun e => e.1 (by rw [HZ.out.2.1]; exact g5)
        go_wp2
        go_roundw
        case rel => exact ⟨k + 1, by omega, by go_num, HT'.out HNO.out, E3.out⟩
        case measure => simp [intOf]; omega
      · have g5' : ((d : Int) == m.first) = false := by simp [g5]
        have HY : Hid (∃ a, InBl (F.map Prod.fst) bl a ∧ a ≠ m.first ∧ WrC xs cnt a) := ⟨z, (HI.out z).1 (List.mem_of_getElem? HZ.out.1), by rw [HZ.out.2.1]; exact g5, HWY.out⟩
        go_wp2
        go_ret
        exact ⟨.yes HY.out, E3.out.1.bel⟩
  have hkn : k = ps.length := by omega
  subst hkn
  have HN : Hid (¬ ∃ a, InBl (F.map Prod.fst) bl a ∧ a ≠ m.first ∧ WrC xs cnt a) := fun ⟨a, h1, h2⟩ => by
    obtain ⟨j, hj⟩ := List.getElem?_of_mem ((HI.out a).2 h1)
    exact HT.out j a (List.getElem?_eq_some_iff.1 hj).1 hj h2
  go_wp2
  go_ret
  exact ⟨.no HN.out, E1.out.1.bel⟩
end Go.Proofs.YtdfmdgbolmbffaaGreat
