import Derived.Test.YtdfmdgbolmbffaaGreatLf47
import Derived.Test.YtdfmdgbolmbffaaGreatLf37
namespace Go.Proofs.YtdfmdgbolmbffaaGreat
open Go.ChangeShapes Go.WideShapes Go.ChangeAt Go.RowKit
set_option linter.unusedVariables false
theorem lrows_mem {ys : List (ML × Value × Value)} {y : ML × Value × Value} (h : y ∈ ys) : (y.2.1, y.1.back) ∈ lrows ys ∧ (y.2.2, y.1.blocks) ∈ lrows ys := ⟨List.mem_flatMap.2 ⟨y, h, by simp⟩, List.mem_flatMap.2 ⟨y, h, by simp⟩⟩
theorem OwFl.rd {w : World} {base : Nat} {vb vo vi vl : Value} {F : List (MB × Value)} {ys : List (ML × Value × Value)} {r : MFl} (h : OwFl w base vb vo vi vl F ys r) : RdFl w vb vo vi vl r := by
  have hbl : F.length = r.blocks.length := by rw [← h.eb, List.length_map]
  have hll : ys.length = r.loops.length := by rw [← h.el, List.length_map]
  refine ⟨⟨F, h.eb, ?_, fun x hx => ?_⟩, Rd.of_own (h.fam.own (vo, r.order) (by simp)), Rd.of_own (h.fam.own (vi, r.idom) (by simp)), ⟨ys, h.el, ?_, fun y hy => ?_⟩⟩
  · rw [← hbl]
    exact Rd.of_own h.brow
  · exact Rd.of_own (h.fam.own (x.2, x.1.next) (by
      refine List.mem_append.2 (.inl ?_)
      unfold nrows
      exact List.mem_map_of_mem (f := fun x => (x.2, x.1.next)) hx))
  · rw [← hll]
    exact Rd.of_own h.lrow
  · have := lrows_mem hy
    exact ⟨Rd.of_own (h.fam.own (y.2.1, y.1.back) (List.mem_append.2 (.inr (by simp [this.1])))), Rd.of_own (h.fam.own (y.2.2, y.1.blocks) (List.mem_append.2 (.inr (by simp [this.2]))))⟩
/-- Functions whose code has room. -/
def RdFk (w : World) (s : Value) (fs : List MF) : Prop := ∃ ys : List (MF × VF), ys.map Prod.fst = fs ∧ Rd w 4 s fs.length (ys.flatMap fCells) ∧ ∀ z ∈ ys, ∃ a c, z.2.c = .slice a z.1.code.length c ∧ z.1.code.length ≤ c
theorem OwnFs.rdk {w : World} {base : Nat} {s : Value} {fs : List MF} (h : OwnFs w base s fs) : RdFk w s fs := by
  obtain ⟨xs, h1, h2, h3⟩ := h
  exact ⟨xs, h1, Rd.of_own h2, fun x hx => own_capR (h3 x hx).2.2⟩
theorem RdFk.at {w : World} {s : Value} {fs : List MF} (h : RdFk w s fs) {q : Nat} {f : MF} (hq : fs[q]? = some f) {gk ok ck : Nat} (es : s = .slice (some ⟨gk, ok, none⟩) fs.length ck) : ∃ a c, w.cell? ⟨gk, ok + q * 4 + 3, none⟩ = some (.slice a f.code.length c) ∧ f.code.length ≤ c := by
  obtain ⟨ys, h1, h2, h3⟩ := h
  have hlt := (List.getElem?_eq_some_iff.1 hq).1
  obtain ⟨z, hz, ez⟩ : ∃ z, ys[q]? = some z ∧ z.1 = f := by
    rw [← h1, List.getElem?_map] at hq
    exact Option.map_eq_some_iff.1 hq
  subst ez
  obtain ⟨a, c, e1, e2⟩ := h3 z (List.mem_of_getElem? hz)
  rcases h2.2 with ⟨e0, _⟩ | ⟨g, o, cc, e3, hc⟩
  · omega
  rw [es] at e3
  simp only [Value.slice.injEq, Option.some.injEq, Addr.mk.injEq, and_true, true_and] at e3
  obtain ⟨⟨rfl, rfl⟩, _⟩ := e3
  have i3 := Rd.elem fCells_length hc q z hz 3 _ rfl
  rw [e1] at i3
  exact ⟨a, c, i3, e2⟩
set_option maxHeartbeats 8000000 in
set_option maxRecDepth 100000 in
theorem implLoop_any (v : VP) (p : MP) (fi : Int) (lv : VL) (l : ML) (w : World) (hs : p.small) (hw : p.wf) (h : RdP w v p) (hcap : RdRc w v.r p.regions) (hfp : RdFp w v.f p.funcs) (hfk : RdFk w v.f p.funcs) (hl : l.small) (hr : RdLv w lv l) :
    Calls Tryz.prog 23 #[.agg #[v.r, v.k, v.f, v.t], .int .i64 fi, .agg #[.int .i64 l.head, lv.b, lv.k]] w fun e w' => (∃ n, e = .returned (.int .i64 n) ∧ LfIs p fi l n) ∧ Below w.heap.size w w' := by
  obtain ⟨b1, b3, e1⟩ := Rd.is_slice hr.1
  obtain ⟨d1, d3, e2⟩ := Rd.is_slice hr.2
  obtain ⟨lb, lk⟩ := lv
  simp only [] at e1 e2
  subst e1 e2
  obtain ⟨x, ex⟩ : ∃ x : SlV, x = ⟨b1, l.back.length, b3⟩ := ⟨_, rfl⟩
  obtain ⟨y, ey⟩ : ∃ y : SlV, y = ⟨d1, l.blocks.length, d3⟩ := ⟨_, rfl⟩
  have exv : (Value.slice b1 l.back.length b3) = .slice x.a x.n x.c := by rw [ex]
  have eyv : (Value.slice d1 l.blocks.length d3) = .slice y.a y.n y.c := by rw [ey]
  rw [exv, eyv] at hr ⊢
  clear exv eyv ex ey
  have H : Hid (p.small ∧ p.wf ∧ RdP w v p ∧ RdRc w v.r p.regions ∧ RdFp w v.f p.funcs ∧ RdFk w v.f p.funcs ∧ l.small ∧ RdL w (l, .slice x.a x.n x.c, .slice y.a y.n y.c)) := ⟨hs, hw, h, hcap, hfp, hfk, hl, hr⟩
  obtain ⟨r1, r3, k1, k3, t1, t3, f1, f3, rfl⟩ := h.sl
  clear hs hw h hcap hfp hfk hl hr
  generalize hnf : p.funcs.length = nf at H ⊢
  have HNF : Hid (p.funcs.length = nf) := hnf
  clear hnf
  generalize p.regions.length = nr at H ⊢
  generalize p.consts.length = nk at H ⊢
  generalize p.certs.length = nt at H ⊢
  simp only [] at H
  have E0 := two_new w #[.slice r1 nr r3, .slice k1 nk k3, .slice f1 nf f3, .slice t1 nt t3] #[.int .i64 l.head, .slice x.a x.n x.c, .slice y.a y.n y.c] 36 53
  go_enter Tryz.func23, Tryz.ntmps23
  go_upto_region 1 with fail
  refine wp_world (fun u => Hid (Blk u w.heap.size #[.slice r1 nr r3, .slice k1 nk k3, .slice f1 nf f3, .slice t1 nt t3] 36 ∧ Blk u (w.heap.size + 1) #[.int .i64 l.head, .slice x.a x.n x.c, .slice y.a y.n y.c] 53 ∧ Below w.heap.size w u)) E0 ?_
  rintro U E1
  clear E0
  obtain ⟨p0, p1, p2, p3⟩ := cel4 E1.out.1
  go_wp2_with fail
  refine (flowOfFunc_any ⟨.slice r1 nr r3, .slice k1 nk k3, .slice f1 nf f3, .slice t1 nt t3⟩ p fi U H.out.1 H.out.2.1 (H.out.2.2.1.keep E1.out.2.2 (Nat.le_refl _)) (H.out.2.2.2.1.keep E1.out.2.2 (Nat.le_refl _)) (H.out.2.2.2.2.1.keep E1.out.2.2 (Nat.le_refl _))).mono ?_
  rintro e u1 ⟨c, a, v1, n1, c1, v2, n2, c2, v3, n3, c3, v4, n4, c4, good, rfl, hiff, hgood, bb⟩
  have E2 : Hid (Blk u1 w.heap.size #[.slice r1 nr r3, .slice k1 nk k3, .slice f1 nf f3, .slice t1 nt t3] 36 ∧ Blk u1 (w.heap.size + 1) #[.int .i64 l.head, .slice x.a x.n x.c, .slice y.a y.n y.c] 53 ∧ Below w.heap.size w u1) := ⟨E1.out.1.keep bb, E1.out.2.1.keep bb, below_on E1.out.2.2 (Nat.le_refl _) bb⟩
  have HG : Hid ((good = true ↔ FlowP p fi) ∧ (good = true → ∃ f r F ys, p.funcs[fi.toNat]? = some f ∧ FlowOk f.code r ∧ r.code = 0 ∧ c = 0 ∧ OwFl u1 U.heap.size (.slice v1 n1 c1) (.slice v2 n2 c2) (.slice v3 n3 c3) (.slice v4 n4 c4) F ys r)) := ⟨hiff, hgood⟩
  clear hiff hgood bb E1 p0 p1 p2 p3
  go_upto_region 2 with fail
  refine wp_world (fun u => Hid ((Blk u w.heap.size #[.slice r1 nr r3, .slice k1 nk k3, .slice f1 nf f3, .slice t1 nt t3] 36 ∧ Blk u (w.heap.size + 1) #[.int .i64 l.head, .slice x.a x.n x.c, .slice y.a y.n y.c] 53 ∧ Below w.heap.size w u) ∧ Blk u u1.heap.size #[.int .i64 c, .int .i64 a, .slice v1 n1 c1, .slice v2 n2 c2, .slice v3 n3 c3, .slice v4 n4 c4] 67 ∧ Below u1.heap.size u1 u)) ⟨⟨E2.out.1.keep (below_alloc _ _), E2.out.2.1.keep (below_alloc _ _), below_on E2.out.2.2 (Nat.le_refl _) (below_alloc _ _)⟩, Blk.new _ _ _, below_alloc _ _⟩ ?_
  rintro U3 E3
  cases good
  case false =>
    have HN : Hid (¬ OwnLoop p fi l) := fun e => by
      obtain ⟨f, r, h1, h2, h3, _⟩ := e.2.2
      have := HG.out.1.2 ⟨e.1, e.2.1, f, h1, r, h2, h3⟩
      cases this
    go_wp2
    go_ret
    exact ⟨⟨7, rfl, .inl ⟨HN.out, rfl⟩⟩, E3.out.1.2.2⟩
  obtain ⟨f, r, F, ys, hf, hfl, hr0, rfl, how⟩ := HG.out.2 rfl
  have hfpp := HG.out.1.1 rfl
  have HO : Hid (FaultIs p 0 ∧ 0 ≤ fi ∧ p.funcs[fi.toNat]? = some f ∧ FlowOk f.code r ∧ r.code = 0) := ⟨hfpp.1, hfpp.2.1, hf, hfl, hr0⟩
  have how3 : OwFl U3 U.heap.size (.slice v1 n1 c1) (.slice v2 n2 c2) (.slice v3 n3 c3) (.slice v4 n4 c4) F ys r := how.keepF E3.out.2.2
  have HOW : Hid (OwFl U3 U.heap.size (.slice v1 n1 c1) (.slice v2 n2 c2) (.slice v3 n3 c3) (.slice v4 n4 c4) F ys r) := how3
  have HI : Hid (FlIn f.code r) := hfl.inn hr0
  have hn4 : n4 = r.loops.length := by
    obtain ⟨_, _, e⟩ := own_slice how3.lrow
    simp only [Value.slice.injEq] at e
    rw [e.2.1, ← how3.el, List.length_map]
  have HNE : Hid (¬ l ∈ r.loops → ¬ OwnLoop p fi l) := fun hnl e => by
    obtain ⟨f', r', h1, h2, h3, h4⟩ := e.2.2
    rw [HO.out.2.2.1] at h1
    have ef := Option.some.inj h1
    subst ef
    have er := h2.one HO.out.2.2.2.1
    subst er
    exact hnl h4
  clear how how3 hf hfl hr0 hfpp HG E2
  generalize u1.heap.size = FB at E3 ⊢
  obtain ⟨y0, y1, y2, y3, y4, y5⟩ := cel6 E3.out.2.1
  subst hn4
  go_wp2_with fail
  refine (containsFunc_any v4 c4 r.loops l x y (w.heap.size + 1) U3 (Nat.le_trans HI.out.nl (by omega)) (flow_loops HO.out.2.2.2.1).2 H.out.2.2.2.2.2.2.1 HOW.out.rd.loops (RdLv.keep (v := ⟨.slice x.a x.n x.c, .slice y.a y.n y.c⟩) H.out.2.2.2.2.2.2.2 E3.out.1.2.2 (Nat.le_refl _)) E3.out.1.2.1).mono ?_
  rintro e u4 ⟨⟨q1, rfl, hq1⟩, bb⟩
  have E4 : Hid ((Blk u4 w.heap.size #[.slice r1 nr r3, .slice k1 nk k3, .slice f1 nf f3, .slice t1 nt t3] 36 ∧ Blk u4 (w.heap.size + 1) #[.int .i64 l.head, .slice x.a x.n x.c, .slice y.a y.n y.c] 53 ∧ Below w.heap.size w u4) ∧ Blk u4 FB #[.int .i64 0, .int .i64 a, .slice v1 n1 c1, .slice v2 n2 c2, .slice v3 n3 c3, .slice v4 r.loops.length c4] 67 ∧ OwFl u4 U.heap.size (.slice v1 n1 c1) (.slice v2 n2 c2) (.slice v3 n3 c3) (.slice v4 r.loops.length c4) F ys r) := ⟨⟨E3.out.1.1.keep bb, E3.out.1.2.1.keep bb, below_on E3.out.1.2.2 (Nat.le_refl _) bb⟩, E3.out.2.1.keep bb, HOW.out.keepF bb⟩
  have HQ1 : Hid (q1 = true ↔ l ∈ r.loops) := hq1
  clear hq1 bb E3 HOW y0 y1 y2 y3 y4 y5
  cases q1
  case false =>
    have HN : Hid (¬ OwnLoop p fi l) := HNE.out fun e => (by have := HQ1.out.2 e; cases this)
    go_wp2
    go_ret
    exact ⟨⟨7, rfl, .inl ⟨HN.out, rfl⟩⟩, E4.out.1.2.2⟩
  have hlm : l ∈ r.loops := HQ1.out.1 rfl
  have HP : Hid (OwnLp p fi l f r) := ⟨HO.out.1, HO.out.2.1, HO.out.2.2.1, HO.out.2.2.2.1, HO.out.2.2.2.2, hlm⟩
  clear HQ1 HNE
  obtain ⟨q, eq⟩ := Int.eq_ofNat_of_zero_le HO.out.2.1
  subst eq
  have hfq : p.funcs[q]? = some f := by have := HO.out.2.2.1; rw [Int.toNat_natCast] at this; exact this
  obtain ⟨gk, ok, ck, efn, g, hrf, m0, m1, m2, m3⟩ := fn_at H.out.2.2.1.funcs hfq
  obtain ⟨ka, kc, m3', hkc⟩ := H.out.2.2.2.2.2.1.at hfq efn
  simp only [Value.slice.injEq, HNF.out, true_and] at efn
  obtain ⟨rfl, rfl⟩ := efn
  obtain ⟨g1, g3, g4, g6, g7, g9, rfl⟩ := rdF_sl hrf
  simp only [] at m0 m1 m2 m3
  have hg9 : f.code.length ≤ g9 := by
    rw [m3] at m3'
    simp only [Option.some.injEq, Value.slice.injEq] at m3'
    rw [m3'.2.2]
    exact hkc
  obtain ⟨⟨hh, ehh, hhl⟩, hblk, hbl1, hbl2⟩ := HI.out.loop l hlm
  obtain ⟨hb, ehb⟩ : ∃ m, r.blocks[hh]? = some m := ⟨_, List.getElem?_eq_getElem hhl⟩
  have hqn : q < nf := by have := (List.getElem?_eq_some_iff.1 hfq).1; rw [HNF.out] at this; exact this
  have HFB : Hid (∀ u, Below w.heap.size w u → OwFl u U.heap.size (.slice v1 n1 c1) (.slice v2 n2 c2) (.slice v3 n3 c3) (.slice v4 r.loops.length c4) F ys r → BdAt u ⟨⟨r1, nr, r3⟩, ⟨k1, nk, k3⟩, ⟨some ⟨gk, ok, none⟩, nf, f3⟩, ⟨t1, nt, t3⟩, ⟨g1, f.params.length, g3⟩, f.result, ⟨g4, f.locals.length, g6⟩, ⟨g7, f.code.length, g9⟩, (q : Int), 0, a, ⟨v1, n1, c1⟩, ⟨v2, n2, c2⟩, ⟨v3, n3, c3⟩, ⟨v4, r.loops.length, c4⟩⟩ y p (q : Int) F f.code hh l hb) := fun u hu ow => by
    have hFl : F.length = r.blocks.length := by rw [← ow.eb, List.length_map]
    have rp := H.out.2.2.1.keep hu (Nat.le_refl _)
    refine ⟨⟨by rw [hFl]; exact HI.out.nb, HI.out.len, Rd.of_own ow.brow, by rw [ow.eb]; exact HI.out.blk⟩, fun z hz => ⟨?_, ?_⟩, ⟨Rd.keep hrf.2.2 hu (Nat.le_refl _), hg9, H.out.1.consts, rp.consts, fun z hz hop => ?_⟩, H.out.1.certs, rp.certs, rfl, ehh, by rw [ow.eb]; exact ehb, Rd.keep H.out.2.2.2.2.2.2.2.2 hu (Nat.le_refl _), hbl1, by rw [hFl]; exact hblk⟩
    · exact Rd.of_own (ow.fam.own (z.2, z.1.next) (by
        refine List.mem_append.2 (.inl ?_)
        unfold nrows
        exact List.mem_map_of_mem (f := fun x => (x.2, x.1.next)) hz))
    · have := HI.out.two z.1 (by rw [← ow.eb]; exact List.mem_map_of_mem (f := Prod.fst) hz)
      omega
    · obtain ⟨j, hj⟩ := List.getElem?_of_mem hz
      obtain ⟨qq, zz, e1, e2⟩ := (HO.out.1.instr hfq hj).const hop
      rw [e1, Int.toNat_natCast]
      exact ⟨by omega, (List.getElem?_eq_some_iff.1 e2).1⟩
  have HEB : Hid (∀ u, OwFl u U.heap.size (.slice v1 n1 c1) (.slice v2 n2 c2) (.slice v3 n3 c3) (.slice v4 r.loops.length c4) F ys r → F.map Prod.fst = r.blocks) := fun u ow => ow.eb
  have HM : Hid (w.cell? ⟨gk, ok + q * 4, none⟩ = some (.slice g1 f.params.length g3) ∧ w.cell? ⟨gk, ok + q * 4 + 1, none⟩ = some (.int .i64 f.result) ∧ w.cell? ⟨gk, ok + q * 4 + 2, none⟩ = some (.slice g4 f.locals.length g6) ∧ w.cell? ⟨gk, ok + q * 4 + 3, none⟩ = some (.slice g7 f.code.length g9)) := ⟨m0, m1, m2, m3⟩
  have HHH : Hid (l.head = (hh : Int)) := ehh
  clear m0 m1 m2 m3 m3' hkc hrf hfq hlm hblk hbl1 hbl2 ehb hhl hg9 ehh
  go_upto_region 5 with fail
  have HR : Hid ((Blk u4.drew w.heap.size #[.slice r1 nr r3, .slice k1 nk k3, .slice (some ⟨gk, ok, none⟩) nf f3, .slice t1 nt t3] 36 ∧ Blk u4.drew (w.heap.size + 1) #[.int .i64 l.head, .slice x.a x.n x.c, .slice y.a y.n y.c] 53 ∧ Below w.heap.size w u4.drew) ∧ Blk u4.drew FB #[.int .i64 0, .int .i64 a, .slice v1 n1 c1, .slice v2 n2 c2, .slice v3 n3 c3, .slice v4 r.loops.length c4] 67 ∧ OwFl u4.drew U.heap.size (.slice v1 n1 c1) (.slice v2 n2 c2) (.slice v3 n3 c3) (.slice v4 r.loops.length c4) F ys r) := ⟨⟨E4.out.1.1.keep (below_drew1 _), E4.out.1.2.1.keep (below_drew1 _), below_on E4.out.1.2.2 (Nat.le_refl _) (below_drew1 _)⟩, E4.out.2.1.keep (below_drew1 _), E4.out.2.2.keepF (below_drew1 _)⟩
  clear E4
  have KS : ∀ w', Blk w' w.heap.size #[.slice r1 nr r3, .slice k1 nk k3, .slice (some ⟨gk, ok, none⟩) nf f3, .slice t1 nt t3] 36 → Blk w' (w.heap.size + 1) #[.int .i64 l.head, .slice x.a x.n x.c, .slice y.a y.n y.c] 53 → Blk w' FB #[.int .i64 0, .int .i64 a, .slice v1 n1 c1, .slice v2 n2 c2, .slice v3 n3 c3, .slice v4 r.loops.length c4] 67 → w'.cell? ⟨w.heap.size, 0, none⟩ = some (.slice r1 nr r3) ∧ w'.cell? ⟨w.heap.size, 1, none⟩ = some (.slice k1 nk k3) ∧ w'.cell? ⟨w.heap.size, 2, none⟩ = some (.slice (some ⟨gk, ok, none⟩) nf f3) ∧ w'.cell? ⟨w.heap.size, 3, none⟩ = some (.slice t1 nt t3) ∧ w'.cell? ⟨w.heap.size + 1, 0, none⟩ = some (.int .i64 (hh : Int)) ∧ w'.cell? ⟨w.heap.size + 1, 1, none⟩ = some (.slice x.a x.n x.c) ∧ w'.cell? ⟨w.heap.size + 1, 2, none⟩ = some (.slice y.a y.n y.c) ∧ w'.cell? ⟨FB, 0, none⟩ = some (.int .i64 0) ∧ w'.cell? ⟨FB, 1, none⟩ = some (.int .i64 a) ∧ w'.cell? ⟨FB, 2, none⟩ = some (.slice v1 n1 c1) ∧ w'.cell? ⟨FB, 3, none⟩ = some (.slice v2 n2 c2) ∧ w'.cell? ⟨FB, 4, none⟩ = some (.slice v3 n3 c3) ∧ w'.cell? ⟨FB, 5, none⟩ = some (.slice v4 r.loops.length c4) := fun w' A B C => by
    obtain ⟨p0, p1, p2, p3⟩ := cel4 A
    obtain ⟨l0, l1, l2⟩ := blk3 B
    obtain ⟨y0, y1, y2, y3, y4, y5⟩ := cel6 C
    rw [HHH.out] at l0
    exact ⟨p0, p1, p2, p3, l0, l1, l2, y0, y1, y2, y3, y4, y5⟩
  refine wp_region_held_drew (S := fun w' => w'.cell? ⟨w.heap.size, 0, none⟩ = some (.slice r1 nr r3) ∧ w'.cell? ⟨w.heap.size, 1, none⟩ = some (.slice k1 nk k3) ∧ w'.cell? ⟨w.heap.size, 2, none⟩ = some (.slice (some ⟨gk, ok, none⟩) nf f3) ∧ w'.cell? ⟨w.heap.size, 3, none⟩ = some (.slice t1 nt t3) ∧ w'.cell? ⟨w.heap.size + 1, 0, none⟩ = some (.int .i64 (hh : Int)) ∧ w'.cell? ⟨w.heap.size + 1, 1, none⟩ = some (.slice x.a x.n x.c) ∧ w'.cell? ⟨w.heap.size + 1, 2, none⟩ = some (.slice y.a y.n y.c) ∧ w'.cell? ⟨FB, 0, none⟩ = some (.int .i64 0) ∧ w'.cell? ⟨FB, 1, none⟩ = some (.int .i64 a) ∧ w'.cell? ⟨FB, 2, none⟩ = some (.slice v1 n1 c1) ∧ w'.cell? ⟨FB, 3, none⟩ = some (.slice v2 n2 c2) ∧ w'.cell? ⟨FB, 4, none⟩ = some (.slice v3 n3 c3) ∧ w'.cell? ⟨FB, 5, none⟩ = some (.slice v4 r.loops.length c4)) (by kernel_rfl) (KS _ HR.out.1.1 HR.out.1.2.1 HR.out.2.1) (fun hHeld => ?_)
  refine wpAnyH_take (i := 0) (v := ?_) rfl (by kernel_rfl) (by kernel_rfl) (by kernel_rfl) (fun _ _ _ h => h) (Or.inl ⟨by rfl, ?_⟩) (by assumption) ?_
  rotate_left
  · (intro w hSw; (try dsimp only at hSw); go_simp; (try with_reducible rfl))
  refine wpAnyH_take (i := 1) (v := ?_) rfl (by kernel_rfl) (by kernel_rfl) (by kernel_rfl) (fun _ _ _ h => h) (Or.inl ⟨by rfl, ?_⟩) (by assumption) ?_
  rotate_left
  · (intro w hSw; (try dsimp only at hSw); go_simp; (try with_reducible rfl))
  refine wpAnyH_take (i := 2) (v := ?_) rfl (by kernel_rfl) (by kernel_rfl) (by kernel_rfl) (fun _ _ _ h => h) (Or.inl ⟨by rfl, ?_⟩) (by assumption) ?_
  rotate_left
  · (intro w hSw; (try dsimp only at hSw); go_simp; (try with_reducible rfl))
  refine wpAnyH_take (i := 4) (v := ?_) rfl (by kernel_rfl) (by kernel_rfl) (by kernel_rfl) (fun _ _ _ h => h) (Or.inl ⟨by rfl, ?_⟩) (by assumption) ?_
  rotate_left
  · (intro w hSw; (try dsimp only at hSw); go_simp; (try with_reducible rfl))
  refine wpAnyH_ready (rs := [3]) (by kernel_rfl) (by simp) ?_
  refine AllReadyH.cons rfl (fun KC hKC => ?_) AllReadyH.nil
  go_simp
  have HMu := HM.out
  refine (bodyOf_any ⟨r1, nr, r3⟩ ⟨k1, nk, k3⟩ ⟨some ⟨gk, ok, none⟩, nf, f3⟩ ⟨t1, nt, t3⟩ ⟨g1, f.params.length, g3⟩ ⟨g4, f.locals.length, g6⟩ ⟨g7, f.code.length, g9⟩ ⟨v1, n1, c1⟩ ⟨v2, n2, c2⟩ ⟨v3, n3, c3⟩ ⟨v4, r.loops.length, c4⟩ f.result 0 a q gk ok u4.drew hqn (by rw [HR.out.1.2.2.cell (block_lt_of_cell HMu.1)]; exact HMu.1) (by rw [HR.out.1.2.2.cell (block_lt_of_cell HMu.2.1)]; exact HMu.2.1) (by rw [HR.out.1.2.2.cell (block_lt_of_cell HMu.2.2.1)]; exact HMu.2.2.1) (by rw [HR.out.1.2.2.cell (block_lt_of_cell HMu.2.2.2)]; exact HMu.2.2.2)).mono ?_
  rintro e u5 ⟨rfl, bb⟩
  have E5 : Hid ((Blk u5 w.heap.size #[.slice r1 nr r3, .slice k1 nk k3, .slice (some ⟨gk, ok, none⟩) nf f3, .slice t1 nt t3] 36 ∧ Blk u5 (w.heap.size + 1) #[.int .i64 l.head, .slice x.a x.n x.c, .slice y.a y.n y.c] 53 ∧ Below w.heap.size w u5) ∧ Blk u5 FB #[.int .i64 0, .int .i64 a, .slice v1 n1 c1, .slice v2 n2 c2, .slice v3 n3 c3, .slice v4 r.loops.length c4] 67 ∧ OwFl u5 U.heap.size (.slice v1 n1 c1) (.slice v2 n2 c2) (.slice v3 n3 c3) (.slice v4 r.loops.length c4) F ys r) := ⟨⟨HR.out.1.1.keep bb, HR.out.1.2.1.keep bb, below_on HR.out.1.2.2 (Nat.le_refl _) bb⟩, HR.out.2.1.keep bb, HR.out.2.2.keepF bb⟩
  clear bb HMu
  go_simp
  refine hKC.out _ _ (KS _ E5.out.1.1 E5.out.1.2.1 E5.out.2.1) (fun hHeld => ?_)
  clear hKC KC
  refine wpAnyH_ready (rs := [5]) (by kernel_rfl) (by simp) ?_
  refine AllReadyH.cons rfl (fun KC hKC => ?_) AllReadyH.nil
  go_simp
  refine (loopFault_any ⟨⟨r1, nr, r3⟩, ⟨k1, nk, k3⟩, ⟨some ⟨gk, ok, none⟩, nf, f3⟩, ⟨t1, nt, t3⟩, ⟨g1, f.params.length, g3⟩, f.result, ⟨g4, f.locals.length, g6⟩, ⟨g7, f.code.length, g9⟩, (q : Int), 0, a, ⟨v1, n1, c1⟩, ⟨v2, n2, c2⟩, ⟨v3, n3, c3⟩, ⟨v4, r.loops.length, c4⟩⟩ hh x y p (q : Int) F f.code l hb u5 (HFB.out u5 E5.out.1.2.2 E5.out.2.2)).mono ?_
  rintro e u6 ⟨⟨n, rfl, hn⟩, bb⟩
  have E6 : Hid (Below w.heap.size w u6 ∧ LfIs p (q : Int) l n) := ⟨below_on E5.out.1.2.2 (Nat.le_refl _) bb, .inr ⟨f, r, HP.out, by rw [← HEB.out u5 E5.out.2.2]; exact hn⟩⟩
  have E7 := KS u6 (E5.out.1.1.keep bb) (E5.out.1.2.1.keep bb) (E5.out.2.1.keep bb)
  clear hn bb
  go_simp
  refine hKC.out _ _ E7 (fun hHeld => ?_)
  clear hKC KC
  refine wpAnyH_take (i := 6) (v := ?_) rfl (by kernel_rfl) (by kernel_rfl) (by kernel_rfl) (fun _ _ _ h => h) (Or.inl ⟨by rfl, ?_⟩) (by assumption) ?_
  rotate_left
  · (intro w hSw; (try dsimp only at hSw); go_simp; (try with_reducible rfl))
  refine wpAnyH_done (by kernel_rfl) ?_ _
  clear hHeld KS E7
  go_wp2
  go_ret
  exact ⟨⟨n, rfl, E6.out.2⟩, E6.out.1⟩
end Go.Proofs.YtdfmdgbolmbffaaGreat
