import Derived.Test.YtifpjgdnikkekaaGreatSh52
namespace Go.Proofs.YtifpjgdnikkekaaGreat
open Go.ChangeShapes Go.WideShapes Go.ChangeAt Go.RowKit
set_option linter.unusedVariables false
/-- What a flow without a code gives of code. -/
theorem FlowOk.free {xs : List MI} {r : MFl} (h : FlowOk xs r) (h0 : r.code = 0) : CodeGood xs ∧ ∃ x, xs[xs.length - 1]? = some x ∧ onB x = false := by
  cases h with
  | good g x1 o1 => exact ⟨g, _, x1, o1⟩
  | _ => simp [noFl] at h0
theorem scIn_of {w : World} {v : VP} {p : MP} {fi : Nat} {f : MF} {g : VF} {r : MFl} (hs : p.small) (hp : FaultIs p 0) (h : RdP w v p) (hf : p.funcs[fi]? = some f) (hg : RdF w g f) (hfl : FlowOk f.code r) (h0 : r.code = 0) : ScIn w v p g f := by
  obtain ⟨hg1, x1, hx1, ho1⟩ := hfl.free h0
  refine ⟨hs, hp, hs.func f (List.mem_of_getElem? hf), h, hg, hg1.1, hg1.2.1, hg1.2.2, fun x hx => ?_, fun k x hx ho => ?_⟩
  · obtain ⟨k, hk⟩ := List.getElem?_of_mem hx
    exact hp.instr hf hk
  · have hlt := (List.getElem?_eq_some_iff.1 hx).1
    refine Classical.byContradiction fun e => ?_
    have hk : k = f.code.length - 1 := by omega
    rw [hk, hx1] at hx
    obtain rfl := Option.some.inj hx
    rw [ho] at ho1
    cases ho1
set_option maxHeartbeats 8000000 in
set_option maxRecDepth 100000 in
theorem implShapes_any (v : VP) (p : MP) (fi : Int) (shv : Value) (shs : List (List Int)) (w : World) (hs : p.small) (hw : p.wf) (h : RdP w v p) (hcap : RdRc w v.r p.regions) (hfp : RdFp w v.f p.funcs) (hrs : RdRc w shv shs) (hrows : ∀ r ∈ shs, r.length ≤ 1048576) (hsl : shs.length ≤ 1048576) :
    Calls Tryz.prog 18 #[.agg #[v.r, v.k, v.f, v.t], .int .i64 fi, shv] w fun e w' => SaysIff e (ShapesP p fi shs) ∧ Below w.heap.size w w' := by
  have H : Hid (p.small ∧ p.wf ∧ RdP w v p ∧ RdRc w v.r p.regions ∧ RdFp w v.f p.funcs ∧ RdRc w shv shs ∧ (∀ r ∈ shs, r.length ≤ 1048576) ∧ shs.length ≤ 1048576) := ⟨hs, hw, h, hcap, hfp, hrs, hrows, hsl⟩
  obtain ⟨r1, r3, k1, k3, t1, t3, f1, f3, rfl⟩ := h.sl
  obtain ⟨ha, hc, rfl⟩ : ∃ a c, shv = .slice a shs.length c := by obtain ⟨_, _, h2, _⟩ := hrs; exact h2.is_slice
  clear hs hw h hcap hfp hrs hrows hsl
  generalize hnf : p.funcs.length = nf at H ⊢
  have HNF : Hid (p.funcs.length = nf) := hnf
  clear hnf
  generalize p.regions.length = nr at H ⊢
  generalize p.consts.length = nk at H ⊢
  generalize p.certs.length = nt at H ⊢
  simp only [] at H
  have E0 : Hid (Blk (w.alloc (.cells #[.slice r1 nr r3, .slice k1 nk k3, .slice f1 nf f3, .slice t1 nt t3] 36)) w.heap.size #[.slice r1 nr r3, .slice k1 nk k3, .slice f1 nf f3, .slice t1 nt t3] 36 ∧ Below w.heap.size w (w.alloc (.cells #[.slice r1 nr r3, .slice k1 nk k3, .slice f1 nf f3, .slice t1 nt t3] 36))) := ⟨Blk.new _ _ _, below_alloc _ _⟩
  go_enter Tryz.func18, Tryz.ntmps18
  go_upto_region 1 with fail
  refine wp_world (fun u => Hid (Blk u w.heap.size #[.slice r1 nr r3, .slice k1 nk k3, .slice f1 nf f3, .slice t1 nt t3] 36 ∧ Below w.heap.size w u)) E0 ?_
  rintro U E1
  clear E0
  obtain ⟨p0, p1, p2, p3⟩ := cel4 E1.out.1
  go_wp2_with fail
  refine (flowOfFunc_any ⟨.slice r1 nr r3, .slice k1 nk k3, .slice f1 nf f3, .slice t1 nt t3⟩ p fi U H.out.1 H.out.2.1 (H.out.2.2.1.keep E1.out.2 (Nat.le_refl _)) (H.out.2.2.2.1.keep E1.out.2 (Nat.le_refl _)) (H.out.2.2.2.2.1.keep E1.out.2 (Nat.le_refl _))).mono ?_
  rintro e u1 ⟨c, a, v1, n1, c1, v2, n2, c2, v3, n3, c3, v4, n4, c4, bb, rfl, hbb, hfr, b1⟩
  have HBB : Hid ((bb = true ↔ FlowP p fi) ∧ (bb = true → ∃ f r, p.funcs[fi.toNat]? = some f ∧ FlowOk f.code r ∧ r.code = 0)) := ⟨hbb, fun e => by obtain ⟨f, r, F, ys, h1, h2, h3, _⟩ := hfr e; exact ⟨f, r, h1, h2, h3⟩⟩
  have E2 : Hid (Blk (u1.alloc (.cells #[.int .i64 c, .int .i64 a, .slice v1 n1 c1, .slice v2 n2 c2, .slice v3 n3 c3, .slice v4 n4 c4] 67)) w.heap.size #[.slice r1 nr r3, .slice k1 nk k3, .slice f1 nf f3, .slice t1 nt t3] 36 ∧ Below w.heap.size w (u1.alloc (.cells #[.int .i64 c, .int .i64 a, .slice v1 n1 c1, .slice v2 n2 c2, .slice v3 n3 c3, .slice v4 n4 c4] 67))) := ⟨(E1.out.1.keep b1).keep (below_alloc _ _), below_on (below_on E1.out.2 (Nat.le_refl _) b1) (Nat.le_refl _) (below_alloc _ _)⟩
  clear hbb hfr b1 E1 p0 p1 p2 p3
  go_upto_region 2 with fail
  generalize u1.heap.size = Y
  refine wp_world (fun u => Hid (Blk u w.heap.size #[.slice r1 nr r3, .slice k1 nk k3, .slice f1 nf f3, .slice t1 nt t3] 36 ∧ Below w.heap.size w u)) E2 ?_
  rintro U2 E3
  clear E2
  cases bb
  · have HN : Hid (¬ ShapesP p fi shs) := fun e => by
      have := HBB.out.1.2 ⟨e.1, e.2.1, by obtain ⟨f, h1, h2, _⟩ := e.2.2; exact ⟨f, h1, h2⟩⟩
      cases this
    go_wp2_with fail
    go_ret
    exact ⟨.no HN.out, E3.out.2⟩
  · have HFP : Hid (FlowP p fi) := HBB.out.1.1 (by first | rfl | trivial)
    obtain ⟨f, r, hf, hfl, hr0⟩ := HBB.out.2 (by first | rfl | trivial)
    obtain ⟨q, rfl⟩ := Int.eq_ofNat_of_zero_le HFP.out.2.1
    rw [Int.toNat_natCast] at hf
    obtain ⟨gk, ok, ck, efn, g, hrf, m0, m1, m2, m3⟩ := fn_at (H.out.2.2.1.keep E3.out.2 (Nat.le_refl _)).funcs hf
    simp only [Value.slice.injEq, HNF.out, true_and] at efn
    obtain ⟨rfl, rfl⟩ := efn
    obtain ⟨g1, g3, g4, g6, g7, g9, rfl⟩ := rdF_sl hrf
    have hqL : (q : Int) < (nf : Int) := by have := (List.getElem?_eq_some_iff.1 hf).1; have := HNF.out; omega
    have HF : Hid (p.funcs[q]? = some f ∧ ScIn U2 ⟨.slice r1 nr r3, .slice k1 nk k3, .slice (some ⟨gk, ok, none⟩) nf f3, .slice t1 nt t3⟩ p ⟨.slice g1 f.params.length g3, .slice g4 f.locals.length g6, .slice g7 f.code.length g9⟩ f ∧ FlowFree f.code) := ⟨hf, scIn_of H.out.1 HFP.out.1 (H.out.2.2.1.keep E3.out.2 (Nat.le_refl _)) hf hrf hfl hr0, ⟨r, hfl, hr0⟩⟩
    clear hf hrf hfl hr0 HBB
    simp only [] at m0 m1 m2 m3
    go_upto_region 4 with fail
    have bD := below_drew1 U2
    have m0 := bcell_lt bD m0
    have m1 := bcell_lt bD m1
    have m2 := bcell_lt bD m2
    have m3 := bcell_lt bD m3
    obtain ⟨p0, p1, p2, p3⟩ := cel4 (E3.out.1.keep bD)
    have HD : Hid (ScIn U2.drew ⟨.slice r1 nr r3, .slice k1 nk k3, .slice (some ⟨gk, ok, none⟩) nf f3, .slice t1 nt t3⟩ p ⟨.slice g1 f.params.length g3, .slice g4 f.locals.length g6, .slice g7 f.code.length g9⟩ f ∧ Below w.heap.size w U2.drew) := ⟨⟨HF.out.2.1.ps, HF.out.2.1.pf, HF.out.2.1.fs, HF.out.2.1.rp.keep bD (Nat.le_refl _), HF.out.2.1.rf.keep bD (Nat.le_refl _), HF.out.2.1.c1, HF.out.2.1.cl, HF.out.2.1.pl, HF.out.2.1.ok, HF.out.2.1.last⟩, below_on E3.out.2 (Nat.le_refl _) bD⟩
    clear bD
    generalize hsn : shs.length = ns at H ⊢
    have HSN : Hid (shs.length = ns) := hsn
    clear hsn
    go_region_with (go_at_call 50; refine (shapesHold_any ⟨.slice r1 nr r3, .slice k1 nk k3, .slice (some ⟨gk, ok, none⟩) nf f3, .slice t1 nt t3⟩ p ⟨.slice g1 f.params.length g3, .slice g4 f.locals.length g6, .slice g7 f.code.length g9⟩ f (.slice ha ns hc) shs U2.drew HD.out.1 (H.out.2.2.2.2.2.1.keep HD.out.2 (Nat.le_refl _)) H.out.2.2.2.2.2.2.1 (by have := H.out.2.2.2.2.2.2.2; have := HSN.out; omega)).mono ?_; rintro e u3 ⟨⟨b3, rfl, hb3⟩, bl3⟩; have H3 : Hid ((b3 = true ↔ ShapesT p f shs) ∧ Below w.heap.size w u3) := ⟨hb3, below_on HD.out.2 (Nat.le_refl _) bl3⟩; clear hb3 bl3)
    all_goals
      go_wp2_with fail
      go_ret
      exact ⟨⟨b3, rfl, H3.out.1.trans ⟨fun e => ⟨HFP.out.1, HFP.out.2.1, f, by rw [Int.toNat_natCast]; exact HF.out.1, HF.out.2.2, e⟩, fun e => by
        obtain ⟨f', hf', _, h5⟩ := e.2.2
        rw [Int.toNat_natCast, HF.out.1] at hf'
        obtain rfl := Option.some.inj hf'
        exact h5⟩⟩, H3.out.2⟩
end Go.Proofs.YtifpjgdnikkekaaGreat
