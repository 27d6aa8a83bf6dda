import Derived.Test.YtifpjgdnikkekaaGreatSh27
import Derived.Test.YtifpjgdnikkekaaGreatSh38
import Derived.Test.YtifpjgdnikkekaaGreatSh11
import Derived.Test.YtifpjgdnikkekaaGreatSh14
import Derived.Test.YtifpjgdnikkekaaGreatSh17
import Derived.Deep.RegionLaw
namespace Go.Proofs.YtifpjgdnikkekaaGreat
open Go.ChangeShapes Go.WideShapes Go.ChangeAt Go.RowKit
set_option linter.unusedVariables false
/-- A function's flow has no code. -/
def FlowFree (xs : List MI) : Prop := ∃ r, FlowOk xs r ∧ r.code = 0
/-- Do shapes hold of a program's function? -/
def ShapesP (p : MP) (fi : Int) (shs : List (List Int)) : Prop := FaultIs p 0 ∧ 0 ≤ fi ∧ ∃ f, p.funcs[fi.toNat]? = some f ∧ FlowFree f.code ∧ ShapesT p f shs
theorem rdFl_sl {w : World} {vb vo vi vl : Value} {r : MFl} (h : RdFl w vb vo vi vl r) : ∃ v1 n1 c1 v2 n2 c2 v3 n3 c3 v4 n4 c4, vb = .slice v1 n1 c1 ∧ vo = .slice v2 n2 c2 ∧ vi = .slice v3 n3 c3 ∧ vl = .slice v4 n4 c4 := by
  obtain ⟨v1, c1, e1⟩ : ∃ a c, vb = .slice a r.blocks.length c := by obtain ⟨_, _, h2, _⟩ := h.blocks; exact h2.is_slice
  obtain ⟨v2, c2, e2⟩ := h.order.is_slice
  obtain ⟨v3, c3, e3⟩ := h.idom.is_slice
  obtain ⟨v4, c4, e4⟩ : ∃ a c, vl = .slice a r.loops.length c := by obtain ⟨_, _, h2, _⟩ := h.loops; exact h2.is_slice
  exact ⟨v1, _, c1, v2, _, c2, v3, _, c3, v4, _, c4, e1, e2, e3, e4⟩
theorem flow_code (c a : Int) (a1 a2 a3 a4 : Option Addr) (n1 c1 n2 c2 n3 c3 n4 c4 : Nat) (W : World) : (Instr.field 67 (.agg #[.int .i64 c, .int .i64 a, .slice a1 n1 c1, .slice a2 n2 c2, .slice a3 n3 c3, .slice a4 n4 c4]) 0).run Tryz.prog W = .ok (.int .i64 c) W := by kernel_rfl
theorem resultL_small (f : MF) : (resultL f).length ≤ 1048576 := by unfold resultL; split <;> simp
theorem goesB_iff {x : MI} : goesB x = true ↔ goesT x.op := by unfold goesT; simp [goesB, or_assoc]
/-- Where ShapesHold stands. -/
structure SpH (w u : World) (v : VP) (g : VF) (f : MF) (Y : Nat) (shv : Value) (shs : List (List Int)) : Prop where
  pb : Blk u w.heap.size #[v.r, v.k, v.f, v.t] 36
  fb : Blk u Y #[g.p, .int .i64 f.result, g.l, g.c] 63
  rf : RdF u g f
  rs : RdRc u shv shs
  bel : Below w.heap.size w u
theorem SpH.keep {w u u' : World} {v : VP} {g : VF} {f : MF} {Y : Nat} {shv : Value} {shs : List (List Int)} (h : SpH w u v g f Y shv shs) (hb : Below u.heap.size u u') : SpH w u' v g f Y shv shs := ⟨h.pb.keep hb, h.fb.keep hb, h.rf.keep hb (Nat.le_refl _), h.rs.keep hb (Nat.le_refl _), below_on h.bel (Nat.le_refl _) hb⟩
/-- .. at an instruction. -/
structure SpI (w u : World) (v : VP) (g : VF) (f : MF) (Y : Nat) (shv : Value) (shs : List (List Int)) (X : Nat) (x : MI) (ad : Addr) (row : Value) (sh : List Int) : Prop where
  sp : SpH w u v g f Y shv shs
  xb : Blk u X #[.int .i64 x.op, .int .i64 x.a, .int .i64 x.b, .int .i64 x.c] 73
  at_ : u.cell? ad = some row
  rd : Rd u 1 row sh.length (sh.flatMap intCell)
theorem SpI.keep {w u u' : World} {v : VP} {g : VF} {f : MF} {Y : Nat} {shv : Value} {shs : List (List Int)} {X : Nat} {x : MI} {ad : Addr} {row : Value} {sh : List Int} (h : SpI w u v g f Y shv shs X x ad row sh) (hb : Below u.heap.size u u') : SpI w u' v g f Y shv shs X x ad row sh := ⟨h.sp.keep hb, h.xb.keep hb, bcell_lt hb h.at_, h.rd.keep hb (Nat.le_refl _)⟩
theorem SpI.rets {w u : World} {v : VP} {gp gl gc : Value} {f : MF} {Y : Nat} {shv : Value} {shs : List (List Int)} {X : Nat} {x : MI} {ad : Addr} {row : Value} {sh : List Int} (h : SpI w u v ⟨gp, gl, gc⟩ f Y shv shs X x ad row sh) : u.cell? ad = some row ∧ u.cell? ⟨Y, 0, none⟩ = some gp ∧ u.cell? ⟨Y, 1, none⟩ = some (.int .i64 f.result) ∧ u.cell? ⟨Y, 2, none⟩ = some gl ∧ u.cell? ⟨Y, 3, none⟩ = some gc := ⟨h.at_, h.sp.fb.cell 0, h.sp.fb.cell 1, h.sp.fb.cell 2, h.sp.fb.cell 3⟩
theorem SpI.args {w u : World} {vr vk vf vt gp gl gc : Value} {f : MF} {Y : Nat} {shv : Value} {shs : List (List Int)} {X : Nat} {x : MI} {ad : Addr} {row : Value} {sh : List Int} (h : SpI w u ⟨vr, vk, vf, vt⟩ ⟨gp, gl, gc⟩ f Y shv shs X x ad row sh) : u.cell? ad = some row ∧ u.cell? ⟨Y, 0, none⟩ = some gp ∧ u.cell? ⟨Y, 1, none⟩ = some (.int .i64 f.result) ∧ u.cell? ⟨Y, 2, none⟩ = some gl ∧ u.cell? ⟨Y, 3, none⟩ = some gc ∧ u.cell? ⟨w.heap.size, 0, none⟩ = some vr ∧ u.cell? ⟨w.heap.size, 1, none⟩ = some vk ∧ u.cell? ⟨w.heap.size, 2, none⟩ = some vf ∧ u.cell? ⟨w.heap.size, 3, none⟩ = some vt ∧ u.cell? ⟨X, 0, none⟩ = some (.int .i64 x.op) ∧ u.cell? ⟨X, 1, none⟩ = some (.int .i64 x.a) ∧ u.cell? ⟨X, 2, none⟩ = some (.int .i64 x.b) ∧ u.cell? ⟨X, 3, none⟩ = some (.int .i64 x.c) := ⟨h.at_, h.sp.fb.cell 0, h.sp.fb.cell 1, h.sp.fb.cell 2, h.sp.fb.cell 3, h.sp.pb.cell 0, h.sp.pb.cell 1, h.sp.pb.cell 2, h.sp.pb.cell 3, h.xb.cell 0, h.xb.cell 1, h.xb.cell 2, h.xb.cell 3⟩
/-- A shape among them. -/
theorem shape_row {u : World} {a : Option Addr} {n c : Nat} {shs : List (List Int)} (h : RdRc u (.slice a n c) shs) (hn : n = shs.length) {i : Nat} {sh : List Int} (hs : shs[i]? = some sh) : ∃ gg oo sa sc, a = some ⟨gg, oo, none⟩ ∧ u.cell? ⟨gg, oo + i, none⟩ = some (.slice sa sh.length sc) ∧ Rd u 1 (.slice sa sh.length sc) sh.length (sh.flatMap intCell) ∧ sh.length ≤ sc := by
  obtain ⟨xs, h1, h2, h3⟩ := h
  have hi := (List.getElem?_eq_some_iff.1 hs).1
  obtain ⟨x, hx, hx1⟩ : ∃ x, xs[i]? = some x ∧ x.1 = sh := by
    rw [← h1, List.getElem?_map] at hs
    cases hx : xs[i]? with
    | none => rw [hx] at hs; cases hs
    | some x => rw [hx] at hs; exact ⟨x, rfl, Option.some.inj hs⟩
  subst hx1
  rcases h2.2 with ⟨e, _⟩ | ⟨gg, oo, cc, e, hc⟩
  · omega
  · simp only [Value.slice.injEq] at e
    have j2 := Rd.elem rCells_length hc i _ hx 0 _ rfl
    rw [Nat.mul_one, Nat.add_zero] at j2
    obtain ⟨hr, sa, sc, e2, hle⟩ := h3 x (List.mem_of_getElem? hx)
    rw [e2] at j2 hr
    exact ⟨gg, oo, sa, sc, e.1, j2, hr, hle⟩
set_option maxHeartbeats 4000000 in
set_option maxRecDepth 100000 in
theorem specShapes_any (v : VP) (p : MP) (fi : Int) (shv : Value) (shs : List (List Int)) (w : World) (hs : p.small) (hw : p.wf) (hfi : W64 fi) (h : RdP w v p) (hl : shs.length ≤ 1048576) (hl2 : ∀ r ∈ shs, r.length ≤ 1048576) (hr : RdRc w shv shs) :
    Calls Tryz.prog 16 #[.agg #[v.r, v.k, v.f, v.t], .int .i64 fi, shv] w fun e w' => SaysIff e (ShapesP p fi shs) ∧ Below w.heap.size w w' := by
  obtain ⟨r1, r3, k1, k3, t1, t3, f1, f3, rfl⟩ := h.sl
  obtain ⟨ha, hc, rfl⟩ : ∃ a c, shv = .slice a shs.length c := by obtain ⟨_, _, h2, _⟩ := hr; exact h2.is_slice
  have H : Hid (p.small ∧ p.wf ∧ W64 fi ∧ RdP w ⟨.slice r1 p.regions.length r3, .slice k1 p.consts.length k3, .slice f1 p.funcs.length f3, .slice t1 p.certs.length t3⟩ p ∧ RdRc w (.slice ha shs.length hc) shs ∧ shs.length ≤ 1048576 ∧ ∀ r ∈ shs, r.length ≤ 1048576) := ⟨hs, hw, hfi, h, hr, hl, hl2⟩
  clear hs hw hfi h hr hl hl2
  have b0 := below_alloc w (.cells #[.slice r1 p.regions.length r3, .slice k1 p.consts.length k3, .slice f1 p.funcs.length f3, .slice t1 p.certs.length t3] 36)
  have E0 : Hid (Blk (w.alloc (.cells #[.slice r1 p.regions.length r3, .slice k1 p.consts.length k3, .slice f1 p.funcs.length f3, .slice t1 p.certs.length t3] 36)) w.heap.size #[.slice r1 p.regions.length r3, .slice k1 p.consts.length k3, .slice f1 p.funcs.length f3, .slice t1 p.certs.length t3] 36 ∧ Below w.heap.size w (w.alloc (.cells #[.slice r1 p.regions.length r3, .slice k1 p.consts.length k3, .slice f1 p.funcs.length f3, .slice t1 p.certs.length t3] 36))) := ⟨Blk.new _ _ _, b0⟩
  clear b0
  go_enter Tryz.func16, Tryz.ntmps16
  go_upto_region 1 with fail
  refine wp_world (fun u => Hid (Blk u w.heap.size #[.slice r1 p.regions.length r3, .slice k1 p.consts.length k3, .slice f1 p.funcs.length f3, .slice t1 p.certs.length t3] 36 ∧ Below w.heap.size w u)) E0 ?_
  rintro U0 E1
  clear E0
  have p0 := E1.out.1.cell 0
  have p1 := E1.out.1.cell 1
  have p2 := E1.out.1.cell 2
  have p3 := E1.out.1.cell 3
  simp only [List.getElem?_toArray, List.getElem?_cons_zero, List.getElem?_cons_succ] at p0 p1 p2 p3
  go_wp2_with fail
  refine (specFault_any ⟨.slice r1 p.regions.length r3, .slice k1 p.consts.length k3, .slice f1 p.funcs.length f3, .slice t1 p.certs.length t3⟩ p U0 H.out.1 H.out.2.1 (H.out.2.2.2.1.keep E1.out.2 (Nat.le_refl _))).mono ?_
  rintro e u1 ⟨⟨n, rfl, hn⟩, b1⟩
  have E2 : Hid (Blk u1 w.heap.size #[.slice r1 p.regions.length r3, .slice k1 p.consts.length k3, .slice f1 p.funcs.length f3, .slice t1 p.certs.length t3] 36 ∧ Below w.heap.size w u1) := ⟨E1.out.1.keep b1, below_on E1.out.2 (Nat.le_refl _) b1⟩
  clear b1 E1 p0 p1 p2 p3
  clear U0
  have p2 := E2.out.1.cell 2
  simp only [List.getElem?_toArray, List.getElem?_cons_zero, List.getElem?_cons_succ] at p2
  by_cases hn0 : n = 0
  · subst hn0
    have HFA : Hid (FaultIs p 0) := hn
    clear hn
    by_cases hf0 : fi < 0
    · have HN : Hid (¬ ShapesP p fi shs) := fun e => absurd e.2.1 (by omega)
      have hf0' : decide (fi < 0) = true := by simpa using hf0
      go_wp2_with fail
      go_ret
      exact ⟨⟨false, rfl, fun e => (by cases e), fun e => absurd e HN.out⟩, E2.out.2⟩
    · by_cases hf1 : (p.funcs.length : Int) ≤ fi
      · have HN : Hid (¬ ShapesP p fi shs) := fun e => by
          obtain ⟨f, hf, _⟩ := e.2.2
          have := (List.getElem?_eq_some_iff.1 hf).1
          omega
        go_wp2_with fail
        go_ret
        exact ⟨⟨false, rfl, fun e => (by cases e), fun e => absurd e HN.out⟩, E2.out.2⟩
      · obtain ⟨q, rfl⟩ := Int.eq_ofNat_of_zero_le (show 0 ≤ fi by omega)
        obtain ⟨f, hf⟩ : ∃ f, p.funcs[q]? = some f := ⟨_, List.getElem?_eq_getElem (by omega)⟩
        have HRF := (H.out.2.2.2.1.keep E2.out.2 (Nat.le_refl _)).funcs
        obtain ⟨gk, ok, ck, efn, g, hrf, m0, m1, m2, m3⟩ := fn_at HRF hf
        simp only [Value.slice.injEq, true_and] at efn
        obtain ⟨rfl, rfl⟩ := efn
        obtain ⟨g1, g3, g4, g6, g7, g9, rfl⟩ := rdF_sl hrf
        have hqL : (q : Int) < (p.funcs.length : Int) := by omega
        have HF : Hid (p.funcs[q]? = some f ∧ f.small ∧ FuncOk f ∧ f.wf) := ⟨hf, H.out.1.func f (List.mem_of_getElem? hf), HFA.out.parts.2.2.1.2.2.1 q (List.getElem?_eq_some_iff.1 hf).1 f hf, H.out.2.1.funcs f (List.mem_of_getElem? hf)⟩
        have E3 : Hid (SpH w (u1.alloc (.cells #[.slice g1 f.params.length g3, .int .i64 f.result, .slice g4 f.locals.length g6, .slice g7 f.code.length g9] 63)) ⟨.slice r1 p.regions.length r3, .slice k1 p.consts.length k3, .slice (some ⟨gk, ok, none⟩) p.funcs.length f3, .slice t1 p.certs.length t3⟩ ⟨.slice g1 f.params.length g3, .slice g4 f.locals.length g6, .slice g7 f.code.length g9⟩ f u1.heap.size (.slice ha shs.length hc) shs) := by
          have b2 := below_alloc u1 (.cells #[.slice g1 f.params.length g3, .int .i64 f.result, .slice g4 f.locals.length g6, .slice g7 f.code.length g9] 63)
          exact ⟨E2.out.1.keep b2, Blk.new _ _ _, hrf.keep b2 (Nat.le_refl _), (H.out.2.2.2.2.1.keep E2.out.2 (Nat.le_refl _)).keep b2 (Nat.le_refl _), below_on E2.out.2 (Nat.le_refl _) b2⟩
        clear HRF hrf hf
        go_upto_region 4 with fail
        generalize u1.heap.size = Y at E3 ⊢
        refine wp_world (fun u => Hid (SpH w u ⟨.slice r1 p.regions.length r3, .slice k1 p.consts.length k3, .slice (some ⟨gk, ok, none⟩) p.funcs.length f3, .slice t1 p.certs.length t3⟩ ⟨.slice g1 f.params.length g3, .slice g4 f.locals.length g6, .slice g7 f.code.length g9⟩ f Y (.slice ha shs.length hc) shs)) E3 ?_
        rintro U E4
        clear E3 E2 m0 m1 m2 m3 p2
        clear u1
        have y3 := E4.out.fb.cell 3
        simp only [List.getElem?_toArray, List.getElem?_cons_zero, List.getElem?_cons_succ] at y3
        go_wp2_with fail
        refine (specFlow_any (.slice g7 f.code.length g9) f.code U HF.out.2.1.2.2 E4.out.rf.2.2).mono ?_
        rintro e u2 ⟨r, vb, vo, vi, vl, rfl, hfl, hrd, b2⟩
        obtain ⟨v1, n1, c1, v2, n2, c2, v3, n3, c3, v4, n4, c4, rfl, rfl, rfl, rfl⟩ := rdFl_sl hrd
        have hff := flow_code r.code r.at_ v1 v2 v3 v4 n1 c1 n2 c2 n3 c3 n4 c4
        clear hrd
        have E5 : Hid (SpH w u2 ⟨.slice r1 p.regions.length r3, .slice k1 p.consts.length k3, .slice (some ⟨gk, ok, none⟩) p.funcs.length f3, .slice t1 p.certs.length t3⟩ ⟨.slice g1 f.params.length g3, .slice g4 f.locals.length g6, .slice g7 f.code.length g9⟩ f Y (.slice ha shs.length hc) shs) := E4.out.keep b2
        clear b2 E4 y3
        clear U
        by_cases hc0 : r.code = 0
        · have hff0 := flow_code 0 r.at_ v1 v2 v3 v4 n1 c1 n2 c2 n3 c3 n4 c4
          have HFL : Hid (FlowFree f.code) := ⟨r, hfl, hc0⟩
          clear hfl
          have hc0' : (r.code != 0) = false := by simpa using hc0
          by_cases hlen : shs.length = f.code.length
          · have hpos : 0 < shs.length := by have := HF.out.2.2.1.code0; omega
            obtain ⟨sh0, hsh0⟩ : ∃ s, shs[0]? = some s := ⟨_, List.getElem?_eq_getElem hpos⟩
            obtain ⟨gg, oo, sa, sc, eha, j0, hr0, _⟩ := shape_row E5.out.rs rfl hsh0
            subst eha
            rw [Nat.add_zero] at j0
            have HS0 : Hid (shs[0]? = some sh0) := hsh0
            have hposI : (0 : Int) < (shs.length : Int) := by omega
            have hlen' : ((shs.length : Int) != (f.code.length : Int)) = false := by simp; omega
            have HLN : Hid (shs.length = f.code.length ∧ 0 < shs.length) := ⟨hlen, hpos⟩
            clear hsh0 hr0 hlen
            by_cases hz : sh0.length = 0
            · have hz' : ((sh0.length : Int) != 0) = false := by simp; exact List.eq_nil_of_length_eq_zero hz
              have HZ : Hid (shs[0]? = some []) := by have := HS0.out; rw [List.eq_nil_of_length_eq_zero hz] at this; exact this
              go_wp2_with fail
              clear j0 hz hz' hff hff0 hlen' hposI
              go_loopw [9, 10, 11, 12] (fun i _ _ _ wr => ∃ k : Nat, k ≤ f.code.length ∧ i = .int .i64 (k : Int) ∧ Hid ((∀ (i : Nat) x sh, i < k → f.code[i]? = some x → shs[i]? = some sh → HoldsT p f shs i x sh) ∧ SpH w wr ⟨.slice r1 p.regions.length r3, .slice k1 p.consts.length k3, .slice (some ⟨gk, ok, none⟩) p.funcs.length f3, .slice t1 p.certs.length t3⟩ ⟨.slice g1 f.params.length g3, .slice g4 f.locals.length g6, .slice g7 f.code.length g9⟩ f Y (.slice (some ⟨gg, oo, none⟩) shs.length hc) shs)) (fun i _ _ _ _ => f.code.length - (intOf i).toNat)
              case atStart => exact ⟨0, by omega, rfl, fun i x sh hi => absurd hi (by omega), E5.out⟩
              case round =>
                clear E5
                obtain ⟨k, hk, rfl, HI⟩ := hrel
                by_cases hlt : k < f.code.length
                · obtain ⟨x, hx⟩ : ∃ x, f.code[k]? = some x := ⟨_, List.getElem?_eq_getElem hlt⟩
                  obtain ⟨sh, hsh⟩ : ∃ s, shs[k]? = some s := ⟨_, List.getElem?_eq_getElem (by have := HLN.out.1; omega)⟩
                  obtain ⟨gg', oo', sa', sc', e', j0, hr0, hcp⟩ := shape_row HI.out.2.rs rfl hsh
                  simp only [Option.some.injEq, Addr.mk.injEq, and_true] at e'
                  obtain ⟨rfl, rfl⟩ := e'
                  obtain ⟨gi, oi, ci, ei, i0, i1, i2, i3⟩ := in_at HI.out.2.rf.2.2 hx
                  simp only [Value.slice.injEq, true_and] at ei
                  obtain ⟨rfl, rfl⟩ := ei
                  have HX : Hid (f.code[k]? = some x ∧ shs[k]? = some sh) := ⟨hx, hsh⟩
                  have HR : Hid (Rd wr 1 (.slice sa' sh.length sc') sh.length (sh.flatMap intCell) ∧ sh.length ≤ sc' ∧ sh.length ≤ 1048576) := ⟨hr0, hcp, H.out.2.2.2.2.2.2 sh (List.mem_of_getElem? hsh)⟩
                  have hkI : (k : Int) < (f.code.length : Int) := by omega
                  have hcl : f.code.length ≤ 1024 := HF.out.2.2.1.code1
                  have hkS : (k : Int) < (shs.length : Int) := by have := HLN.out.1; omega
                  clear hx hsh hr0 hcp
                  have y3 := HI.out.2.fb.cell 3
                  simp only [List.getElem?_toArray, List.getElem?_cons_zero, List.getElem?_cons_succ] at y3
                  go_wp2_with fail
                  refine (l3Types_any (.slice sa' sh.length sc') sh wr HR.out.2.2 HR.out.1).mono ?_
                  rintro e u9 ⟨rfl, rfl⟩
                  cases hty : sh.all isT with
                  | false =>
                    have HN : Hid (¬ ShapesP p q shs) := fun e => by
                      obtain ⟨f', hf', _, h5⟩ := e.2.2
                      rw [Int.toNat_natCast, HF.out.1] at hf'
                      obtain rfl := Option.some.inj hf'
                      have h6 := h5.all k x sh HX.out.1 HX.out.2
                      exact absurd (hty.symm.trans h6.types) (by decide)
                    go_wp2_with fail
                    go_ret
                    exact ⟨⟨false, rfl, fun e => (by cases e), fun e => absurd e HN.out⟩, HI.out.2.bel⟩
                  | true =>
                    have HTY : Hid (sh.all isT = true) := hty
                    by_cases h64 : 64 < sh.length
                    · have h64' : (64 : Int) < (sh.length : Int) := by omega
                      have HN : Hid (¬ ShapesP p q shs) := fun e => by
                        obtain ⟨f', hf', _, h5⟩ := e.2.2
                        rw [Int.toNat_natCast, HF.out.1] at hf'
                        obtain rfl := Option.some.inj hf'
                        have h6 := h5.all k x sh HX.out.1 HX.out.2
                        have := h6.high; omega
                      go_wp2_with fail
                      go_ret
                      exact ⟨⟨false, rfl, fun e => (by cases e), fun e => absurd e HN.out⟩, HI.out.2.bel⟩
                    · have h64' : ¬ (64 : Int) < (sh.length : Int) := by omega
                      have H64 : Hid (sh.length ≤ 64) := by show sh.length ≤ 64; omega
                      clear h64 hty
                      go_upto_region 13 with fail
                      have E6 : Hid (SpI w (u9.alloc (.cells #[.int .i64 x.op, .int .i64 x.a, .int .i64 x.b, .int .i64 x.c] 73)) ⟨.slice r1 p.regions.length r3, .slice k1 p.consts.length k3, .slice (some ⟨gk, ok, none⟩) p.funcs.length f3, .slice t1 p.certs.length t3⟩ ⟨.slice g1 f.params.length g3, .slice g4 f.locals.length g6, .slice (some ⟨gi, oi, none⟩) f.code.length g9⟩ f Y (.slice (some ⟨gg, oo, none⟩) shs.length hc) shs u9.heap.size x ⟨gg, oo + k, none⟩ (.slice sa' sh.length sc') sh) := by
                        have b3 := below_alloc u9 (.cells #[.int .i64 x.op, .int .i64 x.a, .int .i64 x.b, .int .i64 x.c] 73)
                        exact ⟨HI.out.2.keep b3, Blk.new _ _ _, bcell_lt b3 j0, HR.out.1.keep b3 (Nat.le_refl _)⟩
                      have HI1 : Hid (∀ (i : Nat) x sh, i < k → f.code[i]? = some x → shs[i]? = some sh → HoldsT p f shs i x sh) := HI.out.1
                      have HRC : Hid (sh.length ≤ sc' ∧ sh.length ≤ 1048576) := HR.out.2
                      clear HI HR j0 i0 i1 i2 i3 y3
                      generalize u9.heap.size = X at E6 ⊢
                      refine wp_world (fun u => Hid (SpI w u ⟨.slice r1 p.regions.length r3, .slice k1 p.consts.length k3, .slice (some ⟨gk, ok, none⟩) p.funcs.length f3, .slice t1 p.certs.length t3⟩ ⟨.slice g1 f.params.length g3, .slice g4 f.locals.length g6, .slice (some ⟨gi, oi, none⟩) f.code.length g9⟩ f Y (.slice (some ⟨gg, oo, none⟩) shs.length hc) shs X x ⟨gg, oo + k, none⟩ (.slice sa' sh.length sc') sh)) E6 ?_
                      rintro U E7
                      clear E6
                      have x0 := E7.out.xb.cell 0
                      simp only [List.getElem?_toArray, List.getElem?_cons_zero] at x0
                      by_cases h29 : x.op = 29
                      · have h29' : (x.op == 29) = true := by simpa using h29
                        have H29 : Hid (x.op = 29) := h29
                        clear h29
                        go_upto_region 14 with fail
                        have D1 : Hid (Below U.heap.size U U) := Below.refl _ _
                        have D0 : Hid (Below U.heap.size U U.drew) := below_drew1 _
                        have KS := (E7.out.keep (below_drew1 _)).rets
                        go_region_held3 (fun w' => w'.cell? ⟨gg, oo + k, none⟩ = some (.slice sa' sh.length sc') ∧ w'.cell? ⟨Y, 0, none⟩ = some (.slice g1 f.params.length g3) ∧ w'.cell? ⟨Y, 1, none⟩ = some (.int .i64 f.result) ∧ w'.cell? ⟨Y, 2, none⟩ = some (.slice g4 f.locals.length g6) ∧ w'.cell? ⟨Y, 3, none⟩ = some (.slice (some ⟨gi, oi, none⟩) f.code.length g9)) (first | with_reducible exact KS | exact (E7.out.keep (by (repeat' (first | with_reducible exact Hid.out (by assumption) | (with_reducible refine below_on ?_ (Nat.le_refl _) (below_alloc _ _)) | (with_reducible refine below_on ?_ (Nat.le_refl _) (below_drew1 _)))))).rets) (first
                          | (go_at_call 31; refine (l6Result_any ⟨.slice g1 f.params.length g3, .slice g4 f.locals.length g6, .slice (some ⟨gi, oi, none⟩) f.code.length g9⟩ f _ ?_).mono ?_; exact E7.out.sp.rf.keep (B := U.heap.size) (by (repeat' (first | with_reducible exact Hid.out (by assumption) | (with_reducible refine below_on ?_ (Nat.le_refl _) (below_alloc _ _)) | (with_reducible refine below_on ?_ (Nat.le_refl _) (below_drew1 _))))) (Nat.le_refl _); rintro e k3 ⟨s5, rfl, hr5, bb1⟩; obtain ⟨a5, c5, rfl⟩ := hr5.is_slice; have B3 : Hid (Below U.heap.size U k3) := below_on (by (repeat' (first | with_reducible exact Hid.out (by assumption) | (with_reducible refine below_on ?_ (Nat.le_refl _) (below_alloc _ _)) | (with_reducible refine below_on ?_ (Nat.le_refl _) (below_drew1 _))))) (Nat.le_refl _) bb1; have O3 : Hid (Rd k3 1 (.slice a5 (resultL f).length c5) (resultL f).length ((resultL f).flatMap intCell)) := hr5; have KS := (E7.out.keep B3.out).rets; clear hr5 bb1)
                          | (go_at_call 30; have hh := B3; clear hh; refine (l3Same_any (.slice sa' sh.length sc') (.slice a5 (resultL f).length c5) sh (resultL f) _ HRC.out.2 (resultL_small f) ?_ ?_).mono ?_; exact E7.out.rd.keep (B := U.heap.size) (by (repeat' (first | with_reducible exact Hid.out (by assumption) | (with_reducible refine below_on ?_ (Nat.le_refl _) (below_alloc _ _)) | (with_reducible refine below_on ?_ (Nat.le_refl _) (below_drew1 _))))) (Nat.le_refl _); exact O3.out; rintro e k4 ⟨⟨bb, rfl, hbb⟩, hw4⟩; have HBB : Hid (bb = true ↔ sh = resultL f) := hbb; obtain ⟨m4, rfl⟩ := hw4; have B4 : Hid (Below U.heap.size U (k3.drewN m4)) := B3.out.trans (below_drewN _ _ _); clear hbb))
                        all_goals
                          clear KS D0 D1
                          cases bb
                          · have HN : Hid (¬ ShapesP p q shs) := fun e => by
                              obtain ⟨f', hf', _, h5⟩ := e.2.2
                              rw [Int.toNat_natCast, HF.out.1] at hf'
                              obtain rfl := Option.some.inj hf'
                              have h6 := h5.all k x sh HX.out.1 HX.out.2
                              have := HBB.out.2 (h6.ret H29.out)
                              cases this
                            go_wp2_with fail
                            go_ret
                            exact ⟨⟨false, rfl, fun e => (by cases e), fun e => absurd e HN.out⟩, (E7.out.keep B4.out).sp.bel⟩
                          · have HK : Hid (∀ (i : Nat) x sh, i < k + 1 → f.code[i]? = some x → shs[i]? = some sh → HoldsT p f shs i x sh) := fun i y t hi hy ht => by
                              by_cases e : i = k
                              · subst e
                                rw [HX.out.1] at hy
                                rw [HX.out.2] at ht
                                obtain rfl := Option.some.inj hy
                                obtain rfl := Option.some.inj ht
                                exact ⟨HTY.out, H64.out, fun _ => HBB.out.1 rfl, fun e => absurd H29.out e, fun e => absurd H29.out e, fun e => by have h7 := H29.out; unfold goesT at e; omega⟩
                              · exact HI1.out i y t (by omega) hy ht
                            have E8 : Hid _ := (E7.out.keep B4.out).sp
                            clear E7
                            go_wp2
                            go_roundw
                            case rel => exact ⟨k + 1, by omega, by go_num, HK.out, E8.out⟩
                            case measure => simp [intOf]; omega
                      · have h29' : (x.op == 29) = false := by simpa using h29
                        have H29 : Hid (¬ x.op = 29) := h29
                        clear h29
                        go_upto_region 16 with fail
                        have D1 : Hid (Below U.heap.size U U) := Below.refl _ _
                        have D0 : Hid (Below U.heap.size U U.drew) := below_drew1 _
                        have KS := (E7.out.keep (below_drew1 _)).args
                        have HOK : Hid (InstrOk p f x ∧ x.wf) := ⟨HFA.out.instr HF.out.1 HX.out.1, HF.out.2.2.2.code x (List.mem_of_getElem? HX.out.1)⟩
                        have HGV : Hid ((∀ t ∈ givesL p f x, t = 0 → 0 < (takesL p f x).length) ∧ (givesL p f x).length ≤ 2) := gives_ok HFA.out HOK.out.1
                        go_region_held3 (fun w' => w'.cell? ⟨gg, oo + k, none⟩ = some (.slice sa' sh.length sc') ∧ w'.cell? ⟨Y, 0, none⟩ = some (.slice g1 f.params.length g3) ∧ w'.cell? ⟨Y, 1, none⟩ = some (.int .i64 f.result) ∧ w'.cell? ⟨Y, 2, none⟩ = some (.slice g4 f.locals.length g6) ∧ w'.cell? ⟨Y, 3, none⟩ = some (.slice (some ⟨gi, oi, none⟩) f.code.length g9) ∧ w'.cell? ⟨w.heap.size, 0, none⟩ = some (.slice r1 p.regions.length r3) ∧ w'.cell? ⟨w.heap.size, 1, none⟩ = some (.slice k1 p.consts.length k3) ∧ w'.cell? ⟨w.heap.size, 2, none⟩ = some (.slice (some ⟨gk, ok, none⟩) p.funcs.length f3) ∧ w'.cell? ⟨w.heap.size, 3, none⟩ = some (.slice t1 p.certs.length t3) ∧ w'.cell? ⟨X, 0, none⟩ = some (.int .i64 x.op) ∧ w'.cell? ⟨X, 1, none⟩ = some (.int .i64 x.a) ∧ w'.cell? ⟨X, 2, none⟩ = some (.int .i64 x.b) ∧ w'.cell? ⟨X, 3, none⟩ = some (.int .i64 x.c)) (first | with_reducible exact KS | exact (E7.out.keep (by (repeat' (first | with_reducible exact Hid.out (by assumption) | (with_reducible refine below_on ?_ (Nat.le_refl _) (below_alloc _ _)) | (with_reducible refine below_on ?_ (Nat.le_refl _) (below_drew1 _)))))).args) (first
                          | (go_at_call 32; refine (l6Step_any ⟨.slice r1 p.regions.length r3, .slice k1 p.consts.length k3, .slice (some ⟨gk, ok, none⟩) p.funcs.length f3, .slice t1 p.certs.length t3⟩ p ⟨.slice g1 f.params.length g3, .slice g4 f.locals.length g6, .slice (some ⟨gi, oi, none⟩) f.code.length g9⟩ f x (.slice sa' sh.length sc') sh _ H.out.1 HFA.out.parts.1.1 HF.out.2.1 HOK.out.2 ?_ ?_ HOK.out.1 ?_ HRC.out.2 (fun a c e => (by simp only [Value.slice.injEq, true_and] at e; obtain ⟨_, rfl⟩ := e; exact HRC.out.1)) HGV.out.1 HGV.out.2).mono ?_; exact H.out.2.2.2.1.keep (E7.out.sp.bel.trans ((show Below U.heap.size U _ from (by (repeat' (first | with_reducible exact Hid.out (by assumption) | (with_reducible refine below_on ?_ (Nat.le_refl _) (below_alloc _ _)) | (with_reducible refine below_on ?_ (Nat.le_refl _) (below_drew1 _)))))).mono E7.out.sp.bel.size)) (Nat.le_refl _); exact E7.out.sp.rf.keep (B := U.heap.size) (by (repeat' (first | with_reducible exact Hid.out (by assumption) | (with_reducible refine below_on ?_ (Nat.le_refl _) (below_alloc _ _)) | (with_reducible refine below_on ?_ (Nat.le_refl _) (below_drew1 _))))) (Nat.le_refl _); exact E7.out.rd.keep (B := U.heap.size) (by (repeat' (first | with_reducible exact Hid.out (by assumption) | (with_reducible refine below_on ?_ (Nat.le_refl _) (below_alloc _ _)) | (with_reducible refine below_on ?_ (Nat.le_refl _) (below_drew1 _))))) (Nat.le_refl _); rintro e z3 ⟨V6, rfl, ho6, bb1⟩; have B3 : Hid (Below U.heap.size U z3) := below_on (by (repeat' (first | with_reducible exact Hid.out (by assumption) | (with_reducible refine below_on ?_ (Nat.le_refl _) (below_alloc _ _)) | (with_reducible refine below_on ?_ (Nat.le_refl _) (below_drew1 _))))) (Nat.le_refl _) bb1; have O3 : Hid (codeT p f x sh = 0 → ∃ B, z3.ownsRow B 2 1 V6 (outT p f x sh).length ((outT p f x sh).flatMap intCell)) := (fun e => ⟨_, ho6 e⟩); have KS := (E7.out.keep B3.out).args; clear ho6 bb1))
                        all_goals
                          clear KS D0 D1 x0
                          by_cases hcode : codeT p f x sh = 0
                          · obtain ⟨B6, ho⟩ := O3.out hcode
                            obtain ⟨oa, oc, rfl⟩ := own_slice ho
                            have HCD : Hid (codeT p f x sh = 0) := hcode
                            have E8 : Hid (SpI w z3 ⟨.slice r1 p.regions.length r3, .slice k1 p.consts.length k3, .slice (some ⟨gk, ok, none⟩) p.funcs.length f3, .slice t1 p.certs.length t3⟩ ⟨.slice g1 f.params.length g3, .slice g4 f.locals.length g6, .slice (some ⟨gi, oi, none⟩) f.code.length g9⟩ f Y (.slice (some ⟨gg, oo, none⟩) shs.length hc) shs X x ⟨gg, oo + k, none⟩ (.slice sa' sh.length sc') sh ∧ Rd z3 1 (.slice oa (outT p f x sh).length oc) (outT p f x sh).length ((outT p f x sh).flatMap intCell)) := ⟨E7.out.keep B3.out, Rd.of_own ho⟩
                            have HOL : Hid ((outT p f x sh).length ≤ 1048576) := by
                              have h8 := HCD.out
                              unfold codeT at h8
                              split at h8
                              · cases h8
                              · split at h8
                                · cases h8
                                · split at h8
                                  · cases h8
                                  · show (outT p f x sh).length ≤ 1048576
                                    omega
                            clear ho E7 O3 B3
                            go_upto_region 19 with fail
                            clear hcode
                            have x0 := E8.out.1.xb.cell 0
                            simp only [List.getElem?_toArray, List.getElem?_cons_zero] at x0
                            go_cut [119] (fun s wx => ∃ bb : Bool, s = .bool bb ∧ Hid (bb = true ↔ ¬ (x.op ≠ 25 → shs[k + 1]? = some (outT p f x sh))) ∧ Hid (SpI w wx ⟨.slice r1 p.regions.length r3, .slice k1 p.consts.length k3, .slice (some ⟨gk, ok, none⟩) p.funcs.length f3, .slice t1 p.certs.length t3⟩ ⟨.slice g1 f.params.length g3, .slice g4 f.locals.length g6, .slice (some ⟨gi, oi, none⟩) f.code.length g9⟩ f Y (.slice (some ⟨gg, oo, none⟩) shs.length hc) shs X x ⟨gg, oo + k, none⟩ (.slice sa' sh.length sc') sh ∧ Rd wx 1 (.slice oa (outT p f x sh).length oc) (outT p f x sh).length ((outT p f x sh).flatMap intCell)))
                            case first =>
                              by_cases h25 : x.op = 25
                              · have h25' : (x.op != 25) = false := by simpa using h25
                                have H25 : Hid (x.op = 25) := h25
                                clear h25
                                go_wp2_with fail
                                go_meet
                                exact ⟨false, rfl, ⟨fun e => (by cases e), fun e => absurd (fun e2 => absurd H25.out e2) e⟩, E8⟩
                              · have h25' : (x.op != 25) = true := by simpa using h25
                                have H25 : Hid (¬ x.op = 25) := h25
                                clear h25
                                by_cases hkn : k + 1 = f.code.length
                                · have hkn' : ((k : Int) + 1 == (f.code.length : Int)) = true := by simp; omega
                                  have HKN : Hid (shs[k + 1]? = none) := List.getElem?_eq_none (by have := HLN.out.1; omega)
                                  clear hkn
                                  go_wp2_with fail
                                  go_meet
                                  exact ⟨true, rfl, ⟨fun _ e => (by have h9 := e H25.out; rw [HKN.out] at h9; cases h9), fun _ => rfl⟩, E8⟩
                                · have hkn' : ((k : Int) + 1 == (f.code.length : Int)) = false := by simp; omega
                                  obtain ⟨s1, hs1⟩ : ∃ s, shs[k + 1]? = some s := ⟨_, List.getElem?_eq_getElem (by have := HLN.out.1; omega)⟩
                                  obtain ⟨gg', oo', sb, sd, e', j1, hr1, hcp1⟩ := shape_row E8.out.1.sp.rs rfl hs1
                                  simp only [Option.some.injEq, Addr.mk.injEq, and_true] at e'
                                  obtain ⟨rfl, rfl⟩ := e'
                                  have hk1 : (k : Int) + 1 < (shs.length : Int) := by have := HLN.out.1; omega
                                  have HS1 : Hid (shs[k + 1]? = some s1 ∧ s1.length ≤ 1048576 ∧ Rd z3 1 (.slice sb s1.length sd) s1.length (s1.flatMap intCell)) := ⟨hs1, H.out.2.2.2.2.2.2 s1 (List.mem_of_getElem? hs1), hr1⟩
                                  clear hs1 hr1 hcp1 hkn
                                  go_wp2_with fail
                                  refine (l3Same_any (.slice sb s1.length sd) (.slice oa (outT p f x sh).length oc) s1 (outT p f x sh) z3 HS1.out.2.1 HOL.out HS1.out.2.2 E8.out.2).mono ?_
                                  rintro e z4 ⟨⟨bb, rfl, hbb⟩, m4, rfl⟩
                                  have HB1 : Hid (bb = true ↔ s1 = outT p f x sh) := hbb
                                  have b4 := below_drewN z3.heap.size z3 m4
                                  have E9 : Hid (SpI w (z3.drewN m4) ⟨.slice r1 p.regions.length r3, .slice k1 p.consts.length k3, .slice (some ⟨gk, ok, none⟩) p.funcs.length f3, .slice t1 p.certs.length t3⟩ ⟨.slice g1 f.params.length g3, .slice g4 f.locals.length g6, .slice (some ⟨gi, oi, none⟩) f.code.length g9⟩ f Y (.slice (some ⟨gg, oo, none⟩) shs.length hc) shs X x ⟨gg, oo + k, none⟩ (.slice sa' sh.length sc') sh ∧ Rd (z3.drewN m4) 1 (.slice oa (outT p f x sh).length oc) (outT p f x sh).length ((outT p f x sh).flatMap intCell)) := ⟨E8.out.1.keep b4, E8.out.2.keep b4 (Nat.le_refl _)⟩
                                  clear hbb b4
                                  cases bb
                                  · go_wp2_with fail
                                    go_meet
                                    exact ⟨true, rfl, ⟨fun _ e => (by have h9 := e H25.out; rw [HS1.out.1] at h9; have := HB1.out.2 (Option.some.inj h9); cases this), fun _ => rfl⟩, E9⟩
                                  · go_wp2_with fail
                                    go_meet
                                    exact ⟨false, rfl, ⟨fun e => (by cases e), fun e => absurd (fun _ => by rw [HS1.out.1, HB1.out.1 (by first | rfl | trivial)]) e⟩, E9⟩
                            case rest =>
                              obtain ⟨bb, rfl, HBB, E9⟩ := hcut
                              clear E8 x0
                              cases bb
                              · have HNX : Hid (x.op ≠ 25 → shs[k + 1]? = some (outT p f x sh)) := Classical.byContradiction fun e => by have := HBB.out.2 e; cases this
                                clear HBB
                                obtain ⟨z5, hN⟩ : ∃ W, W = wc := ⟨_, rfl⟩
                                subst hN
                                go_upto_region 21 with fail
                                have x0 := E9.out.1.xb.cell 0
                                have x3 := E9.out.1.xb.cell 3
                                simp only [List.getElem?_toArray, List.getElem?_cons_zero, List.getElem?_cons_succ] at x0 x3
                                go_cut [132] (fun s wx => ∃ bb : Bool, s = .bool bb ∧ Hid (bb = true ↔ ¬ (goesT x.op → shs[x.c.toNat]? = some (outT p f x sh))) ∧ Hid (SpI w wx ⟨.slice r1 p.regions.length r3, .slice k1 p.consts.length k3, .slice (some ⟨gk, ok, none⟩) p.funcs.length f3, .slice t1 p.certs.length t3⟩ ⟨.slice g1 f.params.length g3, .slice g4 f.locals.length g6, .slice (some ⟨gi, oi, none⟩) f.code.length g9⟩ f Y (.slice (some ⟨gg, oo, none⟩) shs.length hc) shs X x ⟨gg, oo + k, none⟩ (.slice sa' sh.length sc') sh ∧ Rd wx 1 (.slice oa (outT p f x sh).length oc) (outT p f x sh).length ((outT p f x sh).flatMap intCell)))
                                case first =>
                                  go_wp2_with fail
                                  refine (l5Goes_any x z5).mono ?_
                                  rintro e z6 ⟨rfl, rfl⟩
                                  cases hgb : goesB x with
                                  | false =>
                                    have HGB : Hid (¬ goesT x.op) := fun e => by have := goesB_iff.2 e; rw [hgb] at this; cases this
                                    go_wp2_with fail
                                    go_meet
                                    exact ⟨false, rfl, ⟨fun e => (by cases e), fun e => absurd (fun e2 => absurd e2 HGB.out) e⟩, E9⟩
                                  | true =>
                                    have HGB : Hid (goesT x.op) := goesB_iff.1 hgb
                                    obtain ⟨hc0, hc1⟩ := HOK.out.1.target HGB.out
                                    obtain ⟨cn, hcn⟩ := Int.eq_ofNat_of_zero_le hc0
                                    obtain ⟨s1, hs1⟩ : ∃ s, shs[cn]? = some s := ⟨_, List.getElem?_eq_getElem (by have := HLN.out.1; omega)⟩
                                    obtain ⟨gg', oo', sb, sd, e', j1, hr1, hcp1⟩ := shape_row E9.out.1.sp.rs rfl hs1
                                    simp only [Option.some.injEq, Addr.mk.injEq, and_true] at e'
                                    obtain ⟨rfl, rfl⟩ := e'
                                    have hk1 : (cn : Int) < (shs.length : Int) := by have := HLN.out.1; omega
                                    have HCN : Hid (x.c = (cn : Int)) := hcn
                                    have HS1 : Hid (shs[cn]? = some s1 ∧ s1.length ≤ 1048576 ∧ Rd z6 1 (.slice sb s1.length sd) s1.length (s1.flatMap intCell)) := ⟨hs1, H.out.2.2.2.2.2.2 s1 (List.mem_of_getElem? hs1), hr1⟩
                                    rw [hcn] at x3
                                    clear hs1 hr1 hcp1 hcn hc0 hc1
                                    go_wp2_with fail
                                    refine (l3Same_any (.slice sb s1.length sd) (.slice oa (outT p f x sh).length oc) s1 (outT p f x sh) z6 HS1.out.2.1 HOL.out HS1.out.2.2 E9.out.2).mono ?_
                                    rintro e z4 ⟨⟨bb, rfl, hbb⟩, m4, rfl⟩
                                    have HB1 : Hid (bb = true ↔ s1 = outT p f x sh) := hbb
                                    have b4 := below_drewN z6.heap.size z6 m4
                                    have E10 : Hid (SpI w (z6.drewN m4) ⟨.slice r1 p.regions.length r3, .slice k1 p.consts.length k3, .slice (some ⟨gk, ok, none⟩) p.funcs.length f3, .slice t1 p.certs.length t3⟩ ⟨.slice g1 f.params.length g3, .slice g4 f.locals.length g6, .slice (some ⟨gi, oi, none⟩) f.code.length g9⟩ f Y (.slice (some ⟨gg, oo, none⟩) shs.length hc) shs X x ⟨gg, oo + k, none⟩ (.slice sa' sh.length sc') sh ∧ Rd (z6.drewN m4) 1 (.slice oa (outT p f x sh).length oc) (outT p f x sh).length ((outT p f x sh).flatMap intCell)) := ⟨E9.out.1.keep b4, E9.out.2.keep b4 (Nat.le_refl _)⟩
                                    clear hbb b4
                                    cases bb
                                    · go_wp2_with fail
                                      go_meet
                                      exact ⟨true, rfl, ⟨fun _ e => (by have h9 := e HGB.out; rw [HCN.out, Int.toNat_natCast, HS1.out.1] at h9; have := HB1.out.2 (Option.some.inj h9); cases this), fun _ => rfl⟩, E10⟩
                                    · go_wp2_with fail
                                      go_meet
                                      exact ⟨false, rfl, ⟨fun e => (by cases e), fun e => absurd (fun _ => by rw [HCN.out, Int.toNat_natCast, HS1.out.1, HB1.out.1 (by first | rfl | trivial)]) e⟩, E10⟩
                                case rest =>
                                  obtain ⟨bb, rfl, HBB, E10⟩ := hcut
                                  clear E9 x0 x3
                                  cases bb
                                  · have HNM : Hid (goesT x.op → shs[x.c.toNat]? = some (outT p f x sh)) := Classical.byContradiction fun e => by have := HBB.out.2 e; cases this
                                    have HK : Hid (∀ (i : Nat) x sh, i < k + 1 → f.code[i]? = some x → shs[i]? = some sh → HoldsT p f shs i x sh) := fun i y t hi hy ht => by
                                      by_cases e : i = k
                                      · subst e
                                        rw [HX.out.1] at hy
                                        rw [HX.out.2] at ht
                                        obtain rfl := Option.some.inj hy
                                        obtain rfl := Option.some.inj ht
                                        exact ⟨HTY.out, H64.out, fun e => absurd e H29.out, fun _ => HCD.out, fun _ e => HNX.out e, HNM.out⟩
                                      · exact HI1.out i y t (by omega) hy ht
                                    have E11 : Hid _ := E10.out.1.sp
                                    clear E10 HBB
                                    go_wp2
                                    go_roundw
                                    case rel => exact ⟨k + 1, by omega, by go_num, HK.out, E11.out⟩
                                    case measure => simp [intOf]; omega
                                  · have HN : Hid (¬ ShapesP p q shs) := fun e => by
                                      obtain ⟨f', hf', _, h5⟩ := e.2.2
                                      rw [Int.toNat_natCast, HF.out.1] at hf'
                                      obtain rfl := Option.some.inj hf'
                                      have h6 := h5.all k x sh HX.out.1 HX.out.2
                                      exact HBB.out.1 rfl h6.named
                                    go_wp2_with fail
                                    go_ret
                                    exact ⟨⟨false, rfl, fun e => (by cases e), fun e => absurd e HN.out⟩, E10.out.1.sp.bel⟩
                              · have HN : Hid (¬ ShapesP p q shs) := fun e => by
                                  obtain ⟨f', hf', _, h5⟩ := e.2.2
                                  rw [Int.toNat_natCast, HF.out.1] at hf'
                                  obtain rfl := Option.some.inj hf'
                                  have h6 := h5.all k x sh HX.out.1 HX.out.2
                                  exact HBB.out.1 rfl (fun e => h6.next H29.out e)
                                go_wp2_with fail
                                go_ret
                                exact ⟨⟨false, rfl, fun e => (by cases e), fun e => absurd e HN.out⟩, E9.out.1.sp.bel⟩
                          · have HN : Hid (¬ ShapesP p q shs) := fun e => by
                              obtain ⟨f', hf', _, h5⟩ := e.2.2
                              rw [Int.toNat_natCast, HF.out.1] at hf'
                              obtain rfl := Option.some.inj hf'
                              have h6 := h5.all k x sh HX.out.1 HX.out.2
                              exact hcode (h6.code H29.out)
                            go_wp2_with fail
                            go_ret
                            exact ⟨⟨false, rfl, fun e => (by cases e), fun e => absurd e HN.out⟩, (E7.out.keep B3.out).sp.bel⟩
                · obtain rfl : k = f.code.length := by omega
                  have HY : Hid (ShapesP p q shs) := ⟨HFA.out, by omega, f, by rw [Int.toNat_natCast]; exact HF.out.1, HFL.out, ⟨HLN.out.1, HZ.out, fun i x sh hx hs => HI.out.1 i x sh (List.getElem?_eq_some_iff.1 hx).1 hx hs⟩⟩
                  go_wp2_with fail
                  go_ret
                  exact ⟨⟨true, rfl, fun _ => HY.out, fun _ => rfl⟩, HI.out.2.bel⟩
            · have HN : Hid (¬ ShapesP p q shs) := fun e => by
                obtain ⟨f', hf', _, h5⟩ := e.2.2
                have h6 := h5.first
                rw [HS0.out] at h6
                exact hz (by rw [Option.some.inj h6]; rfl)
              have hz' : ((sh0.length : Int) != 0) = true := by simp; exact fun e => hz (by rw [e]; rfl)
              go_wp2_with fail
              go_ret
              exact ⟨⟨false, rfl, fun e => (by cases e), fun e => absurd e HN.out⟩, E5.out.bel⟩
          · have HN : Hid (¬ ShapesP p q shs) := fun e => by
              obtain ⟨f', hf', _, h5⟩ := e.2.2
              rw [Int.toNat_natCast, HF.out.1] at hf'
              obtain rfl := Option.some.inj hf'
              exact hlen h5.len
            have hlen' : ((shs.length : Int) != (f.code.length : Int)) = true := by simp; omega
            go_wp2_with fail
            go_ret
            exact ⟨⟨false, rfl, fun e => (by cases e), fun e => absurd e HN.out⟩, E5.out.bel⟩
        · have HN : Hid (¬ ShapesP p q shs) := fun e => by
            obtain ⟨f', hf', ⟨r', h6, h7⟩, _⟩ := e.2.2
            rw [Int.toNat_natCast, HF.out.1] at hf'
            obtain rfl := Option.some.inj hf'
            exact hc0 (by rw [hfl.one h6]; exact h7)
          have hc0' : (r.code != 0) = true := by simpa using hc0
          go_wp2_with fail
          go_ret
          exact ⟨⟨false, rfl, fun e => (by cases e), fun e => absurd e HN.out⟩, E5.out.bel⟩
  · have HN : Hid (¬ ShapesP p fi shs) := fun e => hn0 (hn.one e.1)
    have hn0' : (n != 0) = true := by simpa using hn0
    clear hn
    go_wp2_with fail
    go_ret
    exact ⟨⟨false, rfl, fun e => (by cases e), fun e => absurd e HN.out⟩, E2.out.2⟩
end Go.Proofs.YtifpjgdnikkekaaGreat
