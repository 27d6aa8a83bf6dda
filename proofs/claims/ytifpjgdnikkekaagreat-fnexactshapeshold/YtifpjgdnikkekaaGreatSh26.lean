import Derived.Test.YtifpjgdnikkekaaGreatSh20
import Derived.Test.YtifpjgdnikkekaaGreatSh17
import Derived.Test.YtifpjgdnikkekaaGreatSh19
import Derived.Test.YtifpjgdnikkekaaGreatSh21
namespace Go.Proofs.YtifpjgdnikkekaaGreat
open Go.ChangeShapes Go.WideShapes Go.ChangeAt Go.RowKit
set_option linter.unusedVariables false
set_option maxHeartbeats 4000000 in
set_option maxRecDepth 100000 in
theorem l4Of_6 (vk vf vt gp gl gc : Value) (f : MF) (rs : List (List Int)) (ar : Option Addr) (cr q z : Nat) (r : List Int) (t : Int) (c : Int) (w : World) (hn : rs.length ≤ 1048576) (hm : r.length ≤ 1048576) (hr : RdR w (.slice ar rs.length cr) rs) (hq : rs[q]? = some r) (hz : r[z]? = some t) :
    Calls Tryz.prog 71 #[.agg #[.slice ar rs.length cr, vk, vf, vt], .agg #[gp, .int .i64 f.result, gl, gc], .agg #[.int .i64 6, .int .i64 q, .int .i64 z, .int .i64 c]] w (EffIs w [3] [t]) := by
  obtain ⟨xs, h1, h2, h3⟩ := hr
  have hlt := (List.getElem?_eq_some_iff.1 hq).1
  have hlz := (List.getElem?_eq_some_iff.1 hz).1
  obtain ⟨⟨r', y⟩, hx⟩ : ∃ x, xs[q]? = some x := ⟨_, List.getElem?_eq_getElem (by rw [← List.length_map (f := Prod.fst), h1]; exact hlt)⟩
  have e2 := fst_at h1 hx
  rw [hq] at e2
  obtain rfl : r = r' := Option.some.inj e2
  have hy := h3 _ (List.mem_of_getElem? hx)
  simp only [] at hy
  rcases h2.2 with ⟨e0, _⟩ | ⟨g, o, c', e1, hc⟩
  · omega
  simp only [Value.slice.injEq, true_and] at e1
  obtain ⟨rfl, rfl⟩ := e1
  have k1 := Rd.elem rCells_length hc q _ hx 0 _ rfl
  rw [Nat.mul_one, Nat.add_zero] at k1
  simp only [] at k1
  rcases hy.2 with ⟨e0, _⟩ | ⟨g', o', c'', rfl, hc'⟩
  · omega
  have k2 := Rd.elem intCell_length hc' z _ hz 0 _ rfl
  rw [Nat.mul_one, Nat.add_zero] at k2
  have HK : Hid (w.cell? ⟨g, o + q, none⟩ = some (.slice (some ⟨g', o', none⟩) r.length c'') ∧ w.cell? ⟨g', o' + z, none⟩ = some (.int .i64 t)) := ⟨k1, k2⟩
  clear hc hc' k1 k2 hq hz h2 h3 hy hx e2 h1
  generalize rs.length = n at hlt hn ⊢
  generalize r.length = m at hlz hm HK
  have hltI : (q : Int) < (n : Int) := by omega
  have hlzI : (z : Int) < (m : Int) := by omega
  have E0 : Hid _ := In4.of w ⟨.slice (some ⟨g, o, none⟩) n cr, vk, vf, vt⟩ ⟨gp, gl, gc⟩ f 6 q z c
  have hS : Hid (∀ w, Calls Tryz.prog 98 #[.int .i64 6] w fun e w' => e = .returned (.agg #[.string ⟨#[108, 111, 97, 100, 97, 116]⟩, .int .i64 3, .int .i64 4]) ∧ Below w.heap.size w w') := fun w => SInfo_any 6 w
  have hfl := field_form
  go_enter Tryz.func71, Tryz.ntmps71
  go_wp2_with fail
  refine (hS.out _).mono ?_
  rintro e u1 ⟨rfl, b1⟩
  have E1 : Hid _ := E0.out.keep b1
  clear E0 b1 hS
  have x0 := E1.out.in3.ins.c0
  have x1 := E1.out.in3.ins.c1
  have x2 := E1.out.in3.ins.c2
  have p0 := E1.out.in3.prog.c0
  have k1 : u1.cell? ⟨g, o + q, none⟩ = some (.slice (some ⟨g', o', none⟩) m c'') := by rw [E1.out.in3.bel.cell (block_lt_of_cell HK.out.1)]; exact HK.out.1
  have k2 : u1.cell? ⟨g', o' + z, none⟩ = some (.int .i64 t) := by rw [E1.out.in3.bel.cell (block_lt_of_cell HK.out.2)]; exact HK.out.2
  have r0 := E1.out.rb.cell 0
  have r1 := E1.out.rb.cell 1
  have z0 := E1.out.rb.frozen 0
  have z1 := E1.out.rb.frozen 1
  have lt2 : w.heap.size + 1 + 1 < u1.heap.size := by have := E1.out.rb.lt; omega
  have ne2 : ¬ w.heap.size + 1 + 1 = u1.heap.size := by have := E1.out.rb.lt; omega
  have lt3 : w.heap.size + 1 + 1 + 1 < u1.heap.size := E1.out.rb.lt
  have ne3 : ¬ w.heap.size + 1 + 1 + 1 = u1.heap.size := by have := E1.out.rb.lt; omega
  have ne4 : ¬ w.heap.size + 1 + 1 + 1 = u1.heap.size + 1 := by have := E1.out.rb.lt; omega
  have ne5 : ¬ w.heap.size + 1 + 1 = u1.heap.size + 1 := by have := E1.out.rb.lt; omega
  simp only [List.getElem?_toArray, List.getElem?_cons_zero, List.getElem?_cons_succ] at r0 r1
  go_wp2_with fail
  have B6 : Below u1.heap.size u1 u1.drew := below_drew1 u1
  have x1w6 := bcell' B6 x1
  have x2w6 := bcell' B6 x2
  have p0w6 := bcell' B6 p0
  have k1w6 := bcell' B6 k1
  have k2w6 := bcell' B6 k2
  have r0w6 := bcell' B6 r0
  have r1w6 := bcell' B6 r1
  have z0w6 := (E1.out.keep B6).rb.frozen 0
  have z1w6 := (E1.out.keep B6).rb.frozen 1
  have B7 : Below u1.heap.size u1 (u1.alloc (.cells #[.int .i64 3] 2)).drew := below_on (below_alloc _ _) (Nat.le_refl _) (below_drew1 _)
  have x1w7 := bcell' B7 x1
  have x2w7 := bcell' B7 x2
  have p0w7 := bcell' B7 p0
  have k1w7 := bcell' B7 k1
  have k2w7 := bcell' B7 k2
  have r0w7 := bcell' B7 r0
  have r1w7 := bcell' B7 r1
  have z0w7 := (E1.out.keep B7).rb.frozen 0
  have z1w7 := (E1.out.keep B7).rb.frozen 1
  have B8 : Below u1.heap.size u1 (u1.alloc (.cells #[.int .i64 t] 2)).drew := below_on (below_alloc _ _) (Nat.le_refl _) (below_drew1 _)
  have x1w8 := bcell' B8 x1
  have x2w8 := bcell' B8 x2
  have p0w8 := bcell' B8 p0
  have k1w8 := bcell' B8 k1
  have k2w8 := bcell' B8 k2
  have r0w8 := bcell' B8 r0
  have r1w8 := bcell' B8 r1
  have z0w8 := (E1.out.keep B8).rb.frozen 0
  have z1w8 := (E1.out.keep B8).rb.frozen 1
  have B9 : Below u1.heap.size u1 ((u1.alloc (.cells #[.int .i64 3] 2)).alloc (.cells #[.int .i64 t] 2)).drew := below_on (below_on (below_alloc _ _) (Nat.le_refl _) (below_alloc _ _)) (Nat.le_refl _) (below_drew1 _)
  have r0w9 := bcell' B9 r0
  have r1w9 := bcell' B9 r1
  have z0w9 := (E1.out.keep B9).rb.frozen 0
  have z1w9 := (E1.out.keep B9).rb.frozen 1
  have B10 : Below u1.heap.size u1 ((u1.alloc (.cells #[.int .i64 t] 2)).alloc (.cells #[.int .i64 3] 2)).drew := below_on (below_on (below_alloc _ _) (Nat.le_refl _) (below_alloc _ _)) (Nat.le_refl _) (below_drew1 _)
  have r0w10 := bcell' B10 r0
  have r1w10 := bcell' B10 r1
  have z0w10 := (E1.out.keep B10).rb.frozen 0
  have z1w10 := (E1.out.keep B10).rb.frozen 1
  have S11 : Blk (((u1.setCell ⟨w.heap.size + 1 + 1 + 1, 0, none⟩ (.slice (some ⟨u1.heap.size, 0, none⟩) 1 1)).alloc (.cells #[.int .i64 3] 2)).alloc (.cells #[.int .i64 t] 2)).drew (w.heap.size + 1 + 1 + 1) _ _ := (E1.out.rb.set 0 (.slice (some ⟨u1.heap.size, 0, none⟩) 1 1)).keep (below_on (below_on (below_alloc _ _) (Nat.le_refl _) (below_alloc _ _)) (Nat.le_refl _) (below_drew1 _))
  have r1w11 := S11.cell 1
  have z1w11 := S11.frozen 1
  simp only [List.setIfInBounds_toArray, List.set_cons_zero, List.getElem?_toArray, List.getElem?_cons_zero, List.getElem?_cons_succ] at r1w11
  clear S11
  have S12 : Blk (((u1.setCell ⟨w.heap.size + 1 + 1 + 1, 0, none⟩ (.slice (some ⟨u1.heap.size + 1, 0, none⟩) 1 1)).alloc (.cells #[.int .i64 t] 2)).alloc (.cells #[.int .i64 3] 2)).drew (w.heap.size + 1 + 1 + 1) _ _ := (E1.out.rb.set 0 (.slice (some ⟨u1.heap.size + 1, 0, none⟩) 1 1)).keep (below_on (below_on (below_alloc _ _) (Nat.le_refl _) (below_alloc _ _)) (Nat.le_refl _) (below_drew1 _))
  have r1w12 := S12.cell 1
  have z1w12 := S12.frozen 1
  simp only [List.setIfInBounds_toArray, List.set_cons_zero, List.getElem?_toArray, List.getElem?_cons_zero, List.getElem?_cons_succ] at r1w12
  clear S12
  clear B6 B7 B8 B9 B10
  clear x0 x1 x2 p0 k1 k2 r0 r1 z0 z1
  go_region_law (fail)
  all_goals
    go_wp2_with fail
    first
    | (obtain ⟨he, q0, q1⟩ := eff_tg E1.out [3] [t] _ rfl
       simp only [intCell, List.flatMap_cons, List.flatMap_nil, List.cons_append, List.nil_append, List.length_cons, List.length_nil, Nat.zero_add] at q0 q1
       exact bodyPost_ret (v := .agg #[.slice (some ⟨u1.heap.size, 0, none⟩) 1 1, .slice (some ⟨u1.heap.size + 1, 0, none⟩) 1 1]) (by simp [results, Tryz.results71, go_sem, q0, q1]) rfl he.drew)
    | (obtain ⟨he, q0, q1⟩ := eff_gt E1.out [3] [t] _ rfl
       simp only [intCell, List.flatMap_cons, List.flatMap_nil, List.cons_append, List.nil_append, List.length_cons, List.length_nil, Nat.zero_add] at q0 q1
       exact bodyPost_ret (v := .agg #[.slice (some ⟨u1.heap.size + 1, 0, none⟩) 1 1, .slice (some ⟨u1.heap.size, 0, none⟩) 1 1]) (by simp [results, Tryz.results71, go_sem, q0, q1]) rfl he.drew)
end Go.Proofs.YtifpjgdnikkekaaGreat
namespace Go.Proofs.YtifpjgdnikkekaaGreat
open Go.ChangeShapes Go.WideShapes Go.ChangeAt Go.RowKit
set_option linter.unusedVariables false
set_option maxHeartbeats 4000000 in
theorem l4Of_any (v : VP) (p : MP) (g : VF) (f : MF) (x : MI) (w : World) (hs : p.small) (h3 : p.regions.length = 3) (hfs : f.small) (hxw : x.wf) (h : RdP w v p) (hf : RdF w g f) (hx : InstrOk p f x) :
    Calls Tryz.prog 71 #[.agg #[v.r, v.k, v.f, v.t], .agg #[g.p, .int .i64 f.result, g.l, g.c], .agg #[.int .i64 x.op, .int .i64 x.a, .int .i64 x.b, .int .i64 x.c]] w (EffIs w (takesL p f x) (givesL p f x)) := by
  obtain ⟨op, a, b, c⟩ := x
  have hlo := hx.1
  have hhi := hx.2.1
  simp only [] at hlo hhi
  have HX : Hid (InstrOk p f ⟨op, a, b, c⟩) := hx
  have hW : W64 a := hxw.2.1
  have hcase : op = 0 ∨ op = 1 ∨ op = 2 ∨ op = 3 ∨ op = 4 ∨ op = 5 ∨ op = 6 ∨ op = 7 ∨ op = 8 ∨ op = 9 ∨ op = 10 ∨ op = 11 ∨ op = 12 ∨ op = 13 ∨ op = 14 ∨ op = 15 ∨ op = 16 ∨ op = 17 ∨ op = 18 ∨ op = 19 ∨ op = 20 ∨ op = 21 ∨ op = 22 ∨ op = 23 ∨ op = 24 ∨ op = 25 ∨ op = 26 ∨ op = 27 ∨ op = 28 ∨ op = 29 := by omega
  clear hlo hhi hx hxw
  rcases hcase with rfl | rfl | rfl | rfl | rfl | rfl | rfl | rfl | rfl | rfl | rfl | rfl | rfl | rfl | rfl | rfl | rfl | rfl | rfl | rfl | rfl | rfl | rfl | rfl | rfl | rfl | rfl | rfl | rfl | rfl
  · rw [show takesL p f ⟨0, a, b, c⟩ = [] from by simp [takesL], show givesL p f ⟨0, a, b, c⟩ = [] from by simp [givesL]]
    exact l4Of_C v.r v.k v.f v.t g.p g.l g.c f _ 0 a b c _ _ w (by simp)
  · obtain ⟨q, z, hq, hz⟩ := HX.out.const rfl
    simp only [] at hq
    subst hq
    obtain ⟨ak, ck, ek⟩ := h.consts.is_slice
    rw [show takesL p f ⟨1, q, b, c⟩ = [] from by simp [takesL], show givesL p f ⟨1, q, b, c⟩ = [z.type] from by simp [givesL, vAt, hz], ek]
    exact l4Of_1 v.r v.f v.t g.p g.l g.c f p.consts ak ck q z b c w hs.consts (ek ▸ h.consts) hz
  · rw [show takesL p f ⟨2, a, b, c⟩ = [] from by simp [takesL], show givesL p f ⟨2, a, b, c⟩ = [localOf f a] from by simp [givesL]]
    exact l4Of_2 v.r v.k v.f v.t g f a b c w hfs hW hf
  · rw [show takesL p f ⟨3, a, b, c⟩ = [localOf f a] from by simp [takesL], show givesL p f ⟨3, a, b, c⟩ = [] from by simp [givesL]]
    exact l4Of_3 v.r v.k v.f v.t g f a b c w hfs hW hf
  · obtain ⟨q, z, r, hq, hz, hr, ht⟩ := HX.out.cell h3 (by simp)
    simp only [] at hq hz
    subst hq hz
    obtain ⟨xs, e1, e2, e3⟩ := h.regions
    obtain ⟨ar, cr, er⟩ := e2.is_slice
    rw [show takesL p f ⟨4, q, z, c⟩ = [] from by simp [takesL], show givesL p f ⟨4, q, z, c⟩ = [cellTy p ⟨4, q, z, c⟩] from by simp [givesL], er]
    exact l4Of_4 v.k v.f v.t g.p g.l g.c f p.regions ar cr q z r _ c w hs.regions (hs.region r (List.mem_of_getElem? hr)) (er ▸ h.regions) hr ht
  · obtain ⟨q, z, r, hq, hz, hr, ht⟩ := HX.out.cell h3 (by simp)
    simp only [] at hq hz
    subst hq hz
    obtain ⟨xs, e1, e2, e3⟩ := h.regions
    obtain ⟨ar, cr, er⟩ := e2.is_slice
    rw [show takesL p f ⟨5, q, z, c⟩ = [cellTy p ⟨5, q, z, c⟩] from by simp [takesL], show givesL p f ⟨5, q, z, c⟩ = [] from by simp [givesL], er]
    exact l4Of_5 v.k v.f v.t g.p g.l g.c f p.regions ar cr q z r _ c w hs.regions (hs.region r (List.mem_of_getElem? hr)) (er ▸ h.regions) hr ht
  · obtain ⟨q, z, r, hq, hz, hr, ht⟩ := HX.out.cell h3 (by simp)
    simp only [] at hq hz
    subst hq hz
    obtain ⟨xs, e1, e2, e3⟩ := h.regions
    obtain ⟨ar, cr, er⟩ := e2.is_slice
    rw [show takesL p f ⟨6, q, z, c⟩ = [3] from by simp [takesL], show givesL p f ⟨6, q, z, c⟩ = [cellTy p ⟨6, q, z, c⟩] from by simp [givesL], er]
    exact l4Of_6 v.k v.f v.t g.p g.l g.c f p.regions ar cr q z r _ c w hs.regions (hs.region r (List.mem_of_getElem? hr)) (er ▸ h.regions) hr ht
  · obtain ⟨q, z, r, hq, hz, hr, ht⟩ := HX.out.cell h3 (by simp)
    simp only [] at hq hz
    subst hq hz
    obtain ⟨xs, e1, e2, e3⟩ := h.regions
    obtain ⟨ar, cr, er⟩ := e2.is_slice
    rw [show takesL p f ⟨7, q, z, c⟩ = [3, cellTy p ⟨7, q, z, c⟩] from by simp [takesL], show givesL p f ⟨7, q, z, c⟩ = [] from by simp [givesL], er]
    exact l4Of_7 v.k v.f v.t g.p g.l g.c f p.regions ar cr q z r _ c w hs.regions (hs.region r (List.mem_of_getElem? hr)) (er ▸ h.regions) hr ht
  · rw [show takesL p f ⟨8, a, b, c⟩ = [a, a] from by simp [takesL], show givesL p f ⟨8, a, b, c⟩ = [a] from by simp [givesL]]
    exact l4Of_C v.r v.k v.f v.t g.p g.l g.c f _ 5 a b c _ _ w (by simp)
  · rw [show takesL p f ⟨9, a, b, c⟩ = [a, a] from by simp [takesL], show givesL p f ⟨9, a, b, c⟩ = [a] from by simp [givesL]]
    exact l4Of_C v.r v.k v.f v.t g.p g.l g.c f _ 5 a b c _ _ w (by simp)
  · rw [show takesL p f ⟨10, a, b, c⟩ = [a, a] from by simp [takesL], show givesL p f ⟨10, a, b, c⟩ = [a] from by simp [givesL]]
    exact l4Of_C v.r v.k v.f v.t g.p g.l g.c f _ 5 a b c _ _ w (by simp)
  · rw [show takesL p f ⟨11, a, b, c⟩ = [a, a] from by simp [takesL], show givesL p f ⟨11, a, b, c⟩ = [a] from by simp [givesL]]
    exact l4Of_C v.r v.k v.f v.t g.p g.l g.c f _ 5 a b c _ _ w (by simp)
  · rw [show takesL p f ⟨12, a, b, c⟩ = [a, a] from by simp [takesL], show givesL p f ⟨12, a, b, c⟩ = [a] from by simp [givesL]]
    exact l4Of_C v.r v.k v.f v.t g.p g.l g.c f _ 5 a b c _ _ w (by simp)
  · rw [show takesL p f ⟨13, a, b, c⟩ = [a, a] from by simp [takesL], show givesL p f ⟨13, a, b, c⟩ = [a] from by simp [givesL]]
    exact l4Of_C v.r v.k v.f v.t g.p g.l g.c f _ 6 a b c _ _ w (by simp)
  · rw [show takesL p f ⟨14, a, b, c⟩ = [a, a] from by simp [takesL], show givesL p f ⟨14, a, b, c⟩ = [a] from by simp [givesL]]
    exact l4Of_C v.r v.k v.f v.t g.p g.l g.c f _ 6 a b c _ _ w (by simp)
  · rw [show takesL p f ⟨15, a, b, c⟩ = [a, a] from by simp [takesL], show givesL p f ⟨15, a, b, c⟩ = [a] from by simp [givesL]]
    exact l4Of_C v.r v.k v.f v.t g.p g.l g.c f _ 6 a b c _ _ w (by simp)
  · rw [show takesL p f ⟨16, a, b, c⟩ = [a] from by simp [takesL], show givesL p f ⟨16, a, b, c⟩ = [a] from by simp [givesL]]
    exact l4Of_C v.r v.k v.f v.t g.p g.l g.c f _ 6 a b c _ _ w (by simp)
  · rw [show takesL p f ⟨17, a, b, c⟩ = [3, 3] from by simp [takesL], show givesL p f ⟨17, a, b, c⟩ = [3] from by simp [givesL]]
    exact l4Of_C v.r v.k v.f v.t g.p g.l g.c f _ 0 a b c _ _ w (by simp)
  · rw [show takesL p f ⟨18, a, b, c⟩ = [3, 3] from by simp [takesL], show givesL p f ⟨18, a, b, c⟩ = [3] from by simp [givesL]]
    exact l4Of_C v.r v.k v.f v.t g.p g.l g.c f _ 0 a b c _ _ w (by simp)
  · rw [show takesL p f ⟨19, a, b, c⟩ = [2] from by simp [takesL], show givesL p f ⟨19, a, b, c⟩ = [2] from by simp [givesL]]
    exact l4Of_C v.r v.k v.f v.t g.p g.l g.c f _ 0 a b c _ _ w (by simp)
  · rw [show takesL p f ⟨20, a, b, c⟩ = [a, a] from by simp [takesL], show givesL p f ⟨20, a, b, c⟩ = [1] from by simp [givesL]]
    exact l4Of_C v.r v.k v.f v.t g.p g.l g.c f _ 7 a b c _ _ w (by simp)
  · rw [show takesL p f ⟨21, a, b, c⟩ = [a, a] from by simp [takesL], show givesL p f ⟨21, a, b, c⟩ = [1] from by simp [givesL]]
    exact l4Of_C v.r v.k v.f v.t g.p g.l g.c f _ 5 a b c _ _ w (by simp)
  · rw [show takesL p f ⟨22, a, b, c⟩ = [a] from by simp [takesL], show givesL p f ⟨22, a, b, c⟩ = [b] from by simp [givesL]]
    exact l4Of_C v.r v.k v.f v.t g.p g.l g.c f _ 8 a b c _ _ w (by simp)
  · rw [show takesL p f ⟨23, a, b, c⟩ = [0] from by simp [takesL], show givesL p f ⟨23, a, b, c⟩ = [0, 0] from by simp [givesL]]
    exact l4Of_C v.r v.k v.f v.t g.p g.l g.c f _ 0 a b c _ _ w (by simp)
  · rw [show takesL p f ⟨24, a, b, c⟩ = [0] from by simp [takesL], show givesL p f ⟨24, a, b, c⟩ = [] from by simp [givesL]]
    exact l4Of_C v.r v.k v.f v.t g.p g.l g.c f _ 0 a b c _ _ w (by simp)
  · rw [show takesL p f ⟨25, a, b, c⟩ = [] from by simp [takesL], show givesL p f ⟨25, a, b, c⟩ = [] from by simp [givesL]]
    exact l4Of_C v.r v.k v.f v.t g.p g.l g.c f _ 9 a b c _ _ w (by simp)
  · rw [show takesL p f ⟨26, a, b, c⟩ = [1] from by simp [takesL], show givesL p f ⟨26, a, b, c⟩ = [] from by simp [givesL]]
    exact l4Of_C v.r v.k v.f v.t g.p g.l g.c f _ 9 a b c _ _ w (by simp)
  · rw [show takesL p f ⟨27, a, b, c⟩ = [] from by simp [takesL], show givesL p f ⟨27, a, b, c⟩ = [] from by simp [givesL]]
    exact l4Of_C v.r v.k v.f v.t g.p g.l g.c f _ 10 a b c _ _ w (by simp)
  · obtain ⟨q, fq, hq, hfq⟩ := HX.out.callee rfl
    simp only [] at hq
    subst hq
    obtain ⟨xs, e1, e2, e3⟩ := h.funcs
    obtain ⟨af, cf, ef⟩ := e2.is_slice
    rw [show takesL p f ⟨28, q, b, c⟩ = fq.params from by simp [takesL, hfq], show givesL p f ⟨28, q, b, c⟩ = resultL fq from by simp [givesL, hfq], ef]
    exact l4Of_28 v.r v.k v.t g.p g.l g.c f p.funcs af cf q fq b c w hs.funcs (hs.func fq (List.mem_of_getElem? hfq)) (ef ▸ h.funcs) hfq
  · rw [show takesL p f ⟨29, a, b, c⟩ = [] from by simp [takesL], show givesL p f ⟨29, a, b, c⟩ = [] from by simp [givesL]]
    exact l4Of_C v.r v.k v.f v.t g.p g.l g.c f _ 0 a b c _ _ w (by simp)
end Go.Proofs.YtifpjgdnikkekaaGreat
