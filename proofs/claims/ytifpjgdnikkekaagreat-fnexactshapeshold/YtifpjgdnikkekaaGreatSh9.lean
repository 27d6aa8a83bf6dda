import Derived.Test.YtifpjgdnikkekaaGreatSh8
import Derived.Test.YtifpjgdnikkekaaGreatSh7
import Derived.Deep.Light
namespace Go.Proofs.YtifpjgdnikkekaaGreat
open Go.ChangeShapes Go.WideShapes Go.ChangeAt Go.RowKit
set_option linter.unusedVariables false

/-- What Info answers. -/
def infoOf (op : Int) : Array Value := if 0 ≤ op ∧ op ≤ 29 then (infoRow op.toNat).toArray else #[.string ⟨#[]⟩, .int .i64 0, .int .i64 0]
theorem infoOf_in (k : Nat) (hk : k < 30) : infoOf (k : Int) = (infoRow k).toArray := by
  unfold infoOf
  rw [if_pos (by omega)]
  rfl
theorem infoOf_out {op : Int} (h : op < 0 ∨ 29 < op) : infoOf op = #[.string ⟨#[]⟩, .int .i64 0, .int .i64 0] := by
  unfold infoOf
  rw [if_neg (by omega)]
set_option maxRecDepth 100000 in
theorem infoRow_form (k : Nat) (hk : k < 30) : ∃ (s : ByteArray) (c f : Int), (infoRow k).toArray = #[.string s, .int .i64 c, .int .i64 f] := by
  have h : k = 0 ∨ k = 1 ∨ k = 2 ∨ k = 3 ∨ k = 4 ∨ k = 5 ∨ k = 6 ∨ k = 7 ∨ k = 8 ∨ k = 9 ∨ k = 10 ∨ k = 11 ∨ k = 12 ∨ k = 13 ∨ k = 14 ∨ k = 15 ∨ k = 16 ∨ k = 17 ∨ k = 18 ∨ k = 19 ∨ k = 20 ∨ k = 21 ∨ k = 22 ∨ k = 23 ∨ k = 24 ∨ k = 25 ∨ k = 26 ∨ k = 27 ∨ k = 28 ∨ k = 29 := by omega
  clear hk
  rcases h with rfl | rfl | rfl | rfl | rfl | rfl | rfl | rfl | rfl | rfl | rfl | rfl | rfl | rfl | rfl | rfl | rfl | rfl | rfl | rfl | rfl | rfl | rfl | rfl | rfl | rfl | rfl | rfl | rfl | rfl <;> exact ⟨_, _, _, rfl⟩
theorem infoOf_form (op : Int) : ∃ (s : ByteArray) (c f : Int), infoOf op = #[.string s, .int .i64 c, .int .i64 f] := by
  by_cases h : 0 ≤ op ∧ op ≤ 29
  · unfold infoOf
    rw [if_pos h]
    exact infoRow_form _ (by omega)
  · unfold infoOf
    rw [if_neg h]
    exact ⟨_, _, _, rfl⟩

theorem SInfo_any (op : Int) (w : World) : Calls Tryz.prog 98 #[.int .i64 op] w fun e w' => e = .returned (.agg (infoOf op)) ∧ Below w.heap.size w w' := by
  by_cases h : op < 0 ∨ 29 < op
  · rw [infoOf_out h]
    exact SInfo_out op w h
  · obtain ⟨k, rfl⟩ := Int.eq_ofNat_of_zero_le (show 0 ≤ op by omega)
    rw [infoOf_in k (by omega)]
    exact SInfo_in k (by omega) w

set_option maxRecDepth 100000 in
theorem field_rows (k : Nat) (hk : k < 30) (w : World) : (Instr.field 224 (.agg (rowCells k)) 0).run Tryz.prog w = .ok (.agg (infoRow k).toArray) w := by
  have h : k = 0 ∨ k = 1 ∨ k = 2 ∨ k = 3 ∨ k = 4 ∨ k = 5 ∨ k = 6 ∨ k = 7 ∨ k = 8 ∨ k = 9 ∨ k = 10 ∨ k = 11 ∨ k = 12 ∨ k = 13 ∨ k = 14 ∨ k = 15 ∨ k = 16 ∨ k = 17 ∨ k = 18 ∨ k = 19 ∨ k = 20 ∨ k = 21 ∨ k = 22 ∨ k = 23 ∨ k = 24 ∨ k = 25 ∨ k = 26 ∨ k = 27 ∨ k = 28 ∨ k = 29 := by omega
  clear hk
  rcases h with rfl | rfl | rfl | rfl | rfl | rfl | rfl | rfl | rfl | rfl | rfl | rfl | rfl | rfl | rfl | rfl | rfl | rfl | rfl | rfl | rfl | rfl | rfl | rfl | rfl | rfl | rfl | rfl | rfl | rfl <;> (show Sem.run _ _ _ = Result.ok _ _; kernel_rfl)
theorem field_zero (w : World) : (Instr.field 224 (.agg #[.string ⟨#[]⟩, .int .i64 0, .int .i64 0, .nilFunc]) 0).run Tryz.prog w = .ok (.agg #[.string ⟨#[]⟩, .int .i64 0, .int .i64 0]) w := by kernel_rfl

theorem Info_of (op : Int) (row : Value) (s : ByteArray) (c f : Int) (hi : infoOf op = #[.string s, .int .i64 c, .int .i64 f])
    (hrow : ∀ w, Calls Tryz.prog 174 #[.int .i64 op] w fun e w' => e = .returned row ∧ Below w.heap.size w w')
    (hf : ∀ w, (Instr.field 224 row 0).run Tryz.prog w = .ok (.agg #[.string s, .int .i64 c, .int .i64 f]) w) (w : World) :
    Calls Tryz.prog 156 #[.int .i64 op] w fun e w' => e = .returned (.agg (infoOf op)) ∧ Below w.heap.size w w' := by
  have hz := zero_info
  rw [hi]
  clear hi
  have H : Hid (∀ w, Calls Tryz.prog 174 #[.int .i64 op] w fun e w' => e = .returned row ∧ Below w.heap.size w w') := hrow
  clear hrow
  go_enter Tryz.func156, Tryz.ntmps156
  go_wp2_with (go_at_call 174; refine (H.out _).mono ?_; rintro e w1 ⟨rfl, hb⟩; have hrow : w1.heap[w.heap.size]? = some (.cells #[.string ⟨#[]⟩, .int .i64 0, .int .i64 0] 158) := (hb.block _ (by simp)).trans (heap_alloc_new _ _); have hc0 := cell_of_row w1 _ 0 _ _ _ hrow; have hc1 := cell_of_row w1 _ 1 _ _ _ hrow; have hc2 := cell_of_row w1 _ 2 _ _ _ hrow; have hz0 := frozen_of_row w1 _ 0 _ _ hrow; have hz1 := frozen_of_row w1 _ 1 _ _ hrow; have hz2 := frozen_of_row w1 _ 2 _ _ hrow; simp at hc0 hc1 hc2)
  refine bodyPost_ret (v := .agg #[.string s, .int .i64 c, .int .i64 f]) (by simp [results, Tryz.results156, go_sem, hc0, hc1, hc2]) rfl ⟨rfl, ?_⟩
  exact ((((((Below.refl _ _).alloc (Nat.le_refl _) _).trans (hb.mono (by simp))).setCell (by simp) _).setCell (by simp) _).setCell (by simp) _)
theorem Info_any (op : Int) (w : World) : Calls Tryz.prog 156 #[.int .i64 op] w fun e w' => e = .returned (.agg (infoOf op)) ∧ Below w.heap.size w w' := by
  by_cases h : op < 0 ∨ 29 < op
  · exact Info_of op _ _ _ _ (infoOf_out h) (fun w => rowOf_out op w h) field_zero w
  · obtain ⟨k, rfl⟩ := Int.eq_ofNat_of_zero_le (show 0 ≤ op by omega)
    obtain ⟨s, c, f, hs⟩ := infoRow_form k (by omega)
    exact Info_of _ _ s c f ((infoOf_in k (by omega)).trans hs) (fun w => rowOf_in k (by omega) w) (fun w => by rw [← hs]; exact field_rows k (by omega) w) w

end Go.Proofs.YtifpjgdnikkekaaGreat
namespace Go.Proofs.YtifpjgdnikkekaaGreat
open Go.ChangeShapes Go.WideShapes Go.ChangeAt Go.RowKit
set_option linter.unusedVariables false
def intIn : Option Value → Int
  | some (.int _ z) => z
  | _ => 0
/-- The form of an instruction. -/
def formOf (op : Int) : Int := intIn (infoOf op)[2]?
theorem infoOf_formOf (op : Int) : ∃ (s : ByteArray) (c : Int), infoOf op = #[.string s, .int .i64 c, .int .i64 (formOf op)] := by
  obtain ⟨s, c, f, h⟩ := infoOf_form op
  refine ⟨s, c, ?_⟩
  rw [h]
  have : formOf op = f := by unfold formOf; rw [h]; rfl
  rw [this]
theorem formOf_nat (k : Nat) (hk : k < 30) : (0 ≤ formOf k ∧ formOf k ≤ 11) ∧ (formOf k = 3 → k = 4 ∨ k = 5) ∧ (formOf k = 4 → k = 6 ∨ k = 7) := by
  have h : ∀ k : Fin 30, (0 ≤ formOf (k.val : Int) ∧ formOf (k.val : Int) ≤ 11) ∧ (formOf (k.val : Int) = 3 → k.val = 4 ∨ k.val = 5) ∧ (formOf (k.val : Int) = 4 → k.val = 6 ∨ k.val = 7) := by decide +kernel
  exact h ⟨k, hk⟩
/-- Which types a form of an instruction takes. -/
def takes (F t : Int) : Prop := (F = 5 ∧ (t = 2 ∨ t = 3)) ∨ (F = 6 ∧ (t = 1 ∨ t = 3)) ∨ (F = 7 ∧ isT t = true)
/-- The numbers of an instruction are what its form tells. -/
def FormOk (p : MP) (f : MF) (F op a b c : Int) : Prop :=
  (F = 0 ∧ a = 0 ∧ b = 0 ∧ c = 0) ∨ (F = 1 ∧ 0 ≤ a ∧ a < p.consts.length ∧ b = 0 ∧ c = 0) ∨ (F = 2 ∧ ¬ localOf f a = 0 ∧ b = 0 ∧ c = 0) ∨
  (F = 3 ∧ ¬ cellOf p a b = 0 ∧ c = 0 ∧ (op = 4 ∨ ¬ a = 0)) ∨ (F = 4 ∧ MaskOk p a b c ∧ (op = 6 ∨ ¬ a = 0)) ∨ (takes F a ∧ b = 0 ∧ c = 0) ∨
  (F = 8 ∧ isT a = true ∧ isT b = true ∧ ¬ a = b ∧ c = 0) ∨ (F = 9 ∧ a = 0 ∧ b = 0 ∧ 0 ≤ c ∧ c < f.code.length) ∨
  (F = 10 ∧ ¬ localOf f a = 0 ∧ b = 0 ∧ 0 ≤ c ∧ c < f.code.length) ∨ (F = 11 ∧ 0 ≤ a ∧ a < p.funcs.length ∧ b = 0 ∧ c = 0)
def InstrOk (p : MP) (f : MF) (x : MI) : Prop := 0 ≤ x.op ∧ x.op ≤ 29 ∧ FormOk p f (formOf x.op) x.op x.a x.b x.c
/-- The three blocks of a call of l3Instr. -/
structure In3 (w u : World) (v : VP) (g : VF) (f : MF) (op a b c : Int) : Prop where
  bel : Below w.heap.size w u
  prog : At4 u w.heap.size v.r v.k v.f v.t
  func : At4 u (w.heap.size + 1) g.p (.int .i64 f.result) g.l g.c
  ins : At4 u (w.heap.size + 1 + 1) (.int .i64 op) (.int .i64 a) (.int .i64 b) (.int .i64 c)
theorem In3.keep {w u u' : World} {v : VP} {g : VF} {f : MF} {op a b c : Int} (h : In3 w u v g f op a b c) (hb : Below u.heap.size u u') : In3 w u' v g f op a b c := ⟨below_on h.bel (Nat.le_refl _) hb, h.prog.keep hb, h.func.keep hb, h.ins.keep hb⟩
theorem In3.of (w : World) (v : VP) (g : VF) (f : MF) (op a b c : Int) : In3 w (((w.alloc (.cells #[v.r, v.k, v.f, v.t] 36)).alloc (.cells #[g.p, .int .i64 f.result, g.l, g.c] 63)).alloc (.cells #[.int .i64 op, .int .i64 a, .int .i64 b, .int .i64 c] 73)) v g f op a b c := by
  refine ⟨below_on (below_on (below_alloc _ _) (Nat.le_refl _) (below_alloc _ _)) (Nat.le_refl _) (below_alloc _ _), ((At4.new w _ _ _ _ _).alloc _).alloc _, ?_, ?_⟩
  · have := (At4.new (w.alloc (.cells #[v.r, v.k, v.f, v.t] 36)) g.p (.int .i64 f.result) g.l g.c 63).alloc (.cells #[.int .i64 op, .int .i64 a, .int .i64 b, .int .i64 c] 73)
    simpa using this
  · have := At4.new ((w.alloc (.cells #[v.r, v.k, v.f, v.t] 36)).alloc (.cells #[g.p, .int .i64 f.result, g.l, g.c] 63)) (.int .i64 op) (.int .i64 a) (.int .i64 b) (.int .i64 c) 73
    simpa using this
theorem l2Takes_any (F t : Int) (w : World) (hF : F = 5 ∨ F = 6 ∨ F = 7) : Calls Tryz.prog 101 #[.int .i64 F, .int .i64 t] w fun e w' => SaysIff e (takes F t) ∧ w' = w := by
  rcases hF with rfl | rfl | rfl
  · go_enter Tryz.func101, Tryz.ntmps101
    go_wp2
    all_goals (go_ret; refine ⟨SaysIff.of ?_, rfl⟩; go_light; simp_all [takes])
  · go_enter Tryz.func101, Tryz.ntmps101
    go_wp2
    all_goals (go_ret; refine ⟨SaysIff.of ?_, rfl⟩; go_light; simp_all [takes])
  · go_enter Tryz.func101, Tryz.ntmps101
    go_wp2_with fail
    refine (l2Type_any t _).mono ?_
    rintro e u ⟨rfl, rfl⟩
    go_wp2
    all_goals (go_ret; refine ⟨SaysIff.of ?_, rfl⟩; go_light; simp_all [takes])
theorem info_field (s : ByteArray) (co F : Int) (w : World) : (Instr.field 158 (.agg #[.string s, .int .i64 co, .int .i64 F]) 2).run Tryz.prog w = .ok (.int .i64 F) w := by kernel_rfl
set_option maxHeartbeats 4000000 in
set_option maxRecDepth 100000 in
theorem l3Instr_any (v : VP) (p : MP) (g : VF) (f : MF) (op a b c : Int) (w : World) (hs : p.small) (h3 : p.regions.length = 3) (hfs : f.small) (ha : W64 a) (hb : W64 b) (hc : W64 c) (h : RdP w v p) (hf : RdF w g f) :
    Calls Tryz.prog 64 #[.agg #[v.r, v.k, v.f, v.t], .agg #[g.p, .int .i64 f.result, g.l, g.c], .agg #[.int .i64 op, .int .i64 a, .int .i64 b, .int .i64 c]] w fun e w' => SaysIff e (InstrOk p f ⟨op, a, b, c⟩) ∧ Below w.heap.size w w' := by
  have H : Hid (p.small ∧ p.regions.length = 3 ∧ f.small ∧ W64 a ∧ W64 b ∧ W64 c ∧ RdP w v p ∧ RdF w g f) := ⟨hs, h3, hfs, ha, hb, hc, h, hf⟩
  have HI : Hid _ := In3.of w v g f op a b c
  obtain ⟨vr, vk, vf, vt⟩ := v
  obtain ⟨gp, gl, gc⟩ := g
  obtain ⟨r2, c2, ek⟩ : ∃ a c, vk = .slice a p.consts.length c := h.consts.is_slice
  obtain ⟨r3, c3, ef⟩ : ∃ a c, vf = .slice a p.funcs.length c := by obtain ⟨xs, h1, h2, h3⟩ := h.funcs; exact h2.is_slice
  obtain ⟨r4, c4, ec⟩ : ∃ a k, gc = .slice a f.code.length k := hf.2.2.is_slice
  subst ek ef ec
  have hz1 := hs.consts
  have hz2 := hs.funcs
  have hz3 := hfs.2.2
  obtain ⟨a0, a1⟩ := W64_in ha
  obtain ⟨b0, b1⟩ := W64_in hb
  obtain ⟨c0, c1⟩ := W64_in hc
  clear hs h3 hfs ha hb hc h hf
  by_cases q0 : op < 0
  · have HN : Hid (¬ InstrOk p f ⟨op, a, b, c⟩) := fun e => absurd e.1 (by dsimp only; omega)
    go_enter Tryz.func64, Tryz.ntmps64
    go_wp2
    go_ret
    exact ⟨.no HN.out, HI.out.bel⟩
  by_cases q1 : 29 < op
  · have HN : Hid (¬ InstrOk p f ⟨op, a, b, c⟩) := fun e => absurd e.2.1 (by dsimp only; omega)
    go_enter Tryz.func64, Tryz.ntmps64
    go_wp2
    go_ret
    exact ⟨.no HN.out, HI.out.bel⟩
  have HO : Hid (0 ≤ op ∧ op ≤ 29) := ⟨by omega, by omega⟩
  go_enter Tryz.func64, Tryz.ntmps64
  go_upto_region 3 with fail
  clear q0 q1
  go_cut [7] from 9 to 27 (fun s wx => s = .bool (decide (0 ≤ c ∧ c < (f.code.length : Int))) ∧ Hid (In3 w wx ⟨vr, .slice r2 p.consts.length c2, .slice r3 p.funcs.length c3, vt⟩ ⟨gp, gl, .slice r4 f.code.length c4⟩ f op a b c))
  case first =>
    by_cases q2 : c < 0
    · go_wp2_with fail
      go_meet
      exact ⟨by rw [show decide (0 ≤ c ∧ c < (f.code.length : Int)) = false from decide_eq_false (by omega)], HI⟩
    by_cases q3 : (f.code.length : Int) ≤ c
    · have q3' : ¬ c < (f.code.length : Int) := by omega
      go_wp2_with fail
      go_meet
      exact ⟨by rw [show decide (0 ≤ c ∧ c < (f.code.length : Int)) = false from decide_eq_false (by omega)], HI⟩
    · have q3' : c < (f.code.length : Int) := by omega
      go_wp2_with fail
      go_meet
      exact ⟨by rw [show decide (0 ≤ c ∧ c < (f.code.length : Int)) = true from decide_eq_true (by omega)], HI⟩
  case rest =>
  obtain ⟨rfl, HI2⟩ := hcut
  clear HI
  obtain ⟨i0, i1, i2, i3⟩ := HI2.out.ins
  go_wp2_with fail
  clear i0 i1 i2 i3
  refine (SInfo_any op _).mono ?_
  rintro e u ⟨rfl, bl⟩
  have HJ : Hid (In3 w u ⟨vr, .slice r2 p.consts.length c2, .slice r3 p.funcs.length c3, vt⟩ ⟨gp, gl, .slice r4 f.code.length c4⟩ f op a b c) := HI2.out.keep bl
  clear HI2 bl
  obtain ⟨s, co, hinf⟩ := infoOf_formOf op
  rw [hinf]
  clear hinf
  have HIF : Hid (InstrOk p f ⟨op, a, b, c⟩ ↔ FormOk p f (formOf op) op a b c) := ⟨fun e => e.2.2, fun e => ⟨HO.out.1, HO.out.2, e⟩⟩
  have hF : 0 ≤ formOf op ∧ formOf op ≤ 11 := by
    obtain ⟨k, rfl⟩ := Int.eq_ofNat_of_zero_le HO.out.1
    exact (formOf_nat k (by have := HO.out.2; omega)).1
  generalize hFF : formOf op = F at *
  clear hFF
  obtain ⟨f0, f1⟩ := hF
  generalize hn1 : p.consts.length = n1 at *
  generalize hn2 : p.funcs.length = n2 at *
  generalize hn3 : f.code.length = n3 at *
  have HL : Hid (p.consts.length = n1 ∧ p.funcs.length = n2 ∧ f.code.length = n3) := ⟨hn1, hn2, hn3⟩
  clear hn1 hn2 hn3
  obtain ⟨p0, p1, p2, p3⟩ := HJ.out.prog
  obtain ⟨i0, i1, i2, i3⟩ := HJ.out.ins
  obtain ⟨g0, g1, g2, g3⟩ := HJ.out.func
  simp only [] at p0 p1 p2 p3 g0 g1 g2 g3
  have hfd := info_field s co F
  by_cases F0 : F = 0
  · subst F0
    go_wp2_with fail
    all_goals (go_ret; refine ⟨SaysIff.of ?_, HJ.out.bel⟩; rw [HIF.out]; obtain ⟨l1, l2, l3⟩ := HL.out; go_light; simp_all [FormOk, takes] <;> omega)
  by_cases F1 : F = 1
  · subst F1
    go_wp2_with fail
    all_goals (go_ret; refine ⟨SaysIff.of ?_, HJ.out.bel⟩; rw [HIF.out]; obtain ⟨l1, l2, l3⟩ := HL.out; go_light; simp_all [FormOk, takes] <;> omega)
  by_cases F9 : F = 9
  · subst F9
    go_wp2_with fail
    all_goals (go_ret; refine ⟨SaysIff.of ?_, HJ.out.bel⟩; rw [HIF.out]; obtain ⟨l1, l2, l3⟩ := HL.out; go_light; simp_all [FormOk, takes] <;> omega)
  by_cases F11 : F = 11
  · subst F11
    go_wp2_with fail
    all_goals (go_ret; refine ⟨SaysIff.of ?_, HJ.out.bel⟩; rw [HIF.out]; obtain ⟨l1, l2, l3⟩ := HL.out; go_light; simp_all [FormOk, takes] <;> omega)
  by_cases F2 : F = 2
  · subst F2
    go_wp2_with fail
    refine (l3Local_any ⟨gp, gl, .slice r4 n3 c4⟩ f a _ H.out.2.2.1 H.out.2.2.2.1 ((H.out.2.2.2.2.2.2.2).keep HJ.out.bel (Nat.le_refl _))).mono ?_
    rintro e u2 ⟨rfl, bl2⟩
    have HK : Hid (In3 w u2 ⟨vr, .slice r2 n1 c2, .slice r3 n2 c3, vt⟩ ⟨gp, gl, .slice r4 n3 c4⟩ f op a b c) := HJ.out.keep bl2
    clear bl2
    clear p0 p1 p2 p3 i0 i1 i2 i3 g0 g1 g2 g3
    obtain ⟨i0, i1, i2, i3⟩ := HK.out.ins
    generalize hT : localOf f a = T
    have HT : Hid (localOf f a = T) := hT
    clear hT
    go_wp2_with fail
    all_goals (go_ret; refine ⟨SaysIff.of ?_, HK.out.bel⟩; rw [HIF.out]; obtain ⟨l1, l2, l3⟩ := HL.out; go_light; have lt := HT.out; simp_all [FormOk, takes] <;> omega)
  by_cases F10 : F = 10
  · subst F10
    go_wp2_with fail
    refine (l3Local_any ⟨gp, gl, .slice r4 n3 c4⟩ f a _ H.out.2.2.1 H.out.2.2.2.1 ((H.out.2.2.2.2.2.2.2).keep HJ.out.bel (Nat.le_refl _))).mono ?_
    rintro e u2 ⟨rfl, bl2⟩
    have HK : Hid (In3 w u2 ⟨vr, .slice r2 n1 c2, .slice r3 n2 c3, vt⟩ ⟨gp, gl, .slice r4 n3 c4⟩ f op a b c) := HJ.out.keep bl2
    clear bl2
    clear p0 p1 p2 p3 i0 i1 i2 i3 g0 g1 g2 g3
    obtain ⟨i0, i1, i2, i3⟩ := HK.out.ins
    generalize hT : localOf f a = T
    have HT : Hid (localOf f a = T) := hT
    clear hT
    go_wp2_with fail
    all_goals (go_ret; refine ⟨SaysIff.of ?_, HK.out.bel⟩; rw [HIF.out]; obtain ⟨l1, l2, l3⟩ := HL.out; go_light; have lt := HT.out; simp_all [FormOk, takes] <;> omega)
  by_cases F3 : F = 3
  · subst F3
    go_wp2_with fail
    refine (l3Cell_any ⟨vr, .slice r2 n1 c2, .slice r3 n2 c3, vt⟩ p a b _ H.out.1 H.out.2.1 H.out.2.2.2.1 H.out.2.2.2.2.1 ((H.out.2.2.2.2.2.2.1).keep HJ.out.bel (Nat.le_refl _))).mono ?_
    rintro e u2 ⟨rfl, bl2⟩
    have HK : Hid (In3 w u2 ⟨vr, .slice r2 n1 c2, .slice r3 n2 c3, vt⟩ ⟨gp, gl, .slice r4 n3 c4⟩ f op a b c) := HJ.out.keep bl2
    clear bl2
    clear p0 p1 p2 p3 i0 i1 i2 i3 g0 g1 g2 g3
    obtain ⟨i0, i1, i2, i3⟩ := HK.out.ins
    generalize hT : cellOf p a b = T
    have HT : Hid (cellOf p a b = T) := hT
    clear hT
    go_wp2_with fail
    all_goals (go_ret; refine ⟨SaysIff.of ?_, HK.out.bel⟩; rw [HIF.out]; obtain ⟨l1, l2, l3⟩ := HL.out; go_light; have lt := HT.out; simp_all [FormOk, takes] <;> omega)
  by_cases F4 : F = 4
  · subst F4
    go_wp2_with fail
    refine (l3Mask_any ⟨vr, .slice r2 n1 c2, .slice r3 n2 c3, vt⟩ p op a b c _ H.out.1 H.out.2.1 H.out.2.2.2.1 H.out.2.2.2.2.1 H.out.2.2.2.2.2.1 ((H.out.2.2.2.2.2.2.1).keep HJ.out.bel (Nat.le_refl _))).mono ?_
    rintro e u2 ⟨⟨bm, rfl, hbm⟩, bl2⟩
    have HK : Hid (In3 w u2 ⟨vr, .slice r2 n1 c2, .slice r3 n2 c3, vt⟩ ⟨gp, gl, .slice r4 n3 c4⟩ f op a b c) := HJ.out.keep bl2
    clear bl2
    clear p0 p1 p2 p3 i0 i1 i2 i3 g0 g1 g2 g3
    obtain ⟨i0, i1, i2, i3⟩ := HK.out.ins
    cases bm
    · have HT : Hid (¬ MaskOk p a b c) := fun e => by simp [e] at hbm
      clear hbm
      go_wp2_with fail
      all_goals (go_ret; refine ⟨SaysIff.of ?_, HK.out.bel⟩; rw [HIF.out]; obtain ⟨l1, l2, l3⟩ := HL.out; go_light; have lt := HT.out; simp_all [FormOk, takes] <;> omega)
    · have HT : Hid (MaskOk p a b c) := hbm.1 rfl
      clear hbm
      go_wp2_with fail
      all_goals (go_ret; refine ⟨SaysIff.of ?_, HK.out.bel⟩; rw [HIF.out]; obtain ⟨l1, l2, l3⟩ := HL.out; go_light; have lt := HT.out; simp_all [FormOk, takes] <;> omega)
  by_cases F8 : F = 8
  · subst F8
    go_wp2_with fail
    refine (l2Type_any a _).mono ?_
    rintro e u2 ⟨rfl, rfl⟩
    cases t1 : isT a
    · go_wp2_with fail
      all_goals (go_ret; refine ⟨SaysIff.of ?_, HJ.out.bel⟩; rw [HIF.out]; obtain ⟨l1, l2, l3⟩ := HL.out; go_light; simp_all [FormOk, takes] <;> omega)
    go_wp2_with fail
    refine (l2Type_any b _).mono ?_
    rintro e u2 ⟨rfl, rfl⟩
    cases t2 : isT b
    all_goals
      go_wp2_with fail
      all_goals (go_ret; refine ⟨SaysIff.of ?_, HJ.out.bel⟩; rw [HIF.out]; obtain ⟨l1, l2, l3⟩ := HL.out; go_light; simp_all [FormOk, takes] <;> omega)
  go_wp2_with fail
  refine (l2Takes_any F a _ (by omega)).mono ?_
  rintro e u2 ⟨⟨bm, rfl, hbm⟩, rfl⟩
  cases bm
  · have HT : Hid (¬ takes F a) := fun e => by simp [e] at hbm
    clear hbm
    go_wp2_with fail
    all_goals (go_ret; refine ⟨SaysIff.of ?_, HJ.out.bel⟩; rw [HIF.out]; obtain ⟨l1, l2, l3⟩ := HL.out; go_light; have lt := HT.out; simp_all [FormOk] <;> omega)
  · have HT : Hid (takes F a) := hbm.1 rfl
    clear hbm
    go_wp2_with fail
    all_goals (go_ret; refine ⟨SaysIff.of ?_, HJ.out.bel⟩; rw [HIF.out]; obtain ⟨l1, l2, l3⟩ := HL.out; go_light; have lt := HT.out; simp_all [FormOk] <;> omega)
end Go.Proofs.YtifpjgdnikkekaaGreat
namespace Go.Proofs.YtifpjgdnikkekaaGreat
open Go.ChangeShapes Go.WideShapes Go.ChangeAt Go.RowKit
set_option linter.unusedVariables false
set_option maxHeartbeats 1000000 in
theorem allTypes_any (s : Value) (ys : List Int) (w : World) (hn : ys.length ≤ 1048576) (h : Rd w 1 s ys.length (ys.flatMap intCell)) :
    Calls Tryz.prog 124 #[s] w fun e w' => e = .returned (.bool (ys.all isT)) ∧ w' = w := by
  have H1 : Hid (Rd w 1 s ys.length (ys.flatMap intCell)) := h
  obtain ⟨a1, c1, rfl⟩ := h.is_slice
  clear h
  generalize hLL : ys.length = n at hn H1
  have HL : Hid (ys.length = n) := hLL
  clear hLL
  generalize hR : ys.all isT = R
  have HR : Hid (ys.all isT = R) := hR
  clear hR
  go_enter Tryz.func124, Tryz.ntmps124
  go_wp2
  go_loopw [7] (fun i wr => ∃ k : Nat, k ≤ n ∧ i = .int .i64 k ∧ Hid ((ys.take k).all isT = true) ∧ wr = w) (fun i _ => n - (intOf i).toNat)
  case atStart => exact ⟨0, by omega, rfl, by simp [Hid], rfl⟩
  case round =>
    obtain ⟨k, hk, rfl, HT, rfl⟩ := hrel
    by_cases hlt : k < n
    · obtain ⟨x, hx⟩ : ∃ x, ys[k]? = some x := ⟨_, List.getElem?_eq_getElem (by rw [HL.out]; exact hlt)⟩
      rcases H1.out.2 with ⟨e0, _⟩ | ⟨g, o, c, e1, hc1⟩
      · omega
      · simp only [Value.slice.injEq, true_and] at e1
        obtain ⟨rfl, rfl⟩ := e1
        have i0 := Rd.elem intCell_length hc1 k x hx 0 _ rfl
        rw [Nat.mul_one, Nat.add_zero] at i0
        have HX : Hid (ys[k]? = some x) := hx
        clear hc1 hx
        go_wp2_with fail
        refine (isType_any x wr).mono ?_
        rintro e u ⟨rfl, rfl⟩
        cases hq : isT x with
        | false =>
          have hR : R = false := by
            rw [← HR.out]
            exact all_not _ _ _ (List.mem_of_getElem? HX.out) hq
          subst hR
          clear hq
          go_wp2
          go_ret
          exact ⟨rfl, rfl⟩
        | true =>
          have HN : Hid ((ys.take (k + 1)).all isT = true) := by
            show _ = _
            rw [all_next _ _ _ _ HX.out HT.out]
            exact hq
          clear hq
          go_wp2
          go_roundw
          case rel => exact ⟨k + 1, by omega, by go_num, HN, by trivial⟩
          case measure => simp [intOf]; omega
    · have hkn : k = n := by omega
      subst hkn
      have hR : R = true := by
        rw [← HR.out, ← HT.out, ← HL.out, List.take_length]
      subst hR
      go_wp2
      go_ret
      exact ⟨rfl, rfl⟩
/-- The regions are without a fault. -/
def RegionOk (r : List Int) : Prop := r.length ≤ 256 ∧ r.all isT = true
def RegionsOk (rs : List (List Int)) : Prop := rs.length = 3 ∧ ∀ j, j < rs.length → ∀ r, rs[j]? = some r → RegionOk r
set_option maxHeartbeats 2000000 in
set_option maxRecDepth 100000 in
theorem regionsHold_any (s : Value) (fs : List (List Int)) (w : World) (hL : fs.length ≤ 1048576) (hs : ∀ f ∈ fs, f.length ≤ 1048576) (h : RdR w s fs) :
    Calls Tryz.prog 105 #[s] w fun e w' => SaysIff e (RegionsOk fs) ∧ w' = w := by
  obtain ⟨xs, hxs, hrd, hel⟩ := h
  have hxl : xs.length = fs.length := by rw [← hxs]; simp
  have H1 : Hid (Rd w 1 s fs.length (xs.flatMap rCells) ∧ xs.map Prod.fst = fs ∧ (∀ x ∈ xs, Rd w 1 x.2 x.1.length (x.1.flatMap intCell)) ∧ (∀ f ∈ fs, f.length ≤ 1048576) ∧ xs.length = fs.length) := ⟨hrd, hxs, hel, hs, hxl⟩
  obtain ⟨a1, c1, rfl⟩ := hrd.is_slice
  clear hrd hxs hel hs hxl
  generalize hLL : fs.length = n at hL H1
  have HL : Hid (fs.length = n) := hLL
  clear hLL
  by_cases q0 : n = 3
  · subst q0
    go_enter Tryz.func105, Tryz.ntmps105
    go_wp2
    go_loopw [10] (fun i wr => ∃ k : Nat, k ≤ 3 ∧ i = .int .i64 k ∧ Hid (∀ j, j < k → ∀ r, fs[j]? = some r → RegionOk r) ∧ wr = w) (fun i _ => 3 - (intOf i).toNat)
    case atStart => exact ⟨0, by omega, rfl, fun j hj => by omega, rfl⟩
    case round =>
      obtain ⟨k, hk, rfl, HT, rfl⟩ := hrel
      by_cases hlt : k < 3
      · obtain ⟨⟨f, v⟩, hx⟩ : ∃ x, xs[k]? = some x := ⟨_, List.getElem?_eq_getElem (by rw [H1.out.2.2.2.2]; exact hlt)⟩
        have e1 := fst_at H1.out.2.1 hx
        have hf := H1.out.2.2.1 _ (List.mem_of_getElem? hx)
        have HX : Hid (Rd wr 1 v f.length (f.flatMap intCell) ∧ f.length ≤ 1048576 ∧ fs[k]? = some f) := ⟨hf, H1.out.2.2.2.1 _ (List.mem_of_getElem? e1), e1⟩
        clear e1
        rcases H1.out.1.2 with ⟨e0, _⟩ | ⟨b, o, c, e1, hc1⟩
        · omega
        · simp only [Value.slice.injEq, true_and] at e1
          obtain ⟨rfl, rfl⟩ := e1
          have i0 := Rd.elem rCells_length hc1 k _ hx 0 _ rfl
          rw [Nat.mul_one, Nat.add_zero] at i0
          clear hc1 hx
          simp only [] at i0 hf
          obtain ⟨av, cv, ev⟩ := hf.is_slice
          subst ev
          clear hf
          have hz := HX.out.2.1
          by_cases q1 : 256 < f.length
          · have HN : Hid (¬ RegionsOk fs) := fun e => absurd (e.2 k (by rw [HL.out]; exact hlt) f HX.out.2.2).1 (by omega)
            generalize f.length = m at *
            go_wp2
            go_ret
            exact ⟨.no HN.out, rfl⟩
          · go_wp2_with fail
            refine (allTypes_any _ f _ HX.out.2.1 HX.out.1).mono ?_
            rintro e u ⟨rfl, rfl⟩
            cases t1 : f.all isT
            · have HN : Hid (¬ RegionsOk fs) := fun e => by have := (e.2 k (by rw [HL.out]; exact hlt) f HX.out.2.2).2; simp [t1] at this
              clear t1
              go_wp2
              go_ret
              exact ⟨.no HN.out, rfl⟩
            · have HN : Hid (RegionOk f) := ⟨by omega, t1⟩
              clear t1
              go_wp2
              go_roundw
              case rel => exact ⟨k + 1, by omega, by go_num, upto_next HX.out.2.2 HN.out HT.out, by trivial⟩
              case measure => simp [intOf]; omega
      · have hkn : k = 3 := by omega
        subst hkn
        have HY : Hid (RegionsOk fs) := ⟨HL.out, by rw [HL.out]; exact HT.out⟩
        go_wp2
        go_ret
        exact ⟨.yes HY.out, rfl⟩
  · have HN : Hid (¬ RegionsOk fs) := fun e => q0 (by rw [← HL.out]; exact e.1)
    have hi : ¬ (n : Int) = 3 := by omega
    clear H1
    go_enter Tryz.func105, Tryz.ntmps105
    go_wp2
    go_ret
    exact ⟨.no HN.out, rfl⟩
end Go.Proofs.YtifpjgdnikkekaaGreat
