/- Beg5: spec.Begin, its walk. -/
import Derived.Test.YtkpajiahpmdobaaGreatBeg4
import Derived.Deep.RegionLaw
import Derived.Deep.AppendLies
namespace Go.Proofs.YtkpajiahpmdobaaGreat
open Go.ChangeShapes Go.WideShapes Go.ChangeAt Go.RowKit
set_option linter.unusedVariables false
theorem begO5 {w U u5 : World} {v : VP} {vm : VM} {L : List (Value × List MC)} {X Y : Nat} {az : Option Addr} {cz : Nat} {f : MF} (h : BQ w U v vm L X Y (.slice none 0 0)) (hb : Below U.heap.size U u5) (ho : u5.ownsRow U.heap.size 102 2 (.slice az f.locals.length cz) f.locals.length ((zerosL f.locals).flatMap MC.cells)) :
    BQ w (u5.alloc (.cells #[.int .i64 0, .int .i64 0, .int .i64 0, .slice az f.locals.length cz] 63)) v vm L X Y (.slice none 0 0) ∧ (u5.alloc (.cells #[.int .i64 0, .int .i64 0, .int .i64 0, .slice az f.locals.length cz] 63)).ownsRow w.heap.size 102 2 (.slice az f.locals.length cz) (zerosL f.locals).length ((zerosL f.locals).flatMap MC.cells) ∧ ∀ j u, [(.int .i64 0 : Value), .int .i64 0, .int .i64 0, .slice az f.locals.length cz][j]? = some u → (u5.alloc (.cells #[.int .i64 0, .int .i64 0, .int .i64 0, .slice az f.locals.length cz] 63)).cell? ((⟨u5.heap.size, 0, none⟩ : Addr).add j) = some u := by
  refine ⟨(h.keep hb).keep (below_alloc _ _), ?_, fun j u hj => ?_⟩
  · rw [zerosL_length]
    exact own_lower (own_keep ho (below_alloc _ _) (Nat.le_refl _)) h.args.bel.size
  · rw [add_at, Nat.zero_add, cell_of_row _ _ _ _ _ _ (block_new u5 #[.int .i64 0, .int .i64 0, .int .i64 0, .slice az f.locals.length cz] 63)]
    simpa using hj
theorem begS8 {w u u' : World} {v : VP} {vm : VM} {L : List (Value × List MC)} {X Y : Nat} (h : BQ w u v vm L X Y (.slice none 0 0)) (hg : u.grownBy u' (Value.slice none 0 0).ownBlock) : Blk u' X #[.int .i64 0, .bool false, .int .i64 0, .int .i64 0, .slice (some ⟨Y, 0, none⟩) 3 3, .slice none 0 0, .slice none 0 0] 37 :=
  h.st.keep ((Below.refl _ _).grown hg (Nat.le_refl _) (fun k hk => by cases hk))
theorem begO8 {w u u' : World} {v : VP} {vm : VM} {L : List (Value × List MC)} {X Y gg cap : Nat} {zl : Value} {zs : List MC} (h : BQ w u v vm L X Y (.slice none 0 0)) (hz : u.ownsRow w.heap.size 102 2 zl zs.length (zs.flatMap MC.cells)) (hg : u.grownBy u' (Value.slice none 0 0).ownBlock) (ho : u'.ownsRow w.heap.size 63 4 (.slice (some ⟨gg, 0, none⟩) (0 + 1) cap) (0 + 1) ([] ++ [.int .i64 0, .int .i64 0, .int .i64 0, zl])) :
    BR w (u'.setCell ⟨X, 6, none⟩ (.slice (some ⟨gg, 0, none⟩) 1 cap)) v vm L X Y (.slice (some ⟨gg, 0, none⟩) 1 cap) zl zs := by
  have hb : Below u.heap.size u u' := (Below.refl _ _).grown hg (Nat.le_refl _) (fun k hk => by cases hk)
  have h' := h.keep hb
  exact ⟨h'.setfr _, own_set_st ho h'.st (by decide) 6 _, own_set_st (own_keep hz hb (Nat.le_refl _)) h'.st (by decide) 6 _⟩
set_option maxHeartbeats 8000000 in
set_option maxRecDepth 100000 in
theorem specBegin_any (v : VP) (p : MP) (vm : VM) (m : MM) (w : World) (hs : p.small) (hw : p.wf) (h : RdP w v p) (hfp : RdFp w v.f p.funcs) (ms : m.small) (hm : RdM w vm m) :
    Calls Tryz.prog 6 #[.agg #[v.r, v.k, v.f, v.t], .agg #[vm.i, vm.o, vm.k]] w fun e w' => ∃ (s : MS) (x : VS), e = .returned (.agg #[.int .i64 s.trap, .bool s.done, .int .i64 s.cost, .int .i64 s.steps, x.c, x.k, x.f]) ∧ BegIs p m s ∧ OwnS w' w.heap.size x s ∧ Below w.heap.size w w' := by
  obtain ⟨j0, hj, hy0, hy1, hy2⟩ := info_parts infoG
  have HP : Hid (RdFp w v.f p.funcs ∧ p.small) := ⟨hfp, hs⟩
  have H : Hid (p.small ∧ p.wf ∧ RdP w v p ∧ m.small ∧ RdM w vm m) := ⟨hs, hw, h, ms, hm⟩
  clear hs hw h ms hm hfp
  go_enter Tryz.func6, Tryz.ntmps6
  go_wp2_with fail
  have E0 := BAt.of w v vm
  refine (specValid_any v p vm m _ H.out.1 H.out.2.1 (H.out.2.2.1.keep E0.bel (Nat.le_refl _)) H.out.2.2.2.1 (H.out.2.2.2.2.keep E0.bel (Nat.le_refl _))).mono ?_
  rintro e u1 ⟨⟨b1, rfl, hb1⟩, bl1⟩
  have E1 : Hid (BAt w u1 v vm) := E0.keep bl1
  clear E0 bl1
  cases b1
  · have HN : Hid (¬ ValidM p m) := fun e => absurd (hb1.2 e) Bool.false_ne_true
    clear hb1
    have r0 := E1.out.rb.cell 0
    have r1 := E1.out.rb.cell 1
    have r2 := E1.out.rb.cell 2
    have r3 := E1.out.rb.cell 3
    have r4 := E1.out.rb.cell 4
    have r5 := E1.out.rb.cell 5
    have r6 := E1.out.rb.cell 6
    have p0 := E1.out.rb.frozen 0
    have p1 := E1.out.rb.frozen 1
    have p2 := E1.out.rb.frozen 2
    have p3 := E1.out.rb.frozen 3
    have p4 := E1.out.rb.frozen 4
    have p5 := E1.out.rb.frozen 5
    have p6 := E1.out.rb.frozen 6
    simp only [List.getElem?_toArray, List.getElem?_cons_zero, List.getElem?_cons_succ] at r0 r1 r2 r3 r4 r5 r6
    go_wp2_with fail
    have R4 := ((((((E1.out.rb.set 0 (.int .i64 7)).set 1 (.bool false)).set 2 (.int .i64 0)).set 3 (.int .i64 0)).set 4 (.slice none 0 0)).set 5 (.slice none 0 0)).set 6 (.slice none 0 0)
    have q0 := R4.cell 0
    have q1 := R4.cell 1
    have q2 := R4.cell 2
    have q3 := R4.cell 3
    have q4 := R4.cell 4
    have q5 := R4.cell 5
    have q6 := R4.cell 6
    simp at q0 q1 q2 q3 q4 q5 q6
    exact bodyPost_ret (v := .agg #[.int .i64 7, .bool false, .int .i64 0, .int .i64 0, .slice none 0 0, .slice none 0 0, .slice none 0 0]) (by simp [results, Tryz.results6, go_sem, q0, q1, q2, q3, q4, q5, q6]) rfl ⟨badSt, ⟨.slice none 0 0, .slice none 0 0, .slice none 0 0⟩, rfl, .inr ⟨HN.out, rfl⟩, own_nil_state _ _, ((((((E1.out.bel.setCell (by simp only []; omega) _).setCell (by simp only []; omega) _).setCell (by simp only []; omega) _).setCell (by simp only []; omega) _).setCell (by simp only []; omega) _).setCell (by simp only []; omega) _).setCell (by simp only []; omega) _⟩
  · have HV : Hid (ValidM p m) := hb1.1 rfl
    clear hb1
    obtain ⟨g, o, c, r0, r1, r2, y0, y1, y2, hR⟩ := Reg3.of (H.out.2.2.1.keep E1.out.bel (Nat.le_refl _)) HV.out.1.ok.1.1
    have HRE : Hid (p.regions = [r0, r1, r2]) := hR.eq
    have HR : Hid (Reg3 u1 v.r p g o c r0 r1 r2 y0 y1 y2) := hR
    have HW3 : Hid (m.ins.length = r0.length ∧ WordsOk m.outs r1 ∧ WordsOk m.keeps r2) := (ValidM.iff HV.out.1 hR.eq).1 HV.out
    obtain ⟨gf, of, cf, nf, f, z, hF⟩ := Fn0.of HP.out.1 HP.out.2 HV.out.1.ok.2.2.1
    have HF : Hid (Fn0 w v.f p gf of cf nf f z) := hF
    obtain ⟨vr, vk, vf, vt⟩ := v
    obtain ⟨vi, vo, vkk⟩ := vm
    have hfr := hF.rows
    simp only [] at hfr
    subst hfr
    obtain ⟨zp, zl, zc⟩ := z
    obtain ⟨bp, dp, ep⟩ : ∃ a c, zp = .slice a f.params.length c := hF.rd.1.is_slice
    obtain ⟨bl, dl, el⟩ : ∃ a c, zl = .slice a f.locals.length c := hF.rd.2.1.is_slice
    obtain ⟨bc, dc, ec⟩ : ∃ a c, zc = .slice a f.code.length c := hF.rd.2.2.is_slice
    subst ep el ec
    clear hF
    have hrows := hR.rows
    simp only [] at hrows
    subst hrows
    clear hR
    have HM : Hid (RdM u1 ⟨vi, vo, vkk⟩ m ∧ m.small) := ⟨H.out.2.2.2.2.keep E1.out.bel (Nat.le_refl _), H.out.2.2.2.1⟩
    have HB : Hid (BIn w u1 g o c vi vo vkk y0 y1 y2) := ⟨E1.out.mb.cell 0, E1.out.mb.cell 1, E1.out.mb.cell 2, E1.out.pb.cell 0, HR.out.i0, HR.out.i1, HR.out.i2⟩
    have HL : Hid (m.ins.length ≤ 1048576 ∧ m.outs.length ≤ 1048576 ∧ m.keeps.length ≤ 1048576 ∧ m.outs.length = r1.length ∧ m.keeps.length = r2.length) := ⟨HM.out.2.ins, HM.out.2.outs, HM.out.2.keeps, HW3.out.2.1.1, HW3.out.2.2.1⟩
    have D1 : Hid (Below u1.heap.size u1 u1) := below_same u1
    have D0 : Hid (Below u1.heap.size u1 u1.drew) := below_drew1 _
    go_wp2_with fail
    have KS := (HB.out.keep (below_drew1 _)).all
    go_region_held3 (fun w' => w'.cell? ⟨w.heap.size + 1, 0, none⟩ = some vi ∧ w'.cell? ⟨w.heap.size + 1, 1, none⟩ = some vo ∧ w'.cell? ⟨w.heap.size + 1, 2, none⟩ = some vkk ∧ w'.cell? ⟨w.heap.size, 0, none⟩ = some (.slice (some ⟨g, o, none⟩) 3 c) ∧ w'.cell? ⟨g, o, none⟩ = some y0 ∧ w'.cell? ⟨g, o + 1, none⟩ = some y1 ∧ w'.cell? ⟨g, o + 2, none⟩ = some y2) (first | with_reducible exact KS | exact (HB.out.keep (by (repeat' (first | with_reducible exact Hid.out (by assumption) | (with_reducible refine Below.setCell ?_ (by (first | omega | (simp only []; omega) | (simp only [World.size_alloc]; omega) | (simp only [World.size_setCell]; omega) | (simp only [World.size_drew]; omega) | (simp only [World.size_alloc, World.size_setCell]; omega) | (simp only [World.size_alloc, World.size_drew]; omega) | (simp only [World.size_setCell, World.size_drew]; omega) | (simp only [World.size_alloc, World.size_setCell, World.size_drew]; omega))) _) | (with_reducible refine below_on ?_ (Nat.le_refl _) (below_alloc _ _)) | (with_reducible refine below_on ?_ (Nat.le_refl _) (below_drew1 _)))))).all) (first
      | (go_at_call_of 23 y0; refine (l4Cells_any vi y0 m.ins r0 _ HL.out.1 HW3.out.1 ?_ ?_).mono ?_; exact HM.out.1.ins.keep (B := u1.heap.size) (by (repeat' (first | with_reducible exact Hid.out (by assumption) | (with_reducible refine below_on ?_ (Nat.le_refl _) (below_alloc _ _)) | (with_reducible refine below_on ?_ (Nat.le_refl _) (below_drew1 _))))) (Nat.le_refl _); exact HR.out.k0.keep (B := u1.heap.size) (by (repeat' (first | with_reducible exact Hid.out (by assumption) | (with_reducible refine below_on ?_ (Nat.le_refl _) (below_alloc _ _)) | (with_reducible refine below_on ?_ (Nat.le_refl _) (below_drew1 _))))) (Nat.le_refl _); rintro e u2 ⟨a1, c1, rfl, own1, b1⟩; have B1 : Hid (Below u1.heap.size u1 u2) := below_on (by (repeat' (first | with_reducible exact Hid.out (by assumption) | (with_reducible refine below_on ?_ (Nat.le_refl _) (below_alloc _ _)) | (with_reducible refine below_on ?_ (Nat.le_refl _) (below_drew1 _))))) (Nat.le_refl _) b1; have O1 : Hid (∃ b, u1.heap.size ≤ b ∧ u2.ownsRow b 102 2 (.slice a1 m.ins.length c1) m.ins.length ((cellsL r0 m.ins).flatMap MC.cells)) := ⟨_, by (first | exact Nat.le_refl _ | (simp only []; omega) | (simp only [World.size_alloc]; omega) | (simp only [World.size_setCell]; omega) | (simp only [World.size_drew]; omega) | (simp only [World.size_alloc, World.size_setCell]; omega) | (simp only [World.size_alloc, World.size_drew]; omega) | (simp only [World.size_setCell, World.size_drew]; omega) | (simp only [World.size_alloc, World.size_setCell, World.size_drew]; omega) | (simp only []; exact Nat.le_refl _) | (simp only [World.size_alloc]; exact Nat.le_refl _) | (simp only [World.size_setCell]; exact Nat.le_refl _) | (simp only [World.size_drew]; exact Nat.le_refl _) | (simp only [World.size_alloc, World.size_setCell]; exact Nat.le_refl _) | (simp only [World.size_alloc, World.size_drew]; exact Nat.le_refl _) | (simp only [World.size_setCell, World.size_drew]; exact Nat.le_refl _) | (simp only [World.size_alloc, World.size_setCell, World.size_drew]; exact Nat.le_refl _)), own1⟩; (try (have NX : Blk u2 _ #[.int .i64 0, .bool false, .int .i64 0, .int .i64 0, .slice none 0 0, .slice none 0 0, .slice none 0 0] 37 := (by first | with_reducible exact (Blk.new _ _ _).keep b1 | with_reducible exact ((Blk.new _ _ _).keep (below_drew1 _)).keep b1); have NN : Hid (Blk u2 _ #[.int .i64 0, .bool false, .int .i64 0, .int .i64 0, .slice none 0 0, .slice none 0 0, .slice none 0 0] 37) := NX; clear NX)); (try (have NN : Hid (Blk u2 _ #[.int .i64 0, .bool false, .int .i64 0, .int .i64 0, .slice none 0 0, .slice none 0 0, .slice none 0 0] 37) := NN.out.keep b1)); have zB1 := B1.out.size; have KS := (HB.out.keep B1.out).all; clear own1 b1)
      | (go_at_call_of 23 y1; have hh := B1; clear hh; refine (l4Cells_any vo y1 m.outs r1 _ HL.out.2.1 HL.out.2.2.2.1 ?_ ?_).mono ?_; exact HM.out.1.outs.keep (B := u1.heap.size) (by (repeat' (first | with_reducible exact Hid.out (by assumption) | (with_reducible refine below_on ?_ (Nat.le_refl _) (below_alloc _ _)) | (with_reducible refine below_on ?_ (Nat.le_refl _) (below_drew1 _))))) (Nat.le_refl _); exact HR.out.k1.keep (B := u1.heap.size) (by (repeat' (first | with_reducible exact Hid.out (by assumption) | (with_reducible refine below_on ?_ (Nat.le_refl _) (below_alloc _ _)) | (with_reducible refine below_on ?_ (Nat.le_refl _) (below_drew1 _))))) (Nat.le_refl _); rintro e u3 ⟨a2, c2, rfl, own1, b1⟩; have B2 : Hid (Below u1.heap.size u1 u3) := below_on (by (repeat' (first | with_reducible exact Hid.out (by assumption) | (with_reducible refine below_on ?_ (Nat.le_refl _) (below_alloc _ _)) | (with_reducible refine below_on ?_ (Nat.le_refl _) (below_drew1 _))))) (Nat.le_refl _) b1; have O2 : Hid (∃ b, u2.heap.size ≤ b ∧ u3.ownsRow b 102 2 (.slice a2 m.outs.length c2) m.outs.length ((cellsL r1 m.outs).flatMap MC.cells)) := ⟨_, by (first | exact Nat.le_refl _ | (simp only []; omega) | (simp only [World.size_alloc]; omega) | (simp only [World.size_setCell]; omega) | (simp only [World.size_drew]; omega) | (simp only [World.size_alloc, World.size_setCell]; omega) | (simp only [World.size_alloc, World.size_drew]; omega) | (simp only [World.size_setCell, World.size_drew]; omega) | (simp only [World.size_alloc, World.size_setCell, World.size_drew]; omega) | (simp only []; exact Nat.le_refl _) | (simp only [World.size_alloc]; exact Nat.le_refl _) | (simp only [World.size_setCell]; exact Nat.le_refl _) | (simp only [World.size_drew]; exact Nat.le_refl _) | (simp only [World.size_alloc, World.size_setCell]; exact Nat.le_refl _) | (simp only [World.size_alloc, World.size_drew]; exact Nat.le_refl _) | (simp only [World.size_setCell, World.size_drew]; exact Nat.le_refl _) | (simp only [World.size_alloc, World.size_setCell, World.size_drew]; exact Nat.le_refl _)), own1⟩; (try (have NX : Blk u3 _ #[.int .i64 0, .bool false, .int .i64 0, .int .i64 0, .slice none 0 0, .slice none 0 0, .slice none 0 0] 37 := (by first | with_reducible exact (Blk.new _ _ _).keep b1 | with_reducible exact ((Blk.new _ _ _).keep (below_drew1 _)).keep b1); have NN : Hid (Blk u3 _ #[.int .i64 0, .bool false, .int .i64 0, .int .i64 0, .slice none 0 0, .slice none 0 0, .slice none 0 0] 37) := NX; clear NX)); (try (have NN : Hid (Blk u3 _ #[.int .i64 0, .bool false, .int .i64 0, .int .i64 0, .slice none 0 0, .slice none 0 0, .slice none 0 0] 37) := NN.out.keep b1)); have C2 : Hid (Below u2.heap.size u2 u3) := (show Below _ _ _ from (by (first | with_reducible exact b1 | with_reducible exact below_on (below_alloc _ _) (Nat.le_refl _) b1))); have zB2 := B2.out.size; have KS := (HB.out.keep B2.out).all; clear own1 b1)
      | (go_at_call_of 23 y2; have hh := B2; clear hh; refine (l4Cells_any vkk y2 m.keeps r2 _ HL.out.2.2.1 HL.out.2.2.2.2 ?_ ?_).mono ?_; exact HM.out.1.keeps.keep (B := u1.heap.size) (by (repeat' (first | with_reducible exact Hid.out (by assumption) | (with_reducible refine below_on ?_ (Nat.le_refl _) (below_alloc _ _)) | (with_reducible refine below_on ?_ (Nat.le_refl _) (below_drew1 _))))) (Nat.le_refl _); exact HR.out.k2.keep (B := u1.heap.size) (by (repeat' (first | with_reducible exact Hid.out (by assumption) | (with_reducible refine below_on ?_ (Nat.le_refl _) (below_alloc _ _)) | (with_reducible refine below_on ?_ (Nat.le_refl _) (below_drew1 _))))) (Nat.le_refl _); rintro e u4 ⟨a3, c3, rfl, own1, b1⟩; have B3 : Hid (Below u1.heap.size u1 u4) := below_on (by (repeat' (first | with_reducible exact Hid.out (by assumption) | (with_reducible refine below_on ?_ (Nat.le_refl _) (below_alloc _ _)) | (with_reducible refine below_on ?_ (Nat.le_refl _) (below_drew1 _))))) (Nat.le_refl _) b1; have O3 : Hid (∃ b, u3.heap.size ≤ b ∧ u4.ownsRow b 102 2 (.slice a3 m.keeps.length c3) m.keeps.length ((cellsL r2 m.keeps).flatMap MC.cells)) := ⟨_, by (first | exact Nat.le_refl _ | (simp only []; omega) | (simp only [World.size_alloc]; omega) | (simp only [World.size_setCell]; omega) | (simp only [World.size_drew]; omega) | (simp only [World.size_alloc, World.size_setCell]; omega) | (simp only [World.size_alloc, World.size_drew]; omega) | (simp only [World.size_setCell, World.size_drew]; omega) | (simp only [World.size_alloc, World.size_setCell, World.size_drew]; omega) | (simp only []; exact Nat.le_refl _) | (simp only [World.size_alloc]; exact Nat.le_refl _) | (simp only [World.size_setCell]; exact Nat.le_refl _) | (simp only [World.size_drew]; exact Nat.le_refl _) | (simp only [World.size_alloc, World.size_setCell]; exact Nat.le_refl _) | (simp only [World.size_alloc, World.size_drew]; exact Nat.le_refl _) | (simp only [World.size_setCell, World.size_drew]; exact Nat.le_refl _) | (simp only [World.size_alloc, World.size_setCell, World.size_drew]; exact Nat.le_refl _)), own1⟩; (try (have NX : Blk u4 _ #[.int .i64 0, .bool false, .int .i64 0, .int .i64 0, .slice none 0 0, .slice none 0 0, .slice none 0 0] 37 := (by first | with_reducible exact (Blk.new _ _ _).keep b1 | with_reducible exact ((Blk.new _ _ _).keep (below_drew1 _)).keep b1); have NN : Hid (Blk u4 _ #[.int .i64 0, .bool false, .int .i64 0, .int .i64 0, .slice none 0 0, .slice none 0 0, .slice none 0 0] 37) := NX; clear NX)); (try (have NN : Hid (Blk u4 _ #[.int .i64 0, .bool false, .int .i64 0, .int .i64 0, .slice none 0 0, .slice none 0 0, .slice none 0 0] 37) := NN.out.keep b1)); (try (have e0 := NN.out.cell 0; have e1 := NN.out.cell 1; have e2 := NN.out.cell 2; have e3 := NN.out.cell 3; have e4 := NN.out.cell 4; have e5 := NN.out.cell 5; have e6 := NN.out.cell 6; have n1 := block_lt_of_cell e0; simp only [List.getElem?_toArray, List.getElem?_cons_zero, List.getElem?_cons_succ] at e0 e1 e2 e3 e4 e5 e6 n1; have n2 := Nat.ne_of_lt n1; have n3 := Ne.symm n2; have f0 := NN.out.frozen 0; have f1 := NN.out.frozen 1; have f2 := NN.out.frozen 2; have f3 := NN.out.frozen 3; have f4 := NN.out.frozen 4; have f5 := NN.out.frozen 5; have f6 := NN.out.frozen 6)); have C3 : Hid (Below u3.heap.size u3 u4) := (show Below _ _ _ from (by (first | with_reducible exact b1 | with_reducible exact below_on (below_alloc _ _) (Nat.le_refl _) b1))); have zB3 := B3.out.size; have KS := (HB.out.keep B3.out).all; clear own1 b1))
    all_goals
      have HA : Hid (BAt w u4 ⟨.slice (some ⟨g, o, none⟩) 3 c, vk, .slice (some ⟨gf, of, none⟩) nf cf, vt⟩ ⟨vi, vo, vkk⟩ ∧ ∀ r ∈ [((.slice a1 m.ins.length c1 : Value), cellsL r0 m.ins), (.slice a2 m.outs.length c2, cellsL r1 m.outs), (.slice a3 m.keeps.length c3, cellsL r2 m.keeps)], u4.ownsRow w.heap.size 102 2 r.1 r.2.length (r.2.flatMap MC.cells)) := by
        have hz := E1.out.bel.size
        have hy := B1.out.size
        have hv := B2.out.size
        obtain ⟨t1, l1, o1⟩ := O1.out
        obtain ⟨t2, l2, o2⟩ := O2.out
        obtain ⟨t3, l3, o3⟩ := O3.out
        refine ⟨E1.out.keep B3.out, fun r hr => ?_⟩
        simp only [List.mem_cons, List.not_mem_nil, or_false] at hr
        rcases hr with rfl | rfl | rfl
        · simp only [cellsL_length r0 m.ins HW3.out.1]
          rw [← HW3.out.1]
          exact own_lower (own_keep (own_keep o1 C2.out (Nat.le_refl _)) C3.out (Nat.le_refl _)) (by omega)
        · simp only [cellsL_length r1 m.outs HL.out.2.2.2.1]
          rw [← HL.out.2.2.2.1]
          exact own_lower (own_keep o2 C3.out (Nat.le_refl _)) (by omega)
        · simp only [cellsL_length r2 m.keeps HL.out.2.2.2.2]
          rw [← HL.out.2.2.2.2]
          exact own_lower o3 (by omega)
      have hu1 := E1.out.lt
      have zz1 := B1.out.size
      have zz2 := B2.out.size
      first
        | (with_reducible refine with_world (fun u => Hid (∃ X y, X = (u4.heap.size + 1) ∧ BQ w u ⟨.slice (some ⟨g, o, none⟩) 3 c, vk, .slice (some ⟨gf, of, none⟩) nf cf, vt⟩ ⟨vi, vo, vkk⟩ [((.slice a1 m.ins.length c1 : Value), cellsL r0 m.ins), (.slice a2 m.outs.length c2, cellsL r1 m.outs), (.slice a3 m.keeps.length c3, cellsL r2 m.keeps)] X y (.slice none 0 0))) (BQ.last3 HA.out.1 HA.out.2) ?_)
        | (with_reducible refine with_world (fun u => Hid (∃ X y, X = u4.heap.size ∧ BQ w u ⟨.slice (some ⟨g, o, none⟩) 3 c, vk, .slice (some ⟨gf, of, none⟩) nf cf, vt⟩ ⟨vi, vo, vkk⟩ [((.slice a1 m.ins.length c1 : Value), cellsL r0 m.ins), (.slice a2 m.outs.length c2, cellsL r1 m.outs), (.slice a3 m.keeps.length c3, cellsL r2 m.keeps)] X y (.slice none 0 0))) (BQ.first3 HA.out.1 HA.out.2) ?_)
        | (with_reducible refine with_world (fun u => Hid (∃ X y, X = _ ∧ BQ w u ⟨.slice (some ⟨g, o, none⟩) 3 c, vk, .slice (some ⟨gf, of, none⟩) nf cf, vt⟩ ⟨vi, vo, vkk⟩ [((.slice a1 m.ins.length c1 : Value), cellsL r0 m.ins), (.slice a2 m.outs.length c2, cellsL r1 m.outs), (.slice a3 m.keeps.length c3, cellsL r2 m.keeps)] X y (.slice none 0 0))) (BQ.early3 HA.out.1 HA.out.2 NN.out (by first | omega | (simp only [World.size_drew]; omega))) ?_)
    all_goals
      intro U HQ0
      obtain ⟨X, Y, hX, hq⟩ := HQ0.out
      have HQ : Hid (BQ w U ⟨.slice (some ⟨g, o, none⟩) 3 c, vk, .slice (some ⟨gf, of, none⟩) nf cf, vt⟩ ⟨vi, vo, vkk⟩ [((.slice a1 m.ins.length c1 : Value), cellsL r0 m.ins), (.slice a2 m.outs.length c2, cellsL r1 m.outs), (.slice a3 m.keeps.length c3, cellsL r2 m.keeps)] X Y (.slice none 0 0)) := hq
      rw [← hX]
      clear hX hq HQ0 O1 O2 O3 B1 B2 B3 C2 C3 D0 D1 HA HB HM HR hu1 zz1 zz2 E1 HL KS
      have F1 := (HF.out.keep HQ.out.args.bel).keep (below_drew1 U)
      have kf := (HQ.out.args.pb.keep (below_drew1 U)).cell 2
      have ks := (HQ.out.st.keep (below_drew1 U)).cell 6
      have f0 := F1.i0
      have f1 := F1.i1
      have f2 := F1.i2
      have f3 := F1.i3
      have hpos := F1.pos
      have hbig := F1.big
      simp only [List.getElem?_toArray, List.getElem?_cons_zero, List.getElem?_cons_succ] at kf ks f0 f1 f2 f3
      have HF1 : Hid (Fn0 U.drew (.slice (some ⟨gf, of, none⟩) nf cf) p gf of cf nf f ⟨.slice bp f.params.length dp, .slice bl f.locals.length dl, .slice bc f.code.length dc⟩) := F1
      clear F1
    all_goals
      have HB3 : Hid (BegIs p m (begOf m r0 r1 r2 f)) := by
        obtain ⟨fs, hfs⟩ := HF.out.eq
        exact .inl ⟨HV.out, r0, r1, r2, f, fs, HRE.out, hfs, rfl⟩
      go_wp2_with fail
      go_region_law (first
        | (refine step_append_lies _ rfl (.tmp 35) (.tmp 41) 35 rfl w.heap.size 63 j0 (.agg #[.int .i64 0, .int .i64 0, .int .i64 0, .slice none 0 0]) 4 48 Tryz.underlying35 hj hy0 hy1 hy2 rfl (by decide) (.slice none 0 0) 0 [] (by simp [Act.eval]) (World.ownsRow_nil _ _ _ _) ⟨u5.heap.size, 0, none⟩ 1 1 [.int .i64 0, .int .i64 0, .int .i64 0, .slice az f.locals.length cz] (by simp [Act.eval]) rfl O5.out.2.2 (fun u hu => by simp at hu; rcases hu with rfl | rfl <;> rfl) (by omega) (by unfold maxLen; omega) (by omega) O5.out.1.args.bel.size _ rfl ?_; intro gg cap u8 hown hgrow hat hlt8; have HN : Hid (BR w (u8.setCell ⟨X, 6, none⟩ (.slice (some ⟨gg, 0, none⟩) 1 cap)) ⟨.slice (some ⟨g, o, none⟩) 3 c, vk, .slice (some ⟨gf, of, none⟩) nf cf, vt⟩ ⟨vi, vo, vkk⟩ [((.slice a1 m.ins.length c1 : Value), cellsL r0 m.ins), (.slice a2 m.outs.length c2, cellsL r1 m.outs), (.slice a3 m.keeps.length c3, cellsL r2 m.keeps)] X Y (.slice (some ⟨gg, 0, none⟩) 1 cap) (.slice az f.locals.length cz) (zerosL f.locals)) := begO8 O5.out.1 O5.out.2.1 hgrow hown; have st8 := begS8 O5.out.1 hgrow; have y0' := st8.cell 6; have y1' := st8.frozen 6; simp only [List.getElem?_toArray, List.getElem?_cons_zero, List.getElem?_cons_succ] at y0'; clear hown hgrow hat hlt8 st8)
        | (go_simp; go_at_call 24; refine (l4Frame_any ⟨.slice bp f.params.length dp, .slice bl f.locals.length dl, .slice bc f.code.length dc⟩ f _ HF1.out.small HF1.out.rd).mono ?_; rintro e u5 ⟨az, cz, rfl, own5, b5⟩; have B5 : Hid (Below U.heap.size U u5) := below_drew_trans b5 (Nat.le_refl _); have O5 : Hid (BQ w (u5.alloc (.cells #[.int .i64 0, .int .i64 0, .int .i64 0, .slice az f.locals.length cz] 63)) ⟨.slice (some ⟨g, o, none⟩) 3 c, vk, .slice (some ⟨gf, of, none⟩) nf cf, vt⟩ ⟨vi, vo, vkk⟩ [((.slice a1 m.ins.length c1 : Value), cellsL r0 m.ins), (.slice a2 m.outs.length c2, cellsL r1 m.outs), (.slice a3 m.keeps.length c3, cellsL r2 m.keeps)] X Y (.slice none 0 0) ∧ (u5.alloc (.cells #[.int .i64 0, .int .i64 0, .int .i64 0, .slice az f.locals.length cz] 63)).ownsRow w.heap.size 102 2 (.slice az f.locals.length cz) (zerosL f.locals).length ((zerosL f.locals).flatMap MC.cells) ∧ ∀ j u, [(.int .i64 0 : Value), .int .i64 0, .int .i64 0, .slice az f.locals.length cz][j]? = some u → (u5.alloc (.cells #[.int .i64 0, .int .i64 0, .int .i64 0, .slice az f.locals.length cz] 63)).cell? ((⟨u5.heap.size, 0, none⟩ : Addr).add j) = some u) := (show _ from begO5 HQ.out B5.out own5); have x0 := (HQ.out.keep B5.out).st.cell 6; have x1 := O5.out.1.st.cell 6; simp only [List.getElem?_toArray, List.getElem?_cons_zero, List.getElem?_cons_succ] at x0 x1; clear own5 b5))
    all_goals
      refine with_world (fun u => Hid (BR w u ⟨.slice (some ⟨g, o, none⟩) 3 c, vk, .slice (some ⟨gf, of, none⟩) nf cf, vt⟩ ⟨vi, vo, vkk⟩ [((.slice a1 m.ins.length c1 : Value), cellsL r0 m.ins), (.slice a2 m.outs.length c2, cellsL r1 m.outs), (.slice a3 m.keeps.length c3, cellsL r2 m.keeps)] X Y (.slice (some ⟨gg, 0, none⟩) 1 cap) (.slice az f.locals.length cz) (zerosL f.locals))) HN ?_
      intro U9 HG
      clear HQ HF1 HN kf ks f0 f1 f2 f3
      have hxn : ¬ X = w.heap.size + 1 + 1 := by have := HG.out.q.xge; omega
      have hxm : ¬ w.heap.size + 1 + 1 = X := fun e => hxn e.symm
      have c0' := HG.out.q.st.cell 0
      have c1' := HG.out.q.st.cell 1
      have c2' := HG.out.q.st.cell 2
      have c3' := HG.out.q.st.cell 3
      have c4' := HG.out.q.st.cell 4
      have c5' := HG.out.q.st.cell 5
      have c6' := HG.out.q.st.cell 6
      have d0' := HG.out.q.args.rb.cell 0
      have d1' := HG.out.q.args.rb.cell 1
      have d2' := HG.out.q.args.rb.cell 2
      have d3' := HG.out.q.args.rb.cell 3
      have d4' := HG.out.q.args.rb.cell 4
      have d5' := HG.out.q.args.rb.cell 5
      have d6' := HG.out.q.args.rb.cell 6
      have z0' := HG.out.q.args.rb.frozen 0
      have z1' := HG.out.q.args.rb.frozen 1
      have z2' := HG.out.q.args.rb.frozen 2
      have z3' := HG.out.q.args.rb.frozen 3
      have z4' := HG.out.q.args.rb.frozen 4
      have z5' := HG.out.q.args.rb.frozen 5
      have z6' := HG.out.q.args.rb.frozen 6
      simp only [List.getElem?_toArray, List.getElem?_cons_zero, List.getElem?_cons_succ] at c0' c1' c2' c3' c4' c5' c6' d0' d1' d2' d3' d4' d5' d6'
      go_wp2_with fail
      have R0 := HG.out.q.args.rb.set 0 (.int .i64 0)
      have R1 := R0.set 1 (.bool false)
      have R2 := R1.set 2 (.int .i64 0)
      have R3 := R2.set 3 (.int .i64 0)
      have R4 := R3.set 4 (.slice (some ⟨Y, 0, none⟩) 3 3)
      have R5 := R4.set 5 (.slice none 0 0)
      have R6 := R5.set 6 (.slice (some ⟨gg, 0, none⟩) 1 cap)
      have q0 := R6.cell 0
      have q1 := R6.cell 1
      have q2 := R6.cell 2
      have q3 := R6.cell 3
      have q4 := R6.cell 4
      have q5 := R6.cell 5
      have q6 := R6.cell 6
      simp at q0 q1 q2 q3 q4 q5 q6
      exact bodyPost_ret (v := .agg #[.int .i64 0, .bool false, .int .i64 0, .int .i64 0, .slice (some ⟨Y, 0, none⟩) 3 3, .slice none 0 0, .slice (some ⟨gg, 0, none⟩) 1 cap]) (by simp [results, Tryz.results6, go_sem, q0, q1, q2, q3, q4, q5, q6]) rfl ⟨begOf m r0 r1 r2 f, ⟨.slice (some ⟨Y, 0, none⟩) 3 3, .slice none 0 0, .slice (some ⟨gg, 0, none⟩) 1 cap⟩, rfl, HB3.out, (((((((HG.out.own.setSt HG.out.q.args.rb 0 (.int .i64 0)).setSt R0 1 (.bool false)).setSt R1 2 (.int .i64 0)).setSt R2 3 (.int .i64 0)).setSt R3 4 (.slice (some ⟨Y, 0, none⟩) 3 3)).setSt R4 5 (.slice none 0 0)).setSt R5 6 (.slice (some ⟨gg, 0, none⟩) 1 cap)), (((((((HG.out.q.args.bel.setCell (by simp only []; omega) _).setCell (by simp only []; omega) _).setCell (by simp only []; omega) _).setCell (by simp only []; omega) _).setCell (by simp only []; omega) _).setCell (by simp only []; omega) _).setCell (by simp only []; omega) _)⟩
end Go.Proofs.YtkpajiahpmdobaaGreat
