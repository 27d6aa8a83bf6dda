import Derived.Test.YtalkpddhpmjgcaaGreatCm21
import Derived.Test.YtalkpddhpmjgcaaGreatCm7
import Derived.Deep.CutBlock
namespace Go.Proofs.YtalkpddhpmjgcaaGreat
open Go.ChangeShapes Go.WideShapes Go.ChangeAt Go.RowKit
set_option linter.unusedVariables false
theorem Gn.put_put (g : Gn) (xs ys : List MI) : (g.put xs).put ys = g.put (xs ++ ys) := by simp [Gn.put, List.append_assoc]
section
variable {w u u' : World} {v : VP} {F : List (List Int × Value)} {G : List (MF × VF)} {P Gb : Nat} {fn : Int} {vc : Value} {g : Gn} {D : List RowI}
/-- An open instruction lands. -/
theorem SG.land {gc n cap : Nat} (h : SG w u v F G P Gb fn (.slice (some ⟨gc, 0, none⟩) n cap) g D) (hn : g.code.length = n) (i : Nat) (hi : i < n) : SG w (u.setCell ⟨gc, i * 4 + 3, none⟩ (.int .i64 (n : Int))) v F G P Gb fn (.slice (some ⟨gc, 0, none⟩) n cap) (g.land i) D ∧ (∃ z, u.cell? ⟨gc, i * 4 + 3, none⟩ = some (.int .i64 z)) ∧ u.frozen? ⟨gc, i * 4 + 3, none⟩ = false := by
  have ho := h.bl.nrow.2
  rw [hn] at ho
  refine ⟨⟨h.bl.set_n (g := gc) (n := n) (cap := cap) (by rw [hn]) (landL_length _ _) (i * 4 + 3) _ (by rw [← hn]; exact land_cells g.code i (by omega))⟩, ?_, ho.frozenAt _⟩
  have hx : g.code[i]? = some g.code[i] := List.getElem?_eq_getElem (by omega)
  rcases (Rd.of_own ho).2 with ⟨e, _⟩ | ⟨g', o', c', e, hc⟩
  · omega
  · simp only [Value.slice.injEq, Option.some.injEq, Addr.mk.injEq, true_and, and_true] at e
    obtain ⟨⟨rfl, rfl⟩, rfl⟩ := e
    have := Rd.elem MI.cells_length hc i _ hx 3 _ rfl
    exact ⟨g.code[i].c, by simpa using this⟩
/-- A statement's own block. -/
def sbx (X : Nat) (k a b : Int) (vb ve : Value) : RowI := bRow X 54 5 [.int .i64 k, .int .i64 a, .int .i64 b, vb, ve]
theorem SG.box (h : SG w u v F G P Gb fn vc g D) (k a b : Int) (vb ve : Value) : SG w (u.alloc (.cells #[.int .i64 k, .int .i64 a, .int .i64 b, vb, ve] 54)) v F G P Gb fn vc g (D ++ [sbx u.heap.size k a b vb ve]) := by
  have := h.bl.box 54 5 [.int .i64 k, .int .i64 a, .int .i64 b, vb, ve] rfl
  rw [← pItems_app] at this
  exact ⟨this⟩
theorem SG.unbox {r : RowI} (h : SG w u v F G P Gb fn vc g (D ++ [r])) : SG w u v F G P Gb fn vc g D := ⟨h.bl.sub (by
  rw [show nRow vc g.code :: gb P v :: sgb P Gb fn vc :: (D ++ [r]) = (nRow vc g.code :: gb P v :: sgb P Gb fn vc :: D) ++ [r] by simp, pItems_app]
  exact List.sublist_append_left _ _)⟩
theorem SG.xcell {X : Nat} {k a b : Int} {vb ve : Value} (h : SG w u v F G P Gb fn vc g (D ++ [sbx X k a b vb ve])) : u.cell? ⟨X, 0, none⟩ = some (.int .i64 k) ∧ u.cell? ⟨X, 1, none⟩ = some (.int .i64 a) ∧ u.cell? ⟨X, 2, none⟩ = some (.int .i64 b) ∧ u.cell? ⟨X, 3, none⟩ = some vb ∧ u.cell? ⟨X, 4, none⟩ = some ve :=
  have hm : sbx X k a b vb ve ∈ pItems v F g.consts G g.certs (nRow vc g.code :: gb P v :: sgb P Gb fn vc :: (D ++ [sbx X k a b vb ve])) := pItems_in (by simp)
  ⟨h.bl.cell hm 0 (by omega), h.bl.cell hm 1 (by omega), h.bl.cell hm 2 (by omega), h.bl.cell hm 3 (by omega), h.bl.cell hm 4 (by omega)⟩
end
/-- What l10List leaves. -/
def LiRes (w : World) (F : List (List Int × Value)) (G : List (MF × VF)) (P Gb : Nat) (fn : Int) (g' : Gn) (D : List RowI) (e : Ending) (u' : World) : Prop := e = .returned (.tuple #[]) ∧ ∃ v' vc', SG w u' v' F G P Gb fn vc' g' D
/-- What l10List is asked for. -/
def LiIs (n : Nat) : Prop := ∀ (w u : World) (v : VP) (F : List (List Int × Value)) (G : List (MF × VF)) (P Gb : Nat) (fn : Int) (vc : Value) (g : Gn) (D : List RowI) (s : Value) (t : TL n) (lev : Nat) (li : Int), li = (lev : Int) → SG w u v F G P Gb fn vc g D → RdT w n s t → allOkT n t → g.code.length + 5 * sizeT n t ≤ 100000 → g.consts.length + sizeT n t ≤ 100000 → g.certs.length + sizeT n t ≤ 100000 → lev + sizeT n t ≤ 100000 → Calls Tryz.prog 42 #[.pointer (some ⟨Gb, 0, none⟩), s, .int .i64 li] u (LiRes w F G P Gb fn (genT n fn t lev g) D)
set_option maxHeartbeats 2000000 in
set_option maxRecDepth 100000 in
theorem l10List_none (w u : World) (v : VP) (F : List (List Int × Value)) (G : List (MF × VF)) (P Gb : Nat) (fn : Int) (vc : Value) (g : Gn) (D : List RowI) (a : Option Addr) (c : Nat) (lev : Nat) (h : SG w u v F G P Gb fn vc g D) : Calls Tryz.prog 42 #[.pointer (some ⟨Gb, 0, none⟩), .slice a 0 c, .int .i64 (lev : Int)] u (LiRes w F G P Gb fn g D) := by
  have H : Hid (SG w u v F G P Gb fn vc g D) := h
  clear h
  go_enter Tryz.func42, Tryz.ntmps42
  go_wp2_with fail
  go_loopw [6, 7, 8, 9, 10] (fun i _ _ _ _ wr => i = .int .i64 0 ∧ wr = u) (fun _ _ _ _ _ _ => 0)
  case atStart => exact ⟨rfl, rfl⟩
  case round =>
    obtain ⟨rfl, rfl⟩ := hrel
    go_wp2_with fail
    refine bodyPost_end (v := .tuple #[]) (by kernel_rfl) rfl ?_
    exact ⟨rfl, _, _, H.out⟩
set_option maxHeartbeats 8000000 in
set_option maxRecDepth 100000 in
theorem l10List_succ (n : Nat) (ih : LiIs n) (w u : World) (v : VP) (F : List (List Int × Value)) (G : List (MF × VF)) (P Gb : Nat) (fn : Int) (vc : Value) (g : Gn) (D : List RowI) (s : Value) (l : List (SS (TL n))) (lev : Nat) (h : SG w u v F G P Gb fn vc g D) (hr : RdT w (n + 1) s l) (hok : allOkT (n + 1) l) (h1 : g.code.length + 5 * sizeT (n + 1) l ≤ 100000) (h2 : g.consts.length + sizeT (n + 1) l ≤ 100000) (h3 : g.certs.length + sizeT (n + 1) l ≤ 100000) (h4 : lev + sizeT (n + 1) l ≤ 100000) : Calls Tryz.prog 42 #[.pointer (some ⟨Gb, 0, none⟩), s, .int .i64 (lev : Int)] u (LiRes w F G P Gb fn (genT (n + 1) fn l lev g) D) := by
  obtain ⟨iT, hiT, hT0, hT1, hT2⟩ := info_parts infoT
  have HI : Hid (LiIs n) := ih
  obtain ⟨a1, c1, e1⟩ : ∃ a c, s = .slice a l.length c := hr.is_slice
  subst e1
  have H : Hid (RdT w (n + 1) (.slice a1 l.length c1) l ∧ allOkT (n + 1) l ∧ g.code.length + 5 * sizeT (n + 1) l ≤ 100000 ∧ g.consts.length + sizeT (n + 1) l ≤ 100000 ∧ g.certs.length + sizeT (n + 1) l ≤ 100000 ∧ lev + sizeT (n + 1) l ≤ 100000) := ⟨hr, hok, h1, h2, h3, h4⟩
  have H0 : Hid (SG w u v F G P Gb fn vc g D) := h
  have hL : l.length ≤ 1048576 := by have := len_le_size (n + 1) l; have e : lenT (n + 1) l = l.length := rfl; omega
  have hlev : lev ≤ 100000 := by omega
  clear h hr ih hok h1 h2 h3 h4
  generalize hLL : l.length = L at H hL ⊢
  have HL : Hid (l.length = L) := hLL
  clear hLL
  go_enter Tryz.func42, Tryz.ntmps42
  go_wp2_with fail
  go_loopw [6, 7, 8, 9, 10] (fun i _ _ _ _ wr => ∃ (k : Nat) (v' : VP) (vc' : Value), k ≤ L ∧ i = .int .i64 k ∧ Hid (SG w wr v' F G P Gb fn vc' (genN n fn l lev k g) D)) (fun i _ _ _ _ _ => L - (intOf i).toNat)
  case atStart => exact ⟨0, v, vc, by omega, rfl, H0.out⟩
  case round =>
    clear H0
    clear v vc
    obtain ⟨k, v, vc, hk, rfl, HK⟩ := hrel
    by_cases hlt : k < L
    · obtain ⟨x, hx⟩ : ∃ x, l[k]? = some x := ⟨_, List.getElem?_eq_getElem (by rw [HL.out]; exact hlt)⟩
      have hbw : Below w.heap.size w wr := HK.out.bl.bel
      obtain ⟨gl, ol, cl, vb, ve, e1, i0, i1, i2, i3, i4, rb, re⟩ := H.out.1.elem hx
      rw [HL.out] at e1
      simp only [Value.slice.injEq, true_and] at e1
      obtain ⟨rfl, rfl⟩ := e1
      rw [← hbw.cell (block_lt_of_cell i0)] at i0
      rw [← hbw.cell (block_lt_of_cell i1)] at i1
      rw [← hbw.cell (block_lt_of_cell i2)] at i2
      rw [← hbw.cell (block_lt_of_cell i3)] at i3
      rw [← hbw.cell (block_lt_of_cell i4)] at i4
      obtain ⟨ab, cb, eb⟩ := rb.is_slice
      obtain ⟨ae, ce, ee⟩ := re.is_slice
      subst eb ee
      have hgl := genN_le fn (genT_le n fn) l lev g k (by rw [HL.out]; omega)
      have hsn := sumT_next hx
      have hsl := sumT_le (n := n) (l := l) (k + 1)
      have hxo := H.out.2.1 x (List.mem_of_getElem? hx)
      have HX : Hid (RdT w n (.slice ab (lenT n x.body) cb) x.body ∧ RdT w n (.slice ae (lenT n x.els) ce) x.els ∧ allOkT n x.body ∧ allOkT n x.els) := ⟨rb, re, hxo.2.1, hxo.2.2⟩
      have HXO : Hid (okS x.k x.a x.b (lenT n x.body) (lenT n x.els)) := hxo.1
      generalize hg0 : genN n fn l lev k g = g0 at HK hgl
      have HGN : Hid (genN n fn l lev (k + 1) g = genS n fn (genT n fn) x lev g0) := by
        show genN n fn l lev (k + 1) g = _
        rw [genN_next hx, hg0]
      have HSZ : Hid (g0.code.length + 5 * (1 + sizeT n x.body + sizeT n x.els) ≤ 100000 ∧ g0.consts.length + (1 + sizeT n x.body + sizeT n x.els) ≤ 100000 ∧ g0.certs.length + (1 + sizeT n x.body + sizeT n x.els) ≤ 100000 ∧ lev + (1 + sizeT n x.body + sizeT n x.els) ≤ 100000) := by
        have a1 := hgl.code
        have a2 := hgl.consts
        have a3 := hgl.certs
        have b := H.out.2.2
        have e := HL.out
        refine ⟨?_, ?_, ?_, ?_⟩ <;> omega
      have hE : Hid (SG w (wr.alloc (.cells #[.int .i64 x.k, .int .i64 x.a, .int .i64 x.b, .slice ab (lenT n x.body) cb, .slice ae (lenT n x.els) ce] 54)) v F G P Gb fn vc g0 (D ++ [sbx wr.heap.size x.k x.a x.b (.slice ab (lenT n x.body) cb) (.slice ae (lenT n x.els) ce)])) := HK.out.box _ _ _ _ _
      clear rb re hx hsn hsl hbw hxo hgl hg0
      generalize lenT n x.body = lb at HX HXO hE i3 ⊢
      generalize lenT n x.els = le at HX HXO hE i4 ⊢
      go_upto_region 4 with fail
      clear i0 i1 i2 i3 i4 HK
      generalize wr.heap.size = X at hE ⊢
      refine wp_world (fun U => Hid (SG w U v F G P Gb fn vc g0 (D ++ [sbx X x.k x.a x.b (.slice ab lb cb) (.slice ae le ce)]))) hE ?_
      rintro U E0
      clear hE
      have hcase : x.k = 1 ∨ x.k = 2 ∨ (x.k = 3 ∧ 0 ≤ x.b ∧ x.b < 256) ∨ (x.k = 4 ∧ 0 ≤ x.a ∧ x.a < 8) := by
        have hK := HXO.out
        unfold okS at hK
        omega
      clear HXO
      generalize hDD : D ++ [sbx X x.k x.a x.b (.slice ab lb cb) (.slice ae le ce)] = DD at E0
      have HXC : Hid (∀ (u' : World) (v' : VP) (vc' : Value) (g' : Gn), SG w u' v' F G P Gb fn vc' g' DD → (u'.cell? ⟨X, 0, none⟩ = some (.int .i64 x.k) ∧ u'.cell? ⟨X, 1, none⟩ = some (.int .i64 x.a) ∧ u'.cell? ⟨X, 2, none⟩ = some (.int .i64 x.b) ∧ u'.cell? ⟨X, 3, none⟩ = some (.slice ab lb cb) ∧ u'.cell? ⟨X, 4, none⟩ = some (.slice ae le ce)) ∧ SG w u' v' F G P Gb fn vc' g' D) := fun u' v' vc' g' hh => by
        rw [← hDD] at hh
        exact ⟨hh.xcell, hh.unbox⟩
      have HXG0 : Hid (∀ (u' : World) {v1 : VP} {cs : List MC} {ts : List MT} {v2 : VP} {vc' : Value} {cd : List MI}, Bl w u' (pItems v1 F cs G ts (nRow vc' cd :: gb P v2 :: sgb P Gb fn vc' :: DD)) → u'.cell? ⟨X, 2, none⟩ = some (.int .i64 x.b)) := fun u' v1 cs ts v2 vc' cd hh => by
        rw [← hDD] at hh
        exact hh.cell (pItems_in (show sbx X x.k x.a x.b (.slice ab lb cb) (.slice ae le ce) ∈ _ by simp)) 2 (by omega)
      clear hDD
      have hg5 : g0.code.length ≤ 100000 ∧ g0.consts.length ≤ 100000 ∧ g0.certs.length ≤ 100000 := by have := HSZ.out; omega
      have HG5 : Hid (g0.code.length ≤ 100000 ∧ g0.consts.length ≤ 100000 ∧ g0.certs.length ≤ 100000) := hg5
      clear hg5
      obtain ⟨x0, x1, x2, x3, x4⟩ := (HXC.out _ _ _ _ E0.out).1
      rcases hcase with hk1 | hk2 | ⟨hk3, hb0, hb1⟩ | ⟨hk4, hb0, hb1⟩
      · skip
        generalize hU0 : U = U0 at E0 x0 x1 x2 x3 x4 ⊢
        clear hU0
        generalize hvc0 : vc = vc0 at E0
        clear hvc0
        have HB0 : Hid ((g0 = g0 ∧ g0.code.length = g0.code.length) ∧ g0.code.length ≤ g0.code.length + 0 ∧ g0.consts.length = g0.consts.length ∧ g0.certs.length = g0.certs.length) := ⟨⟨rfl, rfl⟩, by omega, rfl, rfl⟩
        have KK : Hid (x.k = 1) := hk1
        have e1 : (x.k == 1) = true := by rw [hk1]; rfl
        clear hk1
        go_wp2_with fail
        refine (l10Put_any w U0 v F G P Gb fn vc0 g0 DD 4 2 x.a 0 E0.out (by have := HB0.out; have := HSZ.out; omega)).mono ?_
        rintro e U1 ⟨rfl, vc1, hh⟩
        generalize hgg : g0.put [⟨4, 2, x.a, 0⟩] = g1 at hh
        have HB1 : Hid ((g0.put [⟨4, 2, x.a, 0⟩] = g1 ∧ g1.code.length = g0.code.length + 1) ∧ g1.code.length ≤ g0.code.length + 1 ∧ g1.consts.length = g0.consts.length ∧ g1.certs.length = g0.certs.length) := by
          have hb := HB0.out
          have hc : g1.code.length = g0.code.length + 1 := by rw [← hgg, Gn.put_len]; rfl
          exact ⟨⟨hgg, hc⟩, by omega, by rw [← hgg]; rfl, by rw [← hgg]; rfl⟩
        have E1 : Hid (SG w U1 v F G P Gb fn vc1 g1 DD) := hh
        clear hgg hh E0 x0 x1 x2 x3 x4
        obtain ⟨x0, x1, x2, x3, x4⟩ := (HXC.out _ _ _ _ E1.out).1
        go_wp2_with fail
        refine (l10Put_any w U1 v F G P Gb fn vc1 g1 DD 4 2 x.b 0 E1.out (by have := HB1.out; have := HSZ.out; omega)).mono ?_
        rintro e U2 ⟨rfl, vc2, hh⟩
        generalize hgg : g1.put [⟨4, 2, x.b, 0⟩] = g2 at hh
        have HB2 : Hid ((g1.put [⟨4, 2, x.b, 0⟩] = g2 ∧ g2.code.length = g1.code.length + 1) ∧ g2.code.length ≤ g0.code.length + 2 ∧ g2.consts.length = g1.consts.length ∧ g2.certs.length = g1.certs.length) := by
          have hb := HB1.out
          have hc : g2.code.length = g1.code.length + 1 := by rw [← hgg, Gn.put_len]; rfl
          exact ⟨⟨hgg, hc⟩, by omega, by rw [← hgg]; rfl, by rw [← hgg]; rfl⟩
        have E2 : Hid (SG w U2 v F G P Gb fn vc2 g2 DD) := hh
        clear hgg hh E1 x0 x1 x2 x3 x4
        obtain ⟨x0, x1, x2, x3, x4⟩ := (HXC.out _ _ _ _ E2.out).1
        go_wp2_with fail
        refine (l10Put_any w U2 v F G P Gb fn vc2 g2 DD 8 3 0 0 E2.out (by have := HB2.out; have := HSZ.out; omega)).mono ?_
        rintro e U3 ⟨rfl, vc3, hh⟩
        generalize hgg : g2.put [⟨8, 3, 0, 0⟩] = g3 at hh
        have HB3 : Hid ((g2.put [⟨8, 3, 0, 0⟩] = g3 ∧ g3.code.length = g2.code.length + 1) ∧ g3.code.length ≤ g0.code.length + 3 ∧ g3.consts.length = g2.consts.length ∧ g3.certs.length = g2.certs.length) := by
          have hb := HB2.out
          have hc : g3.code.length = g2.code.length + 1 := by rw [← hgg, Gn.put_len]; rfl
          exact ⟨⟨hgg, hc⟩, by omega, by rw [← hgg]; rfl, by rw [← hgg]; rfl⟩
        have E3 : Hid (SG w U3 v F G P Gb fn vc3 g3 DD) := hh
        clear hgg hh E2 x0 x1 x2 x3 x4
        obtain ⟨x0, x1, x2, x3, x4⟩ := (HXC.out _ _ _ _ E3.out).1
        go_wp2_with fail
        refine (l10Put_any w U3 v F G P Gb fn vc3 g3 DD 5 2 x.a 0 E3.out (by have := HB3.out; have := HSZ.out; omega)).mono ?_
        rintro e U4 ⟨rfl, vc4, hh⟩
        generalize hgg : g3.put [⟨5, 2, x.a, 0⟩] = g4 at hh
        have HB4 : Hid ((g3.put [⟨5, 2, x.a, 0⟩] = g4 ∧ g4.code.length = g3.code.length + 1) ∧ g4.code.length ≤ g0.code.length + 4 ∧ g4.consts.length = g3.consts.length ∧ g4.certs.length = g3.certs.length) := by
          have hb := HB3.out
          have hc : g4.code.length = g3.code.length + 1 := by rw [← hgg, Gn.put_len]; rfl
          exact ⟨⟨hgg, hc⟩, by omega, by rw [← hgg]; rfl, by rw [← hgg]; rfl⟩
        have E4 : Hid (SG w U4 v F G P Gb fn vc4 g4 DD) := hh
        clear hgg hh E3 x0 x1 x2 x3 x4
        obtain ⟨x0, x1, x2, x3, x4⟩ := (HXC.out _ _ _ _ E4.out).1
        have HF : Hid (SG w U4 v F G P Gb fn vc4 (genN n fn l lev (k + 1) g) D) := by
          have e : genN n fn l lev (k + 1) g = g4 := by
            rw [HGN.out]
            unfold genS
            rw [if_pos KK.out, ← HB4.out.1.1, ← HB3.out.1.1, ← HB2.out.1.1, ← HB1.out.1.1]
            simp [Gn.put_put, ldK]
          show SG w U4 v F G P Gb fn vc4 (genN n fn l lev (k + 1) g) D
          rw [e]
          exact (HXC.out _ _ _ _ E4.out).2
        clear x0 x1 x2 x3 x4 E4
        go_wp2_with fail
        go_roundw
        case rel => exact ⟨k + 1, _, _, by omega, by go_num, HF⟩
        case measure => simp [intOf]; omega
      · skip
        generalize hU0 : U = U0 at E0 x0 x1 x2 x3 x4 ⊢
        clear hU0
        generalize hvc0 : vc = vc0 at E0
        clear hvc0
        have HB0 : Hid ((g0 = g0 ∧ g0.code.length = g0.code.length) ∧ g0.code.length ≤ g0.code.length + 0 ∧ g0.consts.length = g0.consts.length ∧ g0.certs.length = g0.certs.length) := ⟨⟨rfl, rfl⟩, by omega, rfl, rfl⟩
        have KK : Hid (x.k = 2) := hk2
        have e1 : (x.k == 1) = false := by rw [hk2]; rfl
        have e2 : (x.k == 2) = true := by rw [hk2]; rfl
        clear hk2
        go_wp2_with fail
        refine (l10Put_any w U0 v F G P Gb fn vc0 g0 DD 4 2 x.a 0 E0.out (by have := HB0.out; have := HSZ.out; omega)).mono ?_
        rintro e U1 ⟨rfl, vc1, hh⟩
        generalize hgg : g0.put [⟨4, 2, x.a, 0⟩] = g1 at hh
        have HB1 : Hid ((g0.put [⟨4, 2, x.a, 0⟩] = g1 ∧ g1.code.length = g0.code.length + 1) ∧ g1.code.length ≤ g0.code.length + 1 ∧ g1.consts.length = g0.consts.length ∧ g1.certs.length = g0.certs.length) := by
          have hb := HB0.out
          have hc : g1.code.length = g0.code.length + 1 := by rw [← hgg, Gn.put_len]; rfl
          exact ⟨⟨hgg, hc⟩, by omega, by rw [← hgg]; rfl, by rw [← hgg]; rfl⟩
        have E1 : Hid (SG w U1 v F G P Gb fn vc1 g1 DD) := hh
        clear hgg hh E0 x0 x1 x2 x3 x4
        obtain ⟨x0, x1, x2, x3, x4⟩ := (HXC.out _ _ _ _ E1.out).1
        go_wp2_with fail
        refine (l10Put_any w U1 v F G P Gb fn vc1 g1 DD 4 2 x.b 0 E1.out (by have := HB1.out; have := HSZ.out; omega)).mono ?_
        rintro e U2 ⟨rfl, vc2, hh⟩
        generalize hgg : g1.put [⟨4, 2, x.b, 0⟩] = g2 at hh
        have HB2 : Hid ((g1.put [⟨4, 2, x.b, 0⟩] = g2 ∧ g2.code.length = g1.code.length + 1) ∧ g2.code.length ≤ g0.code.length + 2 ∧ g2.consts.length = g1.consts.length ∧ g2.certs.length = g1.certs.length) := by
          have hb := HB1.out
          have hc : g2.code.length = g1.code.length + 1 := by rw [← hgg, Gn.put_len]; rfl
          exact ⟨⟨hgg, hc⟩, by omega, by rw [← hgg]; rfl, by rw [← hgg]; rfl⟩
        have E2 : Hid (SG w U2 v F G P Gb fn vc2 g2 DD) := hh
        clear hgg hh E1 x0 x1 x2 x3 x4
        obtain ⟨x0, x1, x2, x3, x4⟩ := (HXC.out _ _ _ _ E2.out).1
        go_wp2_with fail
        refine (l10Put_any w U2 v F G P Gb fn vc2 g2 DD 21 3 0 0 E2.out (by have := HB2.out; have := HSZ.out; omega)).mono ?_
        rintro e U3 ⟨rfl, vc3, hh⟩
        generalize hgg : g2.put [⟨21, 3, 0, 0⟩] = g3 at hh
        have HB3 : Hid ((g2.put [⟨21, 3, 0, 0⟩] = g3 ∧ g3.code.length = g2.code.length + 1) ∧ g3.code.length ≤ g0.code.length + 3 ∧ g3.consts.length = g2.consts.length ∧ g3.certs.length = g2.certs.length) := by
          have hb := HB2.out
          have hc : g3.code.length = g2.code.length + 1 := by rw [← hgg, Gn.put_len]; rfl
          exact ⟨⟨hgg, hc⟩, by omega, by rw [← hgg]; rfl, by rw [← hgg]; rfl⟩
        have E3 : Hid (SG w U3 v F G P Gb fn vc3 g3 DD) := hh
        clear hgg hh E2 x0 x1 x2 x3 x4
        obtain ⟨x0, x1, x2, x3, x4⟩ := (HXC.out _ _ _ _ E3.out).1
        go_wp2_with fail
        refine (l10Put_any w U3 v F G P Gb fn vc3 g3 DD 26 0 0 0 E3.out (by have := HB3.out; have := HSZ.out; omega)).mono ?_
        rintro e U4 ⟨rfl, vc4, hh⟩
        generalize hgg : g3.put [⟨26, 0, 0, 0⟩] = g4 at hh
        have HB4 : Hid ((g3.put [⟨26, 0, 0, 0⟩] = g4 ∧ g4.code.length = g3.code.length + 1) ∧ g4.code.length ≤ g0.code.length + 4 ∧ g4.consts.length = g3.consts.length ∧ g4.certs.length = g3.certs.length) := by
          have hb := HB3.out
          have hc : g4.code.length = g3.code.length + 1 := by rw [← hgg, Gn.put_len]; rfl
          exact ⟨⟨hgg, hc⟩, by omega, by rw [← hgg]; rfl, by rw [← hgg]; rfl⟩
        have E4 : Hid (SG w U4 v F G P Gb fn vc4 g4 DD) := hh
        clear hgg hh E3 x0 x1 x2 x3 x4
        obtain ⟨x0, x1, x2, x3, x4⟩ := (HXC.out _ _ _ _ E4.out).1
        generalize hno : g3.code.length = no
        have HNO : Hid (g3.code.length = no) := hno
        clear hno
        go_wp2_with fail
        refine (HI.out w U4 v F G P Gb fn vc4 g4 DD (.slice ab lb cb) x.body lev _ rfl E4.out HX.out.1 HX.out.2.2.1 (by have := HB1.out; have := HB2.out; have := HB3.out; have := HB4.out; have := HSZ.out; omega) (by have := HB1.out; have := HB2.out; have := HB3.out; have := HB4.out; have := HSZ.out; omega) (by have := HB1.out; have := HB2.out; have := HB3.out; have := HB4.out; have := HSZ.out; omega) (by have := HSZ.out; omega)).mono ?_
        rintro e U5 ⟨rfl, v1, vc5, hh⟩
        have hle := genT_le n fn x.body lev g4
        have hge := genT_len n fn x.body lev g4
        generalize hgg : genT n fn x.body lev g4 = g5 at hh hle hge
        have HB5 : Hid ((genT n fn x.body lev g4 = g5 ∧ g4.code.length ≤ g5.code.length) ∧ g5.code.length ≤ g0.code.length + (4 + 5 * sizeT n x.body) ∧ g5.consts.length ≤ g0.consts.length + sizeT n x.body ∧ g5.certs.length ≤ g0.certs.length + sizeT n x.body) := by
          have hb1 := HB1.out
          have hb2 := HB2.out
          have hb3 := HB3.out
          have hb4 := HB4.out
          have h1 := hle.code
          have h2 := hle.consts
          have h3 := hle.certs
          exact ⟨⟨hgg, hge⟩, by omega, by omega, by omega⟩
        have E5 : Hid (SG w U5 v1 F G P Gb fn vc5 g5 DD) := hh
        clear hgg hh hle hge E4 x0 x1 x2 x3 x4
        obtain ⟨x0, x1, x2, x3, x4⟩ := (HXC.out _ _ _ _ E5.out).1
        go_wp2_with fail
        refine (l10Put_any w U5 v1 F G P Gb fn vc5 g5 DD 25 0 0 0 E5.out (by have := HB5.out; have := HSZ.out; omega)).mono ?_
        rintro e U6 ⟨rfl, vc6, hh⟩
        generalize hgg : g5.put [⟨25, 0, 0, 0⟩] = g6 at hh
        have HB6 : Hid ((g5.put [⟨25, 0, 0, 0⟩] = g6 ∧ g6.code.length = g5.code.length + 1) ∧ g6.code.length ≤ g0.code.length + (5 + 5 * sizeT n x.body) ∧ g6.consts.length = g5.consts.length ∧ g6.certs.length = g5.certs.length) := by
          have hb := HB5.out
          have hc : g6.code.length = g5.code.length + 1 := by rw [← hgg, Gn.put_len]; rfl
          exact ⟨⟨hgg, hc⟩, by omega, by rw [← hgg]; rfl, by rw [← hgg]; rfl⟩
        have E6 : Hid (SG w U6 v1 F G P Gb fn vc6 g6 DD) := hh
        clear hgg hh E5 x0 x1 x2 x3 x4
        obtain ⟨x0, x1, x2, x3, x4⟩ := (HXC.out _ _ _ _ E6.out).1
        generalize hen : g5.code.length = en
        have HEN : Hid (g5.code.length = en) := hen
        clear hen
        obtain ⟨⟨al, cl, el⟩, ol⟩ := E6.out.bl.nrow
        have hlt6 : no < g6.code.length := (by have a := HNO.out; have b := HB4.out.1.2; have c := HB5.out.1.2; have d := HB6.out.1.2; omega)
        obtain ⟨gc, oc, hgc⟩ : ∃ gc oc, al = some ⟨gc, 0, none⟩ := by
          rcases own_row ol with ⟨e, e2⟩ | ⟨gc, cc, e⟩
          · omega
          · rw [el] at e
            simp only [Value.slice.injEq, true_and] at e
            exact ⟨gc, cc, e.1⟩
        subst hgc el
        clear ol oc
        generalize hm : g6.code.length = m at E6 hlt6
        have HM6 : Hid (g6.code.length = m) := hm
        clear hm
        have hm5 : m ≤ 100001 := by have a := HB6.out; have b := HM6.out; have := HSZ.out; omega
        obtain ⟨_, _, q2⟩ := E6.out.cells
        have LD : Hid (SG w (U6.drew.setCell ⟨gc, no * 4 + 3, none⟩ (.int .i64 (m : Int))) v1 F G P Gb fn (.slice (some ⟨gc, 0, none⟩) m cl) (g6.land no) DD ∧ (∃ z, U6.drew.cell? ⟨gc, no * 4 + 3, none⟩ = some (.int .i64 z)) ∧ U6.drew.frozen? ⟨gc, no * 4 + 3, none⟩ = false) := (E6.out.keep (below_drew1 _)).land HM6.out no hlt6
        go_upto_region 17 with fail
        refine wp_region_held_drew (S := fun W => W.cell? ⟨Gb, 2, none⟩ = some (.slice (some ⟨gc, 0, none⟩) m cl)) (by kernel_rfl) (by exact (E6.out.keep (below_drew1 _)).cells.2.2) (fun hHeld => ?_)
        obtain ⟨zz, l1⟩ := LD.out.2.1
        have l2 := LD.out.2.2
        have QD : Hid ((U6.drew.setCell ⟨gc, no * 4 + 3, none⟩ (.int .i64 (m : Int))).cell? ⟨Gb, 2, none⟩ = some (.slice (some ⟨gc, 0, none⟩) m cl)) := LD.out.1.cells.2.2
        have LE : Hid (SG w (U6.drew.setCell ⟨gc, no * 4 + 3, none⟩ (.int .i64 (m : Int))) v1 F G P Gb fn (.slice (some ⟨gc, 0, none⟩) m cl) (g6.land no) DD) := LD.out.1
        clear LD q2 x0 x1 x2 x3 x4
        generalize U6.drew = UD at *
        refine wpAnyH_take (i := 0) (v := ?_) rfl (by kernel_rfl) (by kernel_rfl) (by kernel_rfl) (fun _ _ _ h => h) (Or.inl ⟨by rfl, ?_⟩) (by assumption) ?_
        rotate_left
        · (intro w hSw; (try dsimp only at hSw); (try obtain ⟨hSa, hSb, hSc, hSd⟩ := hSw); (try obtain ⟨hSa, hSb, hSc⟩ := hSw); (try obtain ⟨hSa, hSb⟩ := hSw); go_simp; (try with_reducible rfl))
        refine wpAnyH_take (i := 1) (v := ?_) rfl (by kernel_rfl) (by kernel_rfl) (by kernel_rfl) (fun _ _ _ h => h) (Or.inl ⟨by rfl, ?_⟩) (by assumption) ?_
        rotate_left
        · (intro w hSw; (try dsimp only at hSw); (try obtain ⟨hSa, hSb, hSc, hSd⟩ := hSw); (try obtain ⟨hSa, hSb, hSc⟩ := hSw); (try obtain ⟨hSa, hSb⟩ := hSw); go_simp; (try with_reducible rfl))
        refine wpAnyH_take (i := 2) (v := ?_) rfl (by kernel_rfl) (by kernel_rfl) (by kernel_rfl) (fun _ _ _ h => h) (Or.inl ⟨by rfl, ?_⟩) (by assumption) ?_
        rotate_left
        · (intro w hSw; (try dsimp only at hSw); (try obtain ⟨hSa, hSb, hSc, hSd⟩ := hSw); (try obtain ⟨hSa, hSb, hSc⟩ := hSw); (try obtain ⟨hSa, hSb⟩ := hSw); go_simp; (try with_reducible rfl))
        refine wpAnyH_take (i := 3) (v := ?_) rfl (by kernel_rfl) (by kernel_rfl) (by kernel_rfl) (fun _ _ _ h => h) (Or.inl ⟨by rfl, ?_⟩) (by assumption) ?_
        rotate_left
        · (intro w hSw; (try dsimp only at hSw); (try obtain ⟨hSa, hSb, hSc, hSd⟩ := hSw); (try obtain ⟨hSa, hSb, hSc⟩ := hSw); (try obtain ⟨hSa, hSb⟩ := hSw); go_simp; (try with_reducible rfl))
        refine wpAnyH_take (i := 4) (v := ?_) rfl (by kernel_rfl) (by kernel_rfl) (by kernel_rfl) (fun _ _ _ h => h) (Or.inl ⟨by rfl, ?_⟩) (by assumption) ?_
        rotate_left
        · (intro w hSw; (try dsimp only at hSw); (try obtain ⟨hSa, hSb, hSc, hSd⟩ := hSw); (try obtain ⟨hSa, hSb, hSc⟩ := hSw); (try obtain ⟨hSa, hSb⟩ := hSw); go_simp; (try with_reducible rfl))
        refine wpAnyH_take (i := 5) (v := ?_) rfl (by kernel_rfl) (by kernel_rfl) (by kernel_rfl) (fun _ _ _ h => h) (Or.inl ⟨by rfl, ?_⟩) (by assumption) ?_
        rotate_left
        · (intro w hSw; (try dsimp only at hSw); (try obtain ⟨hSa, hSb, hSc, hSd⟩ := hSw); (try obtain ⟨hSa, hSb, hSc⟩ := hSw); (try obtain ⟨hSa, hSb⟩ := hSw); go_simp; (try with_reducible rfl))
        refine wpAnyH_take (i := 6) (v := ?_) rfl (by kernel_rfl) (by kernel_rfl) (by kernel_rfl) (fun _ _ _ h => h) (Or.inl ⟨by rfl, ?_⟩) (by assumption) ?_
        rotate_left
        · (intro w hSw; (try dsimp only at hSw); (try obtain ⟨hSa, hSb, hSc, hSd⟩ := hSw); (try obtain ⟨hSa, hSb, hSc⟩ := hSw); (try obtain ⟨hSa, hSb⟩ := hSw); go_simp; (try with_reducible rfl))
        refine wpAnyH_take (i := 7) (v := ?_) rfl (by kernel_rfl) (by kernel_rfl) (by kernel_rfl) (fun _ _ _ h => h) (Or.inl ⟨by rfl, ?_⟩) (by assumption) ?_
        rotate_left
        · (intro w hSw; (try dsimp only at hSw); (try obtain ⟨hSa, hSb, hSc, hSd⟩ := hSw); (try obtain ⟨hSa, hSb, hSc⟩ := hSw); (try obtain ⟨hSa, hSb⟩ := hSw); go_simp; (try with_reducible rfl))
        refine wpAnyH_take (i := 8) (v := ?_) rfl (by kernel_rfl) (by kernel_rfl) (by kernel_rfl) (fun _ _ _ h => h) (Or.inl ⟨by rfl, ?_⟩) (by assumption) ?_
        rotate_left
        · (intro w hSw; (try dsimp only at hSw); (try obtain ⟨hSa, hSb, hSc, hSd⟩ := hSw); (try obtain ⟨hSa, hSb, hSc⟩ := hSw); (try obtain ⟨hSa, hSb⟩ := hSw); go_simp; (try with_reducible rfl))
        refine wpAnyH_take (i := 9) (v := ?_) rfl (by kernel_rfl) (by kernel_rfl) (by kernel_rfl) (fun _ _ _ h => h) (Or.inl ⟨by rfl, ?_⟩) (by assumption) ?_
        rotate_left
        · (intro w hSw; (try dsimp only at hSw); (try obtain ⟨hSa, hSb, hSc, hSd⟩ := hSw); (try obtain ⟨hSa, hSb, hSc⟩ := hSw); (try obtain ⟨hSa, hSb⟩ := hSw); go_simp; (try with_reducible rfl))
        refine wpAnyH_take (i := 10) (v := ?_) rfl (by kernel_rfl) (by kernel_rfl) (by kernel_rfl) (fun _ _ _ h => h) (Or.inl ⟨by rfl, ?_⟩) (by assumption) ?_
        rotate_left
        · (intro w hSw; (try dsimp only at hSw); (try obtain ⟨hSa, hSb, hSc, hSd⟩ := hSw); (try obtain ⟨hSa, hSb, hSc⟩ := hSw); (try obtain ⟨hSa, hSb⟩ := hSw); go_simp; (try with_reducible rfl))
        refine wpAnyH_take (i := 11) (v := ?_) rfl (by kernel_rfl) (by kernel_rfl) (by kernel_rfl) (fun _ _ _ h => h) (Or.inl ⟨by rfl, ?_⟩) (by assumption) ?_
        rotate_left
        · (intro w hSw; (try dsimp only at hSw); (try obtain ⟨hSa, hSb, hSc, hSd⟩ := hSw); (try obtain ⟨hSa, hSb, hSc⟩ := hSw); (try obtain ⟨hSa, hSb⟩ := hSw); go_simp; (try with_reducible rfl))
        refine wpAnyH_ready (rs := [12]) (by kernel_rfl) (by simp) ?_
        refine AllReadyH.cons rfl (fun KC hKC => ?_) AllReadyH.nil
        go_simp
        refine hKC.out _ _ (by exact QD.out) (fun hHeld => ?_)
        clear hKC KC
        refine wpAnyH_done (by kernel_rfl) ?_ _
        clear hHeld l1 l2 QD
        generalize UD.setCell ⟨gc, no * 4 + 3, none⟩ (.int .i64 (m : Int)) = U7 at LE ⊢
        have hll := Gn.land_len g6 no
        generalize hgg : g6.land no = g7 at LE hll
        have HB7 : Hid ((g6.land no = g7 ∧ g7.code.length = g6.code.length) ∧ g7.code.length ≤ g0.code.length + (5 + 5 * sizeT n x.body) ∧ g7.consts.length = g6.consts.length ∧ g7.certs.length = g6.certs.length) := by
          have hb := HB6.out
          exact ⟨⟨hgg, hll⟩, by omega, by rw [← hgg]; rfl, by rw [← hgg]; rfl⟩
        have E7 : Hid (SG w U7 v1 F G P Gb fn (.slice (some ⟨gc, 0, none⟩) m cl) g7 DD) := LE.out
        clear hgg hll LE E6 hm5
        generalize hvc7 : Value.slice (some ⟨gc, 0, none⟩) m cl = vc7 at E7
        clear hvc7
        clear HM6
        obtain ⟨x0, x1, x2, x3, x4⟩ := (HXC.out _ _ _ _ E7.out).1
        go_wp2_with fail
        refine (HI.out w U7 v1 F G P Gb fn vc7 g7 DD (.slice ae le ce) x.els lev _ rfl E7.out HX.out.2.1 HX.out.2.2.2 (by have := HB5.out; have := HB6.out; have := HB7.out; have := HSZ.out; omega) (by have := HB5.out; have := HB6.out; have := HB7.out; have := HSZ.out; omega) (by have := HB5.out; have := HB6.out; have := HB7.out; have := HSZ.out; omega) (by have := HSZ.out; omega)).mono ?_
        rintro e U8 ⟨rfl, v2, vc8, hh⟩
        have hle := genT_le n fn x.els lev g7
        have hge := genT_len n fn x.els lev g7
        generalize hgg : genT n fn x.els lev g7 = g8 at hh hle hge
        have HB8 : Hid ((genT n fn x.els lev g7 = g8 ∧ g7.code.length ≤ g8.code.length) ∧ g8.code.length ≤ g0.code.length + (5 + 5 * sizeT n x.body + 5 * sizeT n x.els) ∧ g8.consts.length ≤ g0.consts.length + (sizeT n x.body + sizeT n x.els) ∧ g8.certs.length ≤ g0.certs.length + (sizeT n x.body + sizeT n x.els)) := by
          have hb5 := HB5.out
          have hb6 := HB6.out
          have hb7 := HB7.out
          have h1 := hle.code
          have h2 := hle.consts
          have h3 := hle.certs
          exact ⟨⟨hgg, hge⟩, by omega, by omega, by omega⟩
        have E8 : Hid (SG w U8 v2 F G P Gb fn vc8 g8 DD) := hh
        clear hgg hh hle hge E7 x0 x1 x2 x3 x4
        obtain ⟨x0, x1, x2, x3, x4⟩ := (HXC.out _ _ _ _ E8.out).1
        obtain ⟨⟨al, cl, el⟩, ol⟩ := E8.out.bl.nrow
        have hlt8 : en < g8.code.length := (by have a := HEN.out; have c := HB6.out.1.2; have c7 := HB7.out.1.2; have d := HB8.out.1.2; omega)
        obtain ⟨gc, oc, hgc⟩ : ∃ gc oc, al = some ⟨gc, 0, none⟩ := by
          rcases own_row ol with ⟨e, e2⟩ | ⟨gc, cc, e⟩
          · omega
          · rw [el] at e
            simp only [Value.slice.injEq, true_and] at e
            exact ⟨gc, cc, e.1⟩
        subst hgc el
        clear ol oc
        generalize hm : g8.code.length = m at E8 hlt8
        have HM8 : Hid (g8.code.length = m) := hm
        clear hm
        have hm5 : m ≤ 100001 := by have a := HB8.out; have b := HM8.out; have := HSZ.out; omega
        obtain ⟨_, _, q2⟩ := E8.out.cells
        have LD : Hid (SG w (U8.drew.setCell ⟨gc, en * 4 + 3, none⟩ (.int .i64 (m : Int))) v2 F G P Gb fn (.slice (some ⟨gc, 0, none⟩) m cl) (g8.land en) DD ∧ (∃ z, U8.drew.cell? ⟨gc, en * 4 + 3, none⟩ = some (.int .i64 z)) ∧ U8.drew.frozen? ⟨gc, en * 4 + 3, none⟩ = false) := (E8.out.keep (below_drew1 _)).land HM8.out en hlt8
        go_upto_region 19 with fail
        refine wp_region_held_drew (S := fun W => W.cell? ⟨Gb, 2, none⟩ = some (.slice (some ⟨gc, 0, none⟩) m cl)) (by kernel_rfl) (by exact (E8.out.keep (below_drew1 _)).cells.2.2) (fun hHeld => ?_)
        obtain ⟨zz, l1⟩ := LD.out.2.1
        have l2 := LD.out.2.2
        have QD : Hid ((U8.drew.setCell ⟨gc, en * 4 + 3, none⟩ (.int .i64 (m : Int))).cell? ⟨Gb, 2, none⟩ = some (.slice (some ⟨gc, 0, none⟩) m cl)) := LD.out.1.cells.2.2
        have LE : Hid (SG w (U8.drew.setCell ⟨gc, en * 4 + 3, none⟩ (.int .i64 (m : Int))) v2 F G P Gb fn (.slice (some ⟨gc, 0, none⟩) m cl) (g8.land en) DD) := LD.out.1
        clear LD q2 x0 x1 x2 x3 x4
        generalize U8.drew = UD at *
        refine wpAnyH_take (i := 0) (v := ?_) rfl (by kernel_rfl) (by kernel_rfl) (by kernel_rfl) (fun _ _ _ h => h) (Or.inl ⟨by rfl, ?_⟩) (by assumption) ?_
        rotate_left
        · (intro w hSw; (try dsimp only at hSw); (try obtain ⟨hSa, hSb, hSc, hSd⟩ := hSw); (try obtain ⟨hSa, hSb, hSc⟩ := hSw); (try obtain ⟨hSa, hSb⟩ := hSw); go_simp; (try with_reducible rfl))
        refine wpAnyH_take (i := 1) (v := ?_) rfl (by kernel_rfl) (by kernel_rfl) (by kernel_rfl) (fun _ _ _ h => h) (Or.inl ⟨by rfl, ?_⟩) (by assumption) ?_
        rotate_left
        · (intro w hSw; (try dsimp only at hSw); (try obtain ⟨hSa, hSb, hSc, hSd⟩ := hSw); (try obtain ⟨hSa, hSb, hSc⟩ := hSw); (try obtain ⟨hSa, hSb⟩ := hSw); go_simp; (try with_reducible rfl))
        refine wpAnyH_take (i := 2) (v := ?_) rfl (by kernel_rfl) (by kernel_rfl) (by kernel_rfl) (fun _ _ _ h => h) (Or.inl ⟨by rfl, ?_⟩) (by assumption) ?_
        rotate_left
        · (intro w hSw; (try dsimp only at hSw); (try obtain ⟨hSa, hSb, hSc, hSd⟩ := hSw); (try obtain ⟨hSa, hSb, hSc⟩ := hSw); (try obtain ⟨hSa, hSb⟩ := hSw); go_simp; (try with_reducible rfl))
        refine wpAnyH_take (i := 3) (v := ?_) rfl (by kernel_rfl) (by kernel_rfl) (by kernel_rfl) (fun _ _ _ h => h) (Or.inl ⟨by rfl, ?_⟩) (by assumption) ?_
        rotate_left
        · (intro w hSw; (try dsimp only at hSw); (try obtain ⟨hSa, hSb, hSc, hSd⟩ := hSw); (try obtain ⟨hSa, hSb, hSc⟩ := hSw); (try obtain ⟨hSa, hSb⟩ := hSw); go_simp; (try with_reducible rfl))
        refine wpAnyH_take (i := 4) (v := ?_) rfl (by kernel_rfl) (by kernel_rfl) (by kernel_rfl) (fun _ _ _ h => h) (Or.inl ⟨by rfl, ?_⟩) (by assumption) ?_
        rotate_left
        · (intro w hSw; (try dsimp only at hSw); (try obtain ⟨hSa, hSb, hSc, hSd⟩ := hSw); (try obtain ⟨hSa, hSb, hSc⟩ := hSw); (try obtain ⟨hSa, hSb⟩ := hSw); go_simp; (try with_reducible rfl))
        refine wpAnyH_take (i := 5) (v := ?_) rfl (by kernel_rfl) (by kernel_rfl) (by kernel_rfl) (fun _ _ _ h => h) (Or.inl ⟨by rfl, ?_⟩) (by assumption) ?_
        rotate_left
        · (intro w hSw; (try dsimp only at hSw); (try obtain ⟨hSa, hSb, hSc, hSd⟩ := hSw); (try obtain ⟨hSa, hSb, hSc⟩ := hSw); (try obtain ⟨hSa, hSb⟩ := hSw); go_simp; (try with_reducible rfl))
        refine wpAnyH_take (i := 6) (v := ?_) rfl (by kernel_rfl) (by kernel_rfl) (by kernel_rfl) (fun _ _ _ h => h) (Or.inl ⟨by rfl, ?_⟩) (by assumption) ?_
        rotate_left
        · (intro w hSw; (try dsimp only at hSw); (try obtain ⟨hSa, hSb, hSc, hSd⟩ := hSw); (try obtain ⟨hSa, hSb, hSc⟩ := hSw); (try obtain ⟨hSa, hSb⟩ := hSw); go_simp; (try with_reducible rfl))
        refine wpAnyH_take (i := 7) (v := ?_) rfl (by kernel_rfl) (by kernel_rfl) (by kernel_rfl) (fun _ _ _ h => h) (Or.inl ⟨by rfl, ?_⟩) (by assumption) ?_
        rotate_left
        · (intro w hSw; (try dsimp only at hSw); (try obtain ⟨hSa, hSb, hSc, hSd⟩ := hSw); (try obtain ⟨hSa, hSb, hSc⟩ := hSw); (try obtain ⟨hSa, hSb⟩ := hSw); go_simp; (try with_reducible rfl))
        refine wpAnyH_take (i := 8) (v := ?_) rfl (by kernel_rfl) (by kernel_rfl) (by kernel_rfl) (fun _ _ _ h => h) (Or.inl ⟨by rfl, ?_⟩) (by assumption) ?_
        rotate_left
        · (intro w hSw; (try dsimp only at hSw); (try obtain ⟨hSa, hSb, hSc, hSd⟩ := hSw); (try obtain ⟨hSa, hSb, hSc⟩ := hSw); (try obtain ⟨hSa, hSb⟩ := hSw); go_simp; (try with_reducible rfl))
        refine wpAnyH_take (i := 9) (v := ?_) rfl (by kernel_rfl) (by kernel_rfl) (by kernel_rfl) (fun _ _ _ h => h) (Or.inl ⟨by rfl, ?_⟩) (by assumption) ?_
        rotate_left
        · (intro w hSw; (try dsimp only at hSw); (try obtain ⟨hSa, hSb, hSc, hSd⟩ := hSw); (try obtain ⟨hSa, hSb, hSc⟩ := hSw); (try obtain ⟨hSa, hSb⟩ := hSw); go_simp; (try with_reducible rfl))
        refine wpAnyH_take (i := 10) (v := ?_) rfl (by kernel_rfl) (by kernel_rfl) (by kernel_rfl) (fun _ _ _ h => h) (Or.inl ⟨by rfl, ?_⟩) (by assumption) ?_
        rotate_left
        · (intro w hSw; (try dsimp only at hSw); (try obtain ⟨hSa, hSb, hSc, hSd⟩ := hSw); (try obtain ⟨hSa, hSb, hSc⟩ := hSw); (try obtain ⟨hSa, hSb⟩ := hSw); go_simp; (try with_reducible rfl))
        refine wpAnyH_take (i := 11) (v := ?_) rfl (by kernel_rfl) (by kernel_rfl) (by kernel_rfl) (fun _ _ _ h => h) (Or.inl ⟨by rfl, ?_⟩) (by assumption) ?_
        rotate_left
        · (intro w hSw; (try dsimp only at hSw); (try obtain ⟨hSa, hSb, hSc, hSd⟩ := hSw); (try obtain ⟨hSa, hSb, hSc⟩ := hSw); (try obtain ⟨hSa, hSb⟩ := hSw); go_simp; (try with_reducible rfl))
        refine wpAnyH_ready (rs := [12]) (by kernel_rfl) (by simp) ?_
        refine AllReadyH.cons rfl (fun KC hKC => ?_) AllReadyH.nil
        go_simp
        refine hKC.out _ _ (by exact QD.out) (fun hHeld => ?_)
        clear hKC KC
        refine wpAnyH_done (by kernel_rfl) ?_ _
        clear hHeld l1 l2 QD
        generalize UD.setCell ⟨gc, en * 4 + 3, none⟩ (.int .i64 (m : Int)) = U9 at LE ⊢
        have hll := Gn.land_len g8 en
        generalize hgg : g8.land en = g9 at LE hll
        have HB9 : Hid ((g8.land en = g9 ∧ g9.code.length = g8.code.length) ∧ g9.code.length ≤ g0.code.length + (5 + 5 * sizeT n x.body + 5 * sizeT n x.els) ∧ g9.consts.length = g8.consts.length ∧ g9.certs.length = g8.certs.length) := by
          have hb := HB8.out
          exact ⟨⟨hgg, hll⟩, by omega, by rw [← hgg]; rfl, by rw [← hgg]; rfl⟩
        have E9 : Hid (SG w U9 v2 F G P Gb fn (.slice (some ⟨gc, 0, none⟩) m cl) g9 DD) := LE.out
        clear hgg hll LE E8 hm5
        generalize hvc9 : Value.slice (some ⟨gc, 0, none⟩) m cl = vc9 at E9
        clear hvc9
        clear HM8
        obtain ⟨x0, x1, x2, x3, x4⟩ := (HXC.out _ _ _ _ E9.out).1
        have HF : Hid (SG w U9 v2 F G P Gb fn vc9 (genN n fn l lev (k + 1) g) D) := by
          have e : genN n fn l lev (k + 1) g = g9 := by
            rw [HGN.out]
            unfold genS
            have hl6 : g6.code.length - 1 = en := by have a := HEN.out; have b := HB6.out.1.2; omega
            have hl3 : g0.code.length + 3 = no := by have a := HNO.out; have b := HB3.out.1.2; have c := HB2.out.1.2; have d := HB1.out.1.2; omega
            have e4 : g0.put [ldK x.a, ldK x.b, ⟨21, 3, 0, 0⟩, ⟨26, 0, 0, 0⟩] = g4 := by rw [← HB4.out.1.1, ← HB3.out.1.1, ← HB2.out.1.1, ← HB1.out.1.1]; simp [Gn.put_put, ldK]
            rw [if_neg (by rw [KK.out]; omega), if_pos KK.out]
            simp only []
            rw [e4, HB5.out.1.1, HB6.out.1.1, hl3, HB7.out.1.1, HB8.out.1.1, hl6, HB9.out.1.1]
          show SG w U9 v2 F G P Gb fn vc9 (genN n fn l lev (k + 1) g) D
          rw [e]
          exact (HXC.out _ _ _ _ E9.out).2
        clear x0 x1 x2 x3 x4 E9
        go_wp2_with fail
        go_roundw
        case rel => exact ⟨k + 1, _, _, by omega, by go_num, HF⟩
        case measure => simp [intOf]; omega
      · skip
        generalize hU0 : U = U0 at E0 x0 x1 x2 x3 x4 ⊢
        clear hU0
        generalize hvc0 : vc = vc0 at E0
        clear hvc0
        have HB0 : Hid ((g0 = g0 ∧ g0.code.length = g0.code.length) ∧ g0.code.length ≤ g0.code.length + 0 ∧ g0.consts.length = g0.consts.length ∧ g0.certs.length = g0.certs.length) := ⟨⟨rfl, rfl⟩, by omega, rfl, rfl⟩
        have KK : Hid (x.k = 3) := hk3
        have e1 : (x.k == 1) = false := by rw [hk3]; rfl
        have e2 : (x.k == 2) = false := by rw [hk3]; rfl
        have e3 : (x.k == 3) = true := by rw [hk3]; rfl
        clear hk3
        go_wp2_with fail
        refine (l10Const_any w U0 v F G P Gb fn vc0 g0 DD x.b ⟨hb0, hb1⟩ E0.out (by have := HG5.out; omega)).mono ?_
        rintro e U1 ⟨rfl, v1, hh⟩
        have hcl := cnstL_le g0.consts x.b
        have hci := cnstI_le g0.consts x.b
        generalize hix : cnstI g0.consts x.b = ix at hci
        have HIX : Hid (cnstI g0.consts x.b = ix) := hix
        clear hix
        generalize hgg : (⟨g0.code, cnstL g0.consts x.b, g0.certs⟩ : Gn) = g1 at hh
        have HB1 : Hid (((⟨g0.code, cnstL g0.consts x.b, g0.certs⟩ : Gn) = g1 ∧ g1.code.length = g0.code.length) ∧ g1.code.length ≤ g0.code.length + 0 ∧ g1.consts.length ≤ g0.consts.length + 1 ∧ g1.certs.length = g0.certs.length) := ⟨⟨hgg, by rw [← hgg]⟩, by rw [← hgg]; exact Nat.le_refl _, by rw [← hgg]; exact hcl, by rw [← hgg]⟩
        have E1 : Hid (SG w U1 v1 F G P Gb fn vc0 g1 DD) := hh
        clear hgg hh hcl E0 x0 x1 x2 x3 x4
        generalize hvc1 : vc0 = vc1 at E1
        clear hvc1
        obtain ⟨x0, x1, x2, x3, x4⟩ := (HXC.out _ _ _ _ E1.out).1
        go_wp2_with fail
        refine (l10Put_any w U1 v1 F G P Gb fn vc1 g1 DD 1 ((ix : Int)) 0 0 E1.out (by have := HB1.out; have := HSZ.out; omega)).mono ?_
        rintro e U2 ⟨rfl, vc2, hh⟩
        generalize hgg : g1.put [⟨1, (ix : Int), 0, 0⟩] = g2 at hh
        have HB2 : Hid ((g1.put [⟨1, (ix : Int), 0, 0⟩] = g2 ∧ g2.code.length = g1.code.length + 1) ∧ g2.code.length ≤ g0.code.length + 1 ∧ g2.consts.length = g1.consts.length ∧ g2.certs.length = g1.certs.length) := by
          have hb := HB1.out
          have hc : g2.code.length = g1.code.length + 1 := by rw [← hgg, Gn.put_len]; rfl
          exact ⟨⟨hgg, hc⟩, by omega, by rw [← hgg]; rfl, by rw [← hgg]; rfl⟩
        have E2 : Hid (SG w U2 v1 F G P Gb fn vc2 g2 DD) := hh
        clear hgg hh E1 x0 x1 x2 x3 x4
        obtain ⟨x0, x1, x2, x3, x4⟩ := (HXC.out _ _ _ _ E2.out).1
        go_wp2_with fail
        refine (l10Put_any w U2 v1 F G P Gb fn vc2 g2 DD 3 ((lev : Int)) 0 0 E2.out (by have := HB2.out; have := HSZ.out; omega)).mono ?_
        rintro e U3 ⟨rfl, vc3, hh⟩
        generalize hgg : g2.put [⟨3, (lev : Int), 0, 0⟩] = g3 at hh
        have HB3 : Hid ((g2.put [⟨3, (lev : Int), 0, 0⟩] = g3 ∧ g3.code.length = g2.code.length + 1) ∧ g3.code.length ≤ g0.code.length + 2 ∧ g3.consts.length = g2.consts.length ∧ g3.certs.length = g2.certs.length) := by
          have hb := HB2.out
          have hc : g3.code.length = g2.code.length + 1 := by rw [← hgg, Gn.put_len]; rfl
          exact ⟨⟨hgg, hc⟩, by omega, by rw [← hgg]; rfl, by rw [← hgg]; rfl⟩
        have E3 : Hid (SG w U3 v1 F G P Gb fn vc3 g3 DD) := hh
        clear hgg hh E2 x0 x1 x2 x3 x4
        obtain ⟨x0, x1, x2, x3, x4⟩ := (HXC.out _ _ _ _ E3.out).1
        go_wp2_with fail
        refine (l10Put_any w U3 v1 F G P Gb fn vc3 g3 DD 27 ((lev : Int)) 0 0 E3.out (by have := HB3.out; have := HSZ.out; omega)).mono ?_
        rintro e U4 ⟨rfl, vc4, hh⟩
        generalize hgg : g3.put [⟨27, (lev : Int), 0, 0⟩] = g4 at hh
        have HB4 : Hid ((g3.put [⟨27, (lev : Int), 0, 0⟩] = g4 ∧ g4.code.length = g3.code.length + 1) ∧ g4.code.length ≤ g0.code.length + 3 ∧ g4.consts.length = g3.consts.length ∧ g4.certs.length = g3.certs.length) := by
          have hb := HB3.out
          have hc : g4.code.length = g3.code.length + 1 := by rw [← hgg, Gn.put_len]; rfl
          exact ⟨⟨hgg, hc⟩, by omega, by rw [← hgg]; rfl, by rw [← hgg]; rfl⟩
        have E4 : Hid (SG w U4 v1 F G P Gb fn vc4 g4 DD) := hh
        clear hgg hh E3 x0 x1 x2 x3 x4
        obtain ⟨x0, x1, x2, x3, x4⟩ := (HXC.out _ _ _ _ E4.out).1
        generalize hhd : g3.code.length = hd
        have HHD : Hid (g3.code.length = hd) := hhd
        have hhd5 : hd ≤ 100000 := by have := HHD.out; have := HB3.out; have := HSZ.out; omega
        clear hhd
        obtain ⟨⟨b1, d1, b2, d2, b3, d3, b4, d4, ev⟩, _⟩ := E4.out.bl.prow
        subst ev
        have hct : g4.certs.length ≤ 100000 := by have := HB4.out; have := HB3.out; have := HB2.out; have := HB1.out; have := HSZ.out; omega
        generalize hnt : g4.certs.length = nt at E4 hct
        have HNT : Hid (g4.certs.length = nt) := hnt
        clear hnt
        have hwb : IntKind.u32.wrap x.b = x.b := IntWalk.u32_in _ ⟨by omega, by omega⟩
        go_upto_region 24 with fail
        have HD : Hid (SG w U4.drew ⟨.slice b1 F.length d1, .slice b2 g4.consts.length d2, .slice b3 G.length d3, .slice b4 nt d4⟩ F G P Gb fn vc4 g4 DD) := E4.out.keep (below_drew1 _)
        have HXG : Hid (∀ (u' : World) {v1 : VP} {cs : List MC} {ts : List MT} {v2 : VP} {vc' : Value} {cd : List MI}, Bl w u' (pItems v1 F cs G ts (nRow vc' cd :: gb P v2 :: sgb P Gb fn vc' :: DD)) → u'.cell? ⟨X, 2, none⟩ = some (.int .i64 x.b)) := HXG0.out
        refine wp_region_held_drew (S := fun W => W.cell? ⟨Gb, 0, none⟩ = some (.pointer (some ⟨P, 0, none⟩)) ∧ W.cell? ⟨Gb, 1, none⟩ = some (.int .i64 fn) ∧ W.cell? ⟨X, 2, none⟩ = some (.int .i64 x.b)) (by kernel_rfl) (by exact ⟨HD.out.cells.1, HD.out.cells.2.1, ((HXC.out _ _ _ _ HD.out).1).2.2.1⟩) (fun hHeld => ?_)
        clear x0 x1 x2 x3 x4 E4
        generalize U4.drew = UD at HD hHeld ⊢
        have q1 : UD.cell? ⟨P, 3, none⟩ = some (.slice b4 nt d4) := HD.out.pcells.2.2.2
        refine wpAnyH_take (i := 0) (v := ?_) rfl (by kernel_rfl) (by kernel_rfl) (by kernel_rfl) (fun _ _ _ h => h) (Or.inl ⟨by rfl, ?_⟩) (by assumption) ?_
        rotate_left
        · (intro w hSw; (try dsimp only at hSw); (try obtain ⟨hSa, hSb, hSc, hSd⟩ := hSw); (try obtain ⟨hSa, hSb, hSc⟩ := hSw); (try obtain ⟨hSa, hSb⟩ := hSw); go_simp; (try with_reducible rfl))
        refine wpAnyH_take (i := 1) (v := ?_) rfl (by kernel_rfl) (by kernel_rfl) (by kernel_rfl) (fun _ _ _ h => h) (Or.inl ⟨by rfl, ?_⟩) (by assumption) ?_
        rotate_left
        · (intro w hSw; (try dsimp only at hSw); (try obtain ⟨hSa, hSb, hSc, hSd⟩ := hSw); (try obtain ⟨hSa, hSb, hSc⟩ := hSw); (try obtain ⟨hSa, hSb⟩ := hSw); go_simp; (try with_reducible rfl))
        refine wpAnyH_take (i := 2) (v := ?_) rfl (by kernel_rfl) (by kernel_rfl) (by kernel_rfl) (fun _ _ _ h => h) (Or.inl ⟨by rfl, ?_⟩) (by assumption) ?_
        rotate_left
        · (intro w hSw; (try dsimp only at hSw); (try obtain ⟨hSa, hSb, hSc, hSd⟩ := hSw); (try obtain ⟨hSa, hSb, hSc⟩ := hSw); (try obtain ⟨hSa, hSb⟩ := hSw); go_simp; (try with_reducible rfl))
        refine wpAnyH_take (i := 3) (v := ?_) rfl (by kernel_rfl) (by kernel_rfl) (by kernel_rfl) (fun _ _ _ h => h) (Or.inl ⟨by rfl, ?_⟩) (by assumption) ?_
        rotate_left
        · (intro w hSw; (try dsimp only at hSw); (try obtain ⟨hSa, hSb, hSc, hSd⟩ := hSw); (try obtain ⟨hSa, hSb, hSc⟩ := hSw); (try obtain ⟨hSa, hSb⟩ := hSw); go_simp; (try with_reducible rfl))
        refine wpAnyH_take (i := 4) (v := ?_) rfl (by kernel_rfl) (by kernel_rfl) (by kernel_rfl) (fun _ _ _ h => h) (Or.inl ⟨by rfl, ?_⟩) (by assumption) ?_
        rotate_left
        · (intro w hSw; (try dsimp only at hSw); (try obtain ⟨hSa, hSb, hSc, hSd⟩ := hSw); (try obtain ⟨hSa, hSb, hSc⟩ := hSw); (try obtain ⟨hSa, hSb⟩ := hSw); go_simp; (try with_reducible rfl))
        refine wpAnyH_take (i := 5) (v := ?_) rfl (by kernel_rfl) (by kernel_rfl) (by kernel_rfl) (fun _ _ _ h => h) (Or.inl ⟨by rfl, ?_⟩) (by assumption) ?_
        rotate_left
        · (intro w hSw; (try dsimp only at hSw); (try obtain ⟨hSa, hSb, hSc, hSd⟩ := hSw); (try obtain ⟨hSa, hSb, hSc⟩ := hSw); (try obtain ⟨hSa, hSb⟩ := hSw); go_simp; (try with_reducible rfl))
        refine wpAnyH_take (i := 6) (v := ?_) rfl (by kernel_rfl) (by kernel_rfl) (by kernel_rfl) (fun _ _ _ h => h) (Or.inl ⟨by rfl, ?_⟩) (by assumption) ?_
        rotate_left
        · (intro w hSw; (try dsimp only at hSw); (try obtain ⟨hSa, hSb, hSc, hSd⟩ := hSw); (try obtain ⟨hSa, hSb, hSc⟩ := hSw); (try obtain ⟨hSa, hSb⟩ := hSw); go_simp; (try with_reducible rfl))
        refine wpAnyH_take (i := 7) (v := ?_) rfl (by kernel_rfl) (by kernel_rfl) (by kernel_rfl) (fun _ _ _ h => h) (Or.inl ⟨by rfl, ?_⟩) (by assumption) ?_
        rotate_left
        · (intro w hSw; (try dsimp only at hSw); (try obtain ⟨hSa, hSb, hSc, hSd⟩ := hSw); (try obtain ⟨hSa, hSb, hSc⟩ := hSw); (try obtain ⟨hSa, hSb⟩ := hSw); go_simp; (try with_reducible rfl))
        refine wpAnyH_take (i := 8) (v := ?_) rfl (by kernel_rfl) (by kernel_rfl) (by kernel_rfl) (fun _ _ _ h => h) (Or.inl ⟨by rfl, ?_⟩) (by assumption) ?_
        rotate_left
        · (intro w hSw; (try dsimp only at hSw); (try obtain ⟨hSa, hSb, hSc, hSd⟩ := hSw); (try obtain ⟨hSa, hSb, hSc⟩ := hSw); (try obtain ⟨hSa, hSb⟩ := hSw); go_simp; (try with_reducible rfl))
        refine wpAnyH_take (i := 9) (v := ?_) rfl (by kernel_rfl) (by kernel_rfl) (by kernel_rfl) (fun _ _ _ h => h) (Or.inl ⟨by rfl, ?_⟩) (by assumption) ?_
        rotate_left
        · (intro w hSw; (try dsimp only at hSw); (try obtain ⟨hSa, hSb, hSc, hSd⟩ := hSw); (try obtain ⟨hSa, hSb, hSc⟩ := hSw); (try obtain ⟨hSa, hSb⟩ := hSw); go_simp; (try with_reducible rfl))
        refine wpAnyH_take (i := 11) (v := ?_) rfl (by kernel_rfl) (by kernel_rfl) (by kernel_rfl) (fun _ _ _ h => h) (Or.inl ⟨by rfl, ?_⟩) (by assumption) ?_
        rotate_left
        · (intro w hSw; (try dsimp only at hSw); (try obtain ⟨hSa, hSb, hSc, hSd⟩ := hSw); (try obtain ⟨hSa, hSb, hSc⟩ := hSw); (try obtain ⟨hSa, hSb⟩ := hSw); go_simp; (try with_reducible rfl))
        refine wpAnyH_take (i := 12) (v := ?_) rfl (by kernel_rfl) (by kernel_rfl) (by kernel_rfl) (fun _ _ _ h => h) (Or.inl ⟨by rfl, ?_⟩) (by assumption) ?_
        rotate_left
        · (intro w hSw; (try dsimp only at hSw); (try obtain ⟨hSa, hSb, hSc, hSd⟩ := hSw); (try obtain ⟨hSa, hSb, hSc⟩ := hSw); (try obtain ⟨hSa, hSb⟩ := hSw); go_simp; (try with_reducible rfl))
        refine wpAnyH_take (i := 13) (v := ?_) rfl (by kernel_rfl) (by kernel_rfl) (by kernel_rfl) (fun _ _ _ h => h) (Or.inl ⟨by rfl, ?_⟩) (by assumption) ?_
        rotate_left
        · (intro w hSw; (try dsimp only at hSw); (try obtain ⟨hSa, hSb, hSc, hSd⟩ := hSw); (try obtain ⟨hSa, hSb, hSc⟩ := hSw); (try obtain ⟨hSa, hSb⟩ := hSw); go_simp; (try with_reducible rfl))
        refine wpAnyH_take (i := 14) (v := ?_) rfl (by kernel_rfl) (by kernel_rfl) (by kernel_rfl) (fun _ _ _ h => h) (Or.inl ⟨by rfl, ?_⟩) (by assumption) ?_
        rotate_left
        · (intro w hSw; (try dsimp only at hSw); (try obtain ⟨hSa, hSb, hSc, hSd⟩ := hSw); (try obtain ⟨hSa, hSb, hSc⟩ := hSw); (try obtain ⟨hSa, hSb⟩ := hSw); go_simp; (try with_reducible rfl))
        refine wpAnyH_take (i := 15) (v := ?_) rfl (by kernel_rfl) (by kernel_rfl) (by kernel_rfl) (fun _ _ _ h => h) (Or.inl ⟨by rfl, ?_⟩) (by assumption) ?_
        rotate_left
        · (intro w hSw; (try dsimp only at hSw); (try obtain ⟨hSa, hSb, hSc, hSd⟩ := hSw); (try obtain ⟨hSa, hSb, hSc⟩ := hSw); (try obtain ⟨hSa, hSb⟩ := hSw); go_simp; (try with_reducible rfl))
        refine wpAnyH_take (i := 16) (v := ?_) rfl (by kernel_rfl) (by kernel_rfl) (by kernel_rfl) (fun _ _ _ h => h) (Or.inl ⟨by rfl, ?_⟩) (by assumption) ?_
        rotate_left
        · (intro w hSw; (try dsimp only at hSw); (try obtain ⟨hSa, hSb, hSc, hSd⟩ := hSw); (try obtain ⟨hSa, hSb, hSc⟩ := hSw); (try obtain ⟨hSa, hSb⟩ := hSw); go_simp; (try with_reducible rfl))
        refine wpAnyH_take (i := 17) (v := ?_) rfl (by kernel_rfl) (by kernel_rfl) (by kernel_rfl) (fun _ _ _ h => h) (Or.inl ⟨by rfl, ?_⟩) (by assumption) ?_
        rotate_left
        · (intro w hSw; (try dsimp only at hSw); (try obtain ⟨hSa, hSb, hSc, hSd⟩ := hSw); (try obtain ⟨hSa, hSb, hSc⟩ := hSw); (try obtain ⟨hSa, hSb⟩ := hSw); go_simp; (try with_reducible rfl))
        refine wpAnyH_take (i := 18) (v := ?_) rfl (by kernel_rfl) (by kernel_rfl) (by kernel_rfl) (fun _ _ _ h => h) (Or.inl ⟨by rfl, ?_⟩) (by assumption) ?_
        rotate_left
        · (intro w hSw; (try dsimp only at hSw); (try obtain ⟨hSa, hSb, hSc, hSd⟩ := hSw); (try obtain ⟨hSa, hSb, hSc⟩ := hSw); (try obtain ⟨hSa, hSb⟩ := hSw); go_simp; (try with_reducible rfl))
        refine wpAnyH_take (i := 19) (v := ?_) rfl (by kernel_rfl) (by kernel_rfl) (by kernel_rfl) (fun _ _ _ h => h) (Or.inl ⟨by rfl, ?_⟩) (by assumption) ?_
        rotate_left
        · (intro w hSw; (try dsimp only at hSw); (try obtain ⟨hSa, hSb, hSc, hSd⟩ := hSw); (try obtain ⟨hSa, hSb, hSc⟩ := hSw); (try obtain ⟨hSa, hSb⟩ := hSw); go_simp; (try with_reducible rfl))
        refine wpAnyH_take (i := 20) (v := ?_) rfl (by kernel_rfl) (by kernel_rfl) (by kernel_rfl) (fun _ _ _ h => h) (Or.inl ⟨by rfl, ?_⟩) (by assumption) ?_
        rotate_left
        · (intro w hSw; (try dsimp only at hSw); (try obtain ⟨hSa, hSb, hSc, hSd⟩ := hSw); (try obtain ⟨hSa, hSb, hSc⟩ := hSw); (try obtain ⟨hSa, hSb⟩ := hSw); go_simp; (try with_reducible rfl))
        refine wpAnyH_ready (rs := [10, 21]) (by kernel_rfl) (by simp) ?_
        refine AllReadyH.cons rfl (fun KC hKC => ?_) (AllReadyH.cons rfl (fun KC hKC => ?_) AllReadyH.nil)
        focus
          go_simp
          refine hKC.out _ _ (by assumption) (fun hHeld => ?_)
          clear hKC KC
          refine wpAnyH_ready (rs := [21]) (by kernel_rfl) (by simp) ?_
          refine AllReadyH.cons rfl (fun KC hKC => ?_) AllReadyH.nil
          go_simp
          have D3 : Hid (SG w (UD.alloc (.cells #[.int .i64 fn, .int .i64 (hd : Int), .int .i64 (lev : Int), .int .u32 x.b] 112)) ⟨.slice b1 F.length d1, .slice b2 g4.consts.length d2, .slice b3 G.length d3, .slice b4 nt d4⟩ F G P Gb fn vc4 g4 DD) := HD.out.keep (below_alloc _ _)
          have O3 : Hid ((UD.alloc (.cells #[.int .i64 fn, .int .i64 (hd : Int), .int .i64 (lev : Int), .int .u32 x.b] 112)).ownsRow w.heap.size 112 4 (.slice b4 nt d4) nt (g4.certs.flatMap MT.cells)) := (by have := D3.out.bl.prow.2.2.2.2; rw [HNT.out] at this; exact this)
          have q3 : (UD.alloc (.cells #[.int .i64 fn, .int .i64 (hd : Int), .int .i64 (lev : Int), .int .u32 x.b] 112)).cell? ⟨P, 3, none⟩ = some (.slice b4 nt d4) := D3.out.pcells.2.2.2
          refine hKC.out _ _ (by exact ⟨D3.out.cells.1, D3.out.cells.2.1, ((HXC.out _ _ _ _ D3.out).1).2.2.1⟩) (fun hHeld => ?_)
          clear hKC KC
          refine wpAnyH_ready (rs := [22]) (by kernel_rfl) (by simp) ?_
          refine AllReadyH.cons rfl (fun KC hKC => ?_) AllReadyH.nil
          refine step_append_lies _ rfl (.tmp 113) (.tmp 124) 29 rfl w.heap.size 112 iT (.agg #[.int .i64 0, .int .i64 0, .int .i64 0, .int .u32 0]) 4 32 Tryz.underlying29 hiT hT0 hT1 hT2 rfl (by decide) (.slice b4 nt d4) nt (g4.certs.flatMap MT.cells) (by simp [Act.eval]) O3.out ⟨UD.heap.size, 0, none⟩ 1 1 [.int .i64 fn, .int .i64 (hd : Int), .int .i64 (lev : Int), .int .u32 x.b] (by simp [Act.eval]) rfl (lit_at UD [.int .i64 fn, .int .i64 (hd : Int), .int .i64 (lev : Int), .int .u32 x.b] 112) (by intro u hu; simp at hu; rcases hu with rfl | rfl | rfl | rfl <;> rfl) (by omega) (by unfold maxLen; omega) (by omega) D3.out.bl.size _ rfl ?_
          intro gg cap u8 hown hgrow hat _
          have D4 : Hid _ := D3.out.push_t ⟨fn, (hd : Int), (lev : Int), x.b⟩ (.slice (some ⟨gg, 0, none⟩) (nt + 1) cap) (by rw [HNT.out]; exact hown) hgrow (hat_of hat)
          have y0 := D4.out.2.1.1
          have y1 := D4.out.2.1.2
          have y2 : Hid (u8.cell? ⟨X, 2, none⟩ = some (.int .i64 x.b) ∧ (u8.setCell ⟨P, 3, none⟩ (.slice (some ⟨gg, 0, none⟩) (nt + 1) cap)).cell? ⟨X, 2, none⟩ = some (.int .i64 x.b)) := ⟨HXG.out _ (D3.out.bl.push_t ⟨fn, (hd : Int), (lev : Int), x.b⟩ (.slice (some ⟨gg, 0, none⟩) (nt + 1) cap) (by rw [HNT.out]; exact hown) hgrow (hat_of hat)), ((HXC.out _ _ _ _ D4.out.1).1).2.2.1⟩
          clear hown hgrow hat O3 D3 q1 q3
          refine hKC.out _ _ (by exact ⟨D4.out.2.2.1.1, D4.out.2.2.1.2, y2.out.1⟩) (fun hHeld => ?_)
          clear hKC KC
          refine wpAnyH_take (i := 23) (v := ?_) rfl (by kernel_rfl) (by kernel_rfl) (by kernel_rfl) (fun _ _ _ h => h) (Or.inl ⟨by rfl, ?_⟩) (by assumption) ?_
          rotate_left
          · (intro w hSw; (try dsimp only at hSw); (try obtain ⟨hSa, hSb, hSc, hSd⟩ := hSw); (try obtain ⟨hSa, hSb, hSc⟩ := hSw); (try obtain ⟨hSa, hSb⟩ := hSw); go_simp; (try with_reducible rfl))
          refine wpAnyH_take (i := 24) (v := ?_) rfl (by kernel_rfl) (by kernel_rfl) (by kernel_rfl) (fun _ _ _ h => h) (Or.inl ⟨by rfl, ?_⟩) (by assumption) ?_
          rotate_left
          · (intro w hSw; (try dsimp only at hSw); (try obtain ⟨hSa, hSb, hSc, hSd⟩ := hSw); (try obtain ⟨hSa, hSb, hSc⟩ := hSw); (try obtain ⟨hSa, hSb⟩ := hSw); go_simp; (try with_reducible rfl))
          refine wpAnyH_ready (rs := [25]) (by kernel_rfl) (by simp) ?_
          refine AllReadyH.cons rfl (fun KC hKC => ?_) AllReadyH.nil
          go_simp
          refine hKC.out _ _ (by exact ⟨D4.out.2.2.2.1, D4.out.2.2.2.2, y2.out.2⟩) (fun hHeld => ?_)
          clear hKC KC
          refine wpAnyH_done (by kernel_rfl) ?_ _
          clear hHeld
          have D5 : Hid (SG w (u8.setCell ⟨P, 3, none⟩ (.slice (some ⟨gg, 0, none⟩) (nt + 1) cap)) ⟨.slice b1 F.length d1, .slice b2 g4.consts.length d2, .slice b3 G.length d3, (.slice (some ⟨gg, 0, none⟩) (nt + 1) cap)⟩ F G P Gb fn vc4 ⟨g4.code, g4.consts, g4.certs ++ [⟨fn, (hd : Int), (lev : Int), x.b⟩]⟩ DD) := D4.out.1
          generalize u8.setCell ⟨P, 3, none⟩ (.slice (some ⟨gg, 0, none⟩) (nt + 1) cap) = U5 at D5 ⊢
          clear D4 y0 y1 y2 HD
          generalize hgg : (⟨g4.code, g4.consts, g4.certs ++ [⟨fn, (hd : Int), (lev : Int), x.b⟩]⟩ : Gn) = g5 at D5
          have HB5 : Hid (((⟨g4.code, g4.consts, g4.certs ++ [⟨fn, (hd : Int), (lev : Int), x.b⟩]⟩ : Gn) = g5 ∧ g5.code.length = g4.code.length) ∧ g5.code.length ≤ g0.code.length + 3 ∧ g5.consts.length ≤ g0.consts.length + 1 ∧ g5.certs.length ≤ g0.certs.length + 1) := by
            have h4 := HB4.out
            have h3 := HB3.out
            have h2 := HB2.out
            have h1 := HB1.out
            have e1 : g5.code.length = g4.code.length := by rw [← hgg]
            have e2 : g5.consts.length = g4.consts.length := by rw [← hgg]
            have e3 : g5.certs.length = g4.certs.length + 1 := by rw [← hgg]; simp
            exact ⟨⟨hgg, e1⟩, by omega, by omega, by omega⟩
          generalize hv5 : (⟨.slice b1 F.length d1, .slice b2 g4.consts.length d2, .slice b3 G.length d3, (.slice (some ⟨gg, 0, none⟩) (nt + 1) cap)⟩ : VP) = v5 at D5
          clear hv5 hgg
          have E5 : Hid (SG w U5 v5 F G P Gb fn vc4 g5 DD) := D5.out
          clear D5
          generalize hvc5 : vc4 = vc5 at E5
          clear hvc5
          obtain ⟨x0, x1, x2, x3, x4⟩ := (HXC.out _ _ _ _ E5.out).1
          go_wp2_with fail
          refine (HI.out w U5 v5 F G P Gb fn vc5 g5 DD (.slice ab lb cb) x.body (lev + 1) _ (by omega) E5.out HX.out.1 HX.out.2.2.1 (by have := HB5.out; have := HSZ.out; omega) (by have := HB5.out; have := HSZ.out; omega) (by have := HB5.out; have := HSZ.out; omega) (by have := HSZ.out; omega)).mono ?_
          rintro e U6 ⟨rfl, v6, vc6, hh⟩
          have hle := genT_le n fn x.body (lev + 1) g5
          have hge := genT_len n fn x.body (lev + 1) g5
          generalize hgg : genT n fn x.body (lev + 1) g5 = g6 at hh hle hge
          have HB6 : Hid ((genT n fn x.body (lev + 1) g5 = g6 ∧ g5.code.length ≤ g6.code.length) ∧ g6.code.length ≤ g0.code.length + (3 + 5 * sizeT n x.body) ∧ g6.consts.length ≤ g0.consts.length + (1 + sizeT n x.body) ∧ g6.certs.length ≤ g0.certs.length + (1 + sizeT n x.body)) := by
            have hb5 := HB5.out
            have h1 := hle.code
            have h2 := hle.consts
            have h3 := hle.certs
            exact ⟨⟨hgg, hge⟩, by omega, by omega, by omega⟩
          have E6 : Hid (SG w U6 v6 F G P Gb fn vc6 g6 DD) := hh
          clear hgg hh hle hge E5 x0 x1 x2 x3 x4
          obtain ⟨x0, x1, x2, x3, x4⟩ := (HXC.out _ _ _ _ E6.out).1
          go_wp2_with fail
          refine (l10Put_any w U6 v6 F G P Gb fn vc6 g6 DD 25 0 0 ((hd : Int)) E6.out (by have := HB6.out; have := HSZ.out; omega)).mono ?_
          rintro e U7 ⟨rfl, vc7, hh⟩
          generalize hgg : g6.put [⟨25, 0, 0, (hd : Int)⟩] = g7 at hh
          have HB7 : Hid ((g6.put [⟨25, 0, 0, (hd : Int)⟩] = g7 ∧ g7.code.length = g6.code.length + 1) ∧ g7.code.length ≤ g0.code.length + (4 + 5 * sizeT n x.body) ∧ g7.consts.length = g6.consts.length ∧ g7.certs.length = g6.certs.length) := by
            have hb := HB6.out
            have hc : g7.code.length = g6.code.length + 1 := by rw [← hgg, Gn.put_len]; rfl
            exact ⟨⟨hgg, hc⟩, by omega, by rw [← hgg]; rfl, by rw [← hgg]; rfl⟩
          have E7 : Hid (SG w U7 v6 F G P Gb fn vc7 g7 DD) := hh
          clear hgg hh E6 x0 x1 x2 x3 x4
          obtain ⟨x0, x1, x2, x3, x4⟩ := (HXC.out _ _ _ _ E7.out).1
          obtain ⟨⟨al, cl, el⟩, ol⟩ := E7.out.bl.nrow
          have hlt7 : hd < g7.code.length := (by have a := HHD.out; have b := HB4.out.1.2; have c := HB5.out.1.2; have c6 := HB6.out.1.2; have d := HB7.out.1.2; omega)
          obtain ⟨gc, oc, hgc⟩ : ∃ gc oc, al = some ⟨gc, 0, none⟩ := by
            rcases own_row ol with ⟨e, e2⟩ | ⟨gc, cc, e⟩
            · omega
            · rw [el] at e
              simp only [Value.slice.injEq, true_and] at e
              exact ⟨gc, cc, e.1⟩
          subst hgc el
          clear ol oc
          generalize hm : g7.code.length = m at E7 hlt7
          have HM7 : Hid (g7.code.length = m) := hm
          clear hm
          have hm5 : m ≤ 100001 := by have a := HB7.out; have b := HM7.out; have := HSZ.out; omega
          obtain ⟨_, _, q2⟩ := E7.out.cells
          have LD : Hid (SG w (U7.drew.setCell ⟨gc, hd * 4 + 3, none⟩ (.int .i64 (m : Int))) v6 F G P Gb fn (.slice (some ⟨gc, 0, none⟩) m cl) (g7.land hd) DD ∧ (∃ z, U7.drew.cell? ⟨gc, hd * 4 + 3, none⟩ = some (.int .i64 z)) ∧ U7.drew.frozen? ⟨gc, hd * 4 + 3, none⟩ = false) := (E7.out.keep (below_drew1 _)).land HM7.out hd hlt7
          go_upto_region 27 with fail
          refine wp_region_held_drew (S := fun W => W.cell? ⟨Gb, 2, none⟩ = some (.slice (some ⟨gc, 0, none⟩) m cl)) (by kernel_rfl) (by exact (E7.out.keep (below_drew1 _)).cells.2.2) (fun hHeld => ?_)
          obtain ⟨zz, l1⟩ := LD.out.2.1
          have l2 := LD.out.2.2
          have QD : Hid ((U7.drew.setCell ⟨gc, hd * 4 + 3, none⟩ (.int .i64 (m : Int))).cell? ⟨Gb, 2, none⟩ = some (.slice (some ⟨gc, 0, none⟩) m cl)) := LD.out.1.cells.2.2
          have LE : Hid (SG w (U7.drew.setCell ⟨gc, hd * 4 + 3, none⟩ (.int .i64 (m : Int))) v6 F G P Gb fn (.slice (some ⟨gc, 0, none⟩) m cl) (g7.land hd) DD) := LD.out.1
          clear LD q2 x0 x1 x2 x3 x4
          generalize U7.drew = UD at *
          refine wpAnyH_take (i := 0) (v := ?_) rfl (by kernel_rfl) (by kernel_rfl) (by kernel_rfl) (fun _ _ _ h => h) (Or.inl ⟨by rfl, ?_⟩) (by assumption) ?_
          rotate_left
          · (intro w hSw; (try dsimp only at hSw); (try obtain ⟨hSa, hSb, hSc, hSd⟩ := hSw); (try obtain ⟨hSa, hSb, hSc⟩ := hSw); (try obtain ⟨hSa, hSb⟩ := hSw); go_simp; (try with_reducible rfl))
          refine wpAnyH_take (i := 1) (v := ?_) rfl (by kernel_rfl) (by kernel_rfl) (by kernel_rfl) (fun _ _ _ h => h) (Or.inl ⟨by rfl, ?_⟩) (by assumption) ?_
          rotate_left
          · (intro w hSw; (try dsimp only at hSw); (try obtain ⟨hSa, hSb, hSc, hSd⟩ := hSw); (try obtain ⟨hSa, hSb, hSc⟩ := hSw); (try obtain ⟨hSa, hSb⟩ := hSw); go_simp; (try with_reducible rfl))
          refine wpAnyH_take (i := 2) (v := ?_) rfl (by kernel_rfl) (by kernel_rfl) (by kernel_rfl) (fun _ _ _ h => h) (Or.inl ⟨by rfl, ?_⟩) (by assumption) ?_
          rotate_left
          · (intro w hSw; (try dsimp only at hSw); (try obtain ⟨hSa, hSb, hSc, hSd⟩ := hSw); (try obtain ⟨hSa, hSb, hSc⟩ := hSw); (try obtain ⟨hSa, hSb⟩ := hSw); go_simp; (try with_reducible rfl))
          refine wpAnyH_take (i := 3) (v := ?_) rfl (by kernel_rfl) (by kernel_rfl) (by kernel_rfl) (fun _ _ _ h => h) (Or.inl ⟨by rfl, ?_⟩) (by assumption) ?_
          rotate_left
          · (intro w hSw; (try dsimp only at hSw); (try obtain ⟨hSa, hSb, hSc, hSd⟩ := hSw); (try obtain ⟨hSa, hSb, hSc⟩ := hSw); (try obtain ⟨hSa, hSb⟩ := hSw); go_simp; (try with_reducible rfl))
          refine wpAnyH_take (i := 4) (v := ?_) rfl (by kernel_rfl) (by kernel_rfl) (by kernel_rfl) (fun _ _ _ h => h) (Or.inl ⟨by rfl, ?_⟩) (by assumption) ?_
          rotate_left
          · (intro w hSw; (try dsimp only at hSw); (try obtain ⟨hSa, hSb, hSc, hSd⟩ := hSw); (try obtain ⟨hSa, hSb, hSc⟩ := hSw); (try obtain ⟨hSa, hSb⟩ := hSw); go_simp; (try with_reducible rfl))
          refine wpAnyH_take (i := 5) (v := ?_) rfl (by kernel_rfl) (by kernel_rfl) (by kernel_rfl) (fun _ _ _ h => h) (Or.inl ⟨by rfl, ?_⟩) (by assumption) ?_
          rotate_left
          · (intro w hSw; (try dsimp only at hSw); (try obtain ⟨hSa, hSb, hSc, hSd⟩ := hSw); (try obtain ⟨hSa, hSb, hSc⟩ := hSw); (try obtain ⟨hSa, hSb⟩ := hSw); go_simp; (try with_reducible rfl))
          refine wpAnyH_take (i := 6) (v := ?_) rfl (by kernel_rfl) (by kernel_rfl) (by kernel_rfl) (fun _ _ _ h => h) (Or.inl ⟨by rfl, ?_⟩) (by assumption) ?_
          rotate_left
          · (intro w hSw; (try dsimp only at hSw); (try obtain ⟨hSa, hSb, hSc, hSd⟩ := hSw); (try obtain ⟨hSa, hSb, hSc⟩ := hSw); (try obtain ⟨hSa, hSb⟩ := hSw); go_simp; (try with_reducible rfl))
          refine wpAnyH_take (i := 7) (v := ?_) rfl (by kernel_rfl) (by kernel_rfl) (by kernel_rfl) (fun _ _ _ h => h) (Or.inl ⟨by rfl, ?_⟩) (by assumption) ?_
          rotate_left
          · (intro w hSw; (try dsimp only at hSw); (try obtain ⟨hSa, hSb, hSc, hSd⟩ := hSw); (try obtain ⟨hSa, hSb, hSc⟩ := hSw); (try obtain ⟨hSa, hSb⟩ := hSw); go_simp; (try with_reducible rfl))
          refine wpAnyH_take (i := 8) (v := ?_) rfl (by kernel_rfl) (by kernel_rfl) (by kernel_rfl) (fun _ _ _ h => h) (Or.inl ⟨by rfl, ?_⟩) (by assumption) ?_
          rotate_left
          · (intro w hSw; (try dsimp only at hSw); (try obtain ⟨hSa, hSb, hSc, hSd⟩ := hSw); (try obtain ⟨hSa, hSb, hSc⟩ := hSw); (try obtain ⟨hSa, hSb⟩ := hSw); go_simp; (try with_reducible rfl))
          refine wpAnyH_take (i := 9) (v := ?_) rfl (by kernel_rfl) (by kernel_rfl) (by kernel_rfl) (fun _ _ _ h => h) (Or.inl ⟨by rfl, ?_⟩) (by assumption) ?_
          rotate_left
          · (intro w hSw; (try dsimp only at hSw); (try obtain ⟨hSa, hSb, hSc, hSd⟩ := hSw); (try obtain ⟨hSa, hSb, hSc⟩ := hSw); (try obtain ⟨hSa, hSb⟩ := hSw); go_simp; (try with_reducible rfl))
          refine wpAnyH_take (i := 10) (v := ?_) rfl (by kernel_rfl) (by kernel_rfl) (by kernel_rfl) (fun _ _ _ h => h) (Or.inl ⟨by rfl, ?_⟩) (by assumption) ?_
          rotate_left
          · (intro w hSw; (try dsimp only at hSw); (try obtain ⟨hSa, hSb, hSc, hSd⟩ := hSw); (try obtain ⟨hSa, hSb, hSc⟩ := hSw); (try obtain ⟨hSa, hSb⟩ := hSw); go_simp; (try with_reducible rfl))
          refine wpAnyH_take (i := 11) (v := ?_) rfl (by kernel_rfl) (by kernel_rfl) (by kernel_rfl) (fun _ _ _ h => h) (Or.inl ⟨by rfl, ?_⟩) (by assumption) ?_
          rotate_left
          · (intro w hSw; (try dsimp only at hSw); (try obtain ⟨hSa, hSb, hSc, hSd⟩ := hSw); (try obtain ⟨hSa, hSb, hSc⟩ := hSw); (try obtain ⟨hSa, hSb⟩ := hSw); go_simp; (try with_reducible rfl))
          refine wpAnyH_ready (rs := [12]) (by kernel_rfl) (by simp) ?_
          refine AllReadyH.cons rfl (fun KC hKC => ?_) AllReadyH.nil
          go_simp
          refine hKC.out _ _ (by exact QD.out) (fun hHeld => ?_)
          clear hKC KC
          refine wpAnyH_done (by kernel_rfl) ?_ _
          clear hHeld l1 l2 QD
          generalize UD.setCell ⟨gc, hd * 4 + 3, none⟩ (.int .i64 (m : Int)) = U8 at LE ⊢
          have hll := Gn.land_len g7 hd
          generalize hgg : g7.land hd = g8 at LE hll
          have HB8 : Hid ((g7.land hd = g8 ∧ g8.code.length = g7.code.length) ∧ g8.code.length ≤ g0.code.length + (4 + 5 * sizeT n x.body) ∧ g8.consts.length = g7.consts.length ∧ g8.certs.length = g7.certs.length) := by
            have hb := HB7.out
            exact ⟨⟨hgg, hll⟩, by omega, by rw [← hgg]; rfl, by rw [← hgg]; rfl⟩
          have E8 : Hid (SG w U8 v6 F G P Gb fn (.slice (some ⟨gc, 0, none⟩) m cl) g8 DD) := LE.out
          clear hgg hll LE E7 hm5
          generalize hvc8 : Value.slice (some ⟨gc, 0, none⟩) m cl = vc8 at E8
          clear hvc8
          clear HM7
          obtain ⟨x0, x1, x2, x3, x4⟩ := (HXC.out _ _ _ _ E8.out).1
          have HF : Hid (SG w U8 v6 F G P Gb fn vc8 (genN n fn l lev (k + 1) g) D) := by
            have e : genN n fn l lev (k + 1) g = g8 := by
              rw [HGN.out]
              unfold genS
              have hl2 : g0.code.length + 2 = hd := by have a := HHD.out; have b := HB3.out.1.2; have c := HB2.out.1.2; have d := HB1.out.1.2; omega
              have e5 : (⟨g0.code ++ [⟨1, (cnstI g0.consts x.b : Int), 0, 0⟩, ⟨3, (lev : Int), 0, 0⟩, ⟨27, (lev : Int), 0, 0⟩], cnstL g0.consts x.b, g0.certs ++ [⟨fn, (hd : Int), (lev : Int), x.b⟩]⟩ : Gn) = g5 := by rw [← HB5.out.1.1, ← HB4.out.1.1, ← HB3.out.1.1, ← HB2.out.1.1, ← HB1.out.1.1, HIX.out]; simp [Gn.put]
              rw [if_neg (by rw [KK.out]; omega), if_neg (by rw [KK.out]; omega), if_pos KK.out]
              simp only [hl2]
              rw [e5, HB6.out.1.1, HB7.out.1.1, HB8.out.1.1]
            show SG w U8 v6 F G P Gb fn vc8 (genN n fn l lev (k + 1) g) D
            rw [e]
            exact (HXC.out _ _ _ _ E8.out).2
          clear x0 x1 x2 x3 x4 E8
          go_wp2_with fail
          go_roundw
          case rel => exact ⟨k + 1, _, _, by omega, by go_num, HF⟩
          case measure => simp [intOf]; omega
        focus
          go_simp
          have D3 : Hid (SG w (UD.alloc (.cells #[.int .i64 fn, .int .i64 (hd : Int), .int .i64 (lev : Int), .int .u32 x.b] 112)) ⟨.slice b1 F.length d1, .slice b2 g4.consts.length d2, .slice b3 G.length d3, .slice b4 nt d4⟩ F G P Gb fn vc4 g4 DD) := HD.out.keep (below_alloc _ _)
          have O3 : Hid ((UD.alloc (.cells #[.int .i64 fn, .int .i64 (hd : Int), .int .i64 (lev : Int), .int .u32 x.b] 112)).ownsRow w.heap.size 112 4 (.slice b4 nt d4) nt (g4.certs.flatMap MT.cells)) := (by have := D3.out.bl.prow.2.2.2.2; rw [HNT.out] at this; exact this)
          have q3 : (UD.alloc (.cells #[.int .i64 fn, .int .i64 (hd : Int), .int .i64 (lev : Int), .int .u32 x.b] 112)).cell? ⟨P, 3, none⟩ = some (.slice b4 nt d4) := D3.out.pcells.2.2.2
          refine hKC.out _ _ (by exact ⟨D3.out.cells.1, D3.out.cells.2.1, ((HXC.out _ _ _ _ D3.out).1).2.2.1⟩) (fun hHeld => ?_)
          clear hKC KC
          refine wpAnyH_ready (rs := [10]) (by kernel_rfl) (by simp) ?_
          refine AllReadyH.cons rfl (fun KC hKC => ?_) AllReadyH.nil
          go_simp
          refine hKC.out _ _ (by assumption) (fun hHeld => ?_)
          clear hKC KC
          refine wpAnyH_ready (rs := [22]) (by kernel_rfl) (by simp) ?_
          refine AllReadyH.cons rfl (fun KC hKC => ?_) AllReadyH.nil
          refine step_append_lies _ rfl (.tmp 113) (.tmp 124) 29 rfl w.heap.size 112 iT (.agg #[.int .i64 0, .int .i64 0, .int .i64 0, .int .u32 0]) 4 32 Tryz.underlying29 hiT hT0 hT1 hT2 rfl (by decide) (.slice b4 nt d4) nt (g4.certs.flatMap MT.cells) (by simp [Act.eval]) O3.out ⟨UD.heap.size, 0, none⟩ 1 1 [.int .i64 fn, .int .i64 (hd : Int), .int .i64 (lev : Int), .int .u32 x.b] (by simp [Act.eval]) rfl (lit_at UD [.int .i64 fn, .int .i64 (hd : Int), .int .i64 (lev : Int), .int .u32 x.b] 112) (by intro u hu; simp at hu; rcases hu with rfl | rfl | rfl | rfl <;> rfl) (by omega) (by unfold maxLen; omega) (by omega) D3.out.bl.size _ rfl ?_
          intro gg cap u8 hown hgrow hat _
          have D4 : Hid _ := D3.out.push_t ⟨fn, (hd : Int), (lev : Int), x.b⟩ (.slice (some ⟨gg, 0, none⟩) (nt + 1) cap) (by rw [HNT.out]; exact hown) hgrow (hat_of hat)
          have y0 := D4.out.2.1.1
          have y1 := D4.out.2.1.2
          have y2 : Hid (u8.cell? ⟨X, 2, none⟩ = some (.int .i64 x.b) ∧ (u8.setCell ⟨P, 3, none⟩ (.slice (some ⟨gg, 0, none⟩) (nt + 1) cap)).cell? ⟨X, 2, none⟩ = some (.int .i64 x.b)) := ⟨HXG.out _ (D3.out.bl.push_t ⟨fn, (hd : Int), (lev : Int), x.b⟩ (.slice (some ⟨gg, 0, none⟩) (nt + 1) cap) (by rw [HNT.out]; exact hown) hgrow (hat_of hat)), ((HXC.out _ _ _ _ D4.out.1).1).2.2.1⟩
          clear hown hgrow hat O3 D3 q1 q3
          refine hKC.out _ _ (by exact ⟨D4.out.2.2.1.1, D4.out.2.2.1.2, y2.out.1⟩) (fun hHeld => ?_)
          clear hKC KC
          refine wpAnyH_take (i := 23) (v := ?_) rfl (by kernel_rfl) (by kernel_rfl) (by kernel_rfl) (fun _ _ _ h => h) (Or.inl ⟨by rfl, ?_⟩) (by assumption) ?_
          rotate_left
          · (intro w hSw; (try dsimp only at hSw); (try obtain ⟨hSa, hSb, hSc, hSd⟩ := hSw); (try obtain ⟨hSa, hSb, hSc⟩ := hSw); (try obtain ⟨hSa, hSb⟩ := hSw); go_simp; (try with_reducible rfl))
          refine wpAnyH_take (i := 24) (v := ?_) rfl (by kernel_rfl) (by kernel_rfl) (by kernel_rfl) (fun _ _ _ h => h) (Or.inl ⟨by rfl, ?_⟩) (by assumption) ?_
          rotate_left
          · (intro w hSw; (try dsimp only at hSw); (try obtain ⟨hSa, hSb, hSc, hSd⟩ := hSw); (try obtain ⟨hSa, hSb, hSc⟩ := hSw); (try obtain ⟨hSa, hSb⟩ := hSw); go_simp; (try with_reducible rfl))
          refine wpAnyH_ready (rs := [25]) (by kernel_rfl) (by simp) ?_
          refine AllReadyH.cons rfl (fun KC hKC => ?_) AllReadyH.nil
          go_simp
          refine hKC.out _ _ (by exact ⟨D4.out.2.2.2.1, D4.out.2.2.2.2, y2.out.2⟩) (fun hHeld => ?_)
          clear hKC KC
          refine wpAnyH_done (by kernel_rfl) ?_ _
          clear hHeld
          have D5 : Hid (SG w (u8.setCell ⟨P, 3, none⟩ (.slice (some ⟨gg, 0, none⟩) (nt + 1) cap)) ⟨.slice b1 F.length d1, .slice b2 g4.consts.length d2, .slice b3 G.length d3, (.slice (some ⟨gg, 0, none⟩) (nt + 1) cap)⟩ F G P Gb fn vc4 ⟨g4.code, g4.consts, g4.certs ++ [⟨fn, (hd : Int), (lev : Int), x.b⟩]⟩ DD) := D4.out.1
          generalize u8.setCell ⟨P, 3, none⟩ (.slice (some ⟨gg, 0, none⟩) (nt + 1) cap) = U5 at D5 ⊢
          clear D4 y0 y1 y2 HD
          generalize hgg : (⟨g4.code, g4.consts, g4.certs ++ [⟨fn, (hd : Int), (lev : Int), x.b⟩]⟩ : Gn) = g5 at D5
          have HB5 : Hid (((⟨g4.code, g4.consts, g4.certs ++ [⟨fn, (hd : Int), (lev : Int), x.b⟩]⟩ : Gn) = g5 ∧ g5.code.length = g4.code.length) ∧ g5.code.length ≤ g0.code.length + 3 ∧ g5.consts.length ≤ g0.consts.length + 1 ∧ g5.certs.length ≤ g0.certs.length + 1) := by
            have h4 := HB4.out
            have h3 := HB3.out
            have h2 := HB2.out
            have h1 := HB1.out
            have e1 : g5.code.length = g4.code.length := by rw [← hgg]
            have e2 : g5.consts.length = g4.consts.length := by rw [← hgg]
            have e3 : g5.certs.length = g4.certs.length + 1 := by rw [← hgg]; simp
            exact ⟨⟨hgg, e1⟩, by omega, by omega, by omega⟩
          generalize hv5 : (⟨.slice b1 F.length d1, .slice b2 g4.consts.length d2, .slice b3 G.length d3, (.slice (some ⟨gg, 0, none⟩) (nt + 1) cap)⟩ : VP) = v5 at D5
          clear hv5 hgg
          have E5 : Hid (SG w U5 v5 F G P Gb fn vc4 g5 DD) := D5.out
          clear D5
          generalize hvc5 : vc4 = vc5 at E5
          clear hvc5
          obtain ⟨x0, x1, x2, x3, x4⟩ := (HXC.out _ _ _ _ E5.out).1
          go_wp2_with fail
          refine (HI.out w U5 v5 F G P Gb fn vc5 g5 DD (.slice ab lb cb) x.body (lev + 1) _ (by omega) E5.out HX.out.1 HX.out.2.2.1 (by have := HB5.out; have := HSZ.out; omega) (by have := HB5.out; have := HSZ.out; omega) (by have := HB5.out; have := HSZ.out; omega) (by have := HSZ.out; omega)).mono ?_
          rintro e U6 ⟨rfl, v6, vc6, hh⟩
          have hle := genT_le n fn x.body (lev + 1) g5
          have hge := genT_len n fn x.body (lev + 1) g5
          generalize hgg : genT n fn x.body (lev + 1) g5 = g6 at hh hle hge
          have HB6 : Hid ((genT n fn x.body (lev + 1) g5 = g6 ∧ g5.code.length ≤ g6.code.length) ∧ g6.code.length ≤ g0.code.length + (3 + 5 * sizeT n x.body) ∧ g6.consts.length ≤ g0.consts.length + (1 + sizeT n x.body) ∧ g6.certs.length ≤ g0.certs.length + (1 + sizeT n x.body)) := by
            have hb5 := HB5.out
            have h1 := hle.code
            have h2 := hle.consts
            have h3 := hle.certs
            exact ⟨⟨hgg, hge⟩, by omega, by omega, by omega⟩
          have E6 : Hid (SG w U6 v6 F G P Gb fn vc6 g6 DD) := hh
          clear hgg hh hle hge E5 x0 x1 x2 x3 x4
          obtain ⟨x0, x1, x2, x3, x4⟩ := (HXC.out _ _ _ _ E6.out).1
          go_wp2_with fail
          refine (l10Put_any w U6 v6 F G P Gb fn vc6 g6 DD 25 0 0 ((hd : Int)) E6.out (by have := HB6.out; have := HSZ.out; omega)).mono ?_
          rintro e U7 ⟨rfl, vc7, hh⟩
          generalize hgg : g6.put [⟨25, 0, 0, (hd : Int)⟩] = g7 at hh
          have HB7 : Hid ((g6.put [⟨25, 0, 0, (hd : Int)⟩] = g7 ∧ g7.code.length = g6.code.length + 1) ∧ g7.code.length ≤ g0.code.length + (4 + 5 * sizeT n x.body) ∧ g7.consts.length = g6.consts.length ∧ g7.certs.length = g6.certs.length) := by
            have hb := HB6.out
            have hc : g7.code.length = g6.code.length + 1 := by rw [← hgg, Gn.put_len]; rfl
            exact ⟨⟨hgg, hc⟩, by omega, by rw [← hgg]; rfl, by rw [← hgg]; rfl⟩
          have E7 : Hid (SG w U7 v6 F G P Gb fn vc7 g7 DD) := hh
          clear hgg hh E6 x0 x1 x2 x3 x4
          obtain ⟨x0, x1, x2, x3, x4⟩ := (HXC.out _ _ _ _ E7.out).1
          obtain ⟨⟨al, cl, el⟩, ol⟩ := E7.out.bl.nrow
          have hlt7 : hd < g7.code.length := (by have a := HHD.out; have b := HB4.out.1.2; have c := HB5.out.1.2; have c6 := HB6.out.1.2; have d := HB7.out.1.2; omega)
          obtain ⟨gc, oc, hgc⟩ : ∃ gc oc, al = some ⟨gc, 0, none⟩ := by
            rcases own_row ol with ⟨e, e2⟩ | ⟨gc, cc, e⟩
            · omega
            · rw [el] at e
              simp only [Value.slice.injEq, true_and] at e
              exact ⟨gc, cc, e.1⟩
          subst hgc el
          clear ol oc
          generalize hm : g7.code.length = m at E7 hlt7
          have HM7 : Hid (g7.code.length = m) := hm
          clear hm
          have hm5 : m ≤ 100001 := by have a := HB7.out; have b := HM7.out; have := HSZ.out; omega
          obtain ⟨_, _, q2⟩ := E7.out.cells
          have LD : Hid (SG w (U7.drew.setCell ⟨gc, hd * 4 + 3, none⟩ (.int .i64 (m : Int))) v6 F G P Gb fn (.slice (some ⟨gc, 0, none⟩) m cl) (g7.land hd) DD ∧ (∃ z, U7.drew.cell? ⟨gc, hd * 4 + 3, none⟩ = some (.int .i64 z)) ∧ U7.drew.frozen? ⟨gc, hd * 4 + 3, none⟩ = false) := (E7.out.keep (below_drew1 _)).land HM7.out hd hlt7
          go_upto_region 27 with fail
          refine wp_region_held_drew (S := fun W => W.cell? ⟨Gb, 2, none⟩ = some (.slice (some ⟨gc, 0, none⟩) m cl)) (by kernel_rfl) (by exact (E7.out.keep (below_drew1 _)).cells.2.2) (fun hHeld => ?_)
          obtain ⟨zz, l1⟩ := LD.out.2.1
          have l2 := LD.out.2.2
          have QD : Hid ((U7.drew.setCell ⟨gc, hd * 4 + 3, none⟩ (.int .i64 (m : Int))).cell? ⟨Gb, 2, none⟩ = some (.slice (some ⟨gc, 0, none⟩) m cl)) := LD.out.1.cells.2.2
          have LE : Hid (SG w (U7.drew.setCell ⟨gc, hd * 4 + 3, none⟩ (.int .i64 (m : Int))) v6 F G P Gb fn (.slice (some ⟨gc, 0, none⟩) m cl) (g7.land hd) DD) := LD.out.1
          clear LD q2 x0 x1 x2 x3 x4
          generalize U7.drew = UD at *
          refine wpAnyH_take (i := 0) (v := ?_) rfl (by kernel_rfl) (by kernel_rfl) (by kernel_rfl) (fun _ _ _ h => h) (Or.inl ⟨by rfl, ?_⟩) (by assumption) ?_
          rotate_left
          · (intro w hSw; (try dsimp only at hSw); (try obtain ⟨hSa, hSb, hSc, hSd⟩ := hSw); (try obtain ⟨hSa, hSb, hSc⟩ := hSw); (try obtain ⟨hSa, hSb⟩ := hSw); go_simp; (try with_reducible rfl))
          refine wpAnyH_take (i := 1) (v := ?_) rfl (by kernel_rfl) (by kernel_rfl) (by kernel_rfl) (fun _ _ _ h => h) (Or.inl ⟨by rfl, ?_⟩) (by assumption) ?_
          rotate_left
          · (intro w hSw; (try dsimp only at hSw); (try obtain ⟨hSa, hSb, hSc, hSd⟩ := hSw); (try obtain ⟨hSa, hSb, hSc⟩ := hSw); (try obtain ⟨hSa, hSb⟩ := hSw); go_simp; (try with_reducible rfl))
          refine wpAnyH_take (i := 2) (v := ?_) rfl (by kernel_rfl) (by kernel_rfl) (by kernel_rfl) (fun _ _ _ h => h) (Or.inl ⟨by rfl, ?_⟩) (by assumption) ?_
          rotate_left
          · (intro w hSw; (try dsimp only at hSw); (try obtain ⟨hSa, hSb, hSc, hSd⟩ := hSw); (try obtain ⟨hSa, hSb, hSc⟩ := hSw); (try obtain ⟨hSa, hSb⟩ := hSw); go_simp; (try with_reducible rfl))
          refine wpAnyH_take (i := 3) (v := ?_) rfl (by kernel_rfl) (by kernel_rfl) (by kernel_rfl) (fun _ _ _ h => h) (Or.inl ⟨by rfl, ?_⟩) (by assumption) ?_
          rotate_left
          · (intro w hSw; (try dsimp only at hSw); (try obtain ⟨hSa, hSb, hSc, hSd⟩ := hSw); (try obtain ⟨hSa, hSb, hSc⟩ := hSw); (try obtain ⟨hSa, hSb⟩ := hSw); go_simp; (try with_reducible rfl))
          refine wpAnyH_take (i := 4) (v := ?_) rfl (by kernel_rfl) (by kernel_rfl) (by kernel_rfl) (fun _ _ _ h => h) (Or.inl ⟨by rfl, ?_⟩) (by assumption) ?_
          rotate_left
          · (intro w hSw; (try dsimp only at hSw); (try obtain ⟨hSa, hSb, hSc, hSd⟩ := hSw); (try obtain ⟨hSa, hSb, hSc⟩ := hSw); (try obtain ⟨hSa, hSb⟩ := hSw); go_simp; (try with_reducible rfl))
          refine wpAnyH_take (i := 5) (v := ?_) rfl (by kernel_rfl) (by kernel_rfl) (by kernel_rfl) (fun _ _ _ h => h) (Or.inl ⟨by rfl, ?_⟩) (by assumption) ?_
          rotate_left
          · (intro w hSw; (try dsimp only at hSw); (try obtain ⟨hSa, hSb, hSc, hSd⟩ := hSw); (try obtain ⟨hSa, hSb, hSc⟩ := hSw); (try obtain ⟨hSa, hSb⟩ := hSw); go_simp; (try with_reducible rfl))
          refine wpAnyH_take (i := 6) (v := ?_) rfl (by kernel_rfl) (by kernel_rfl) (by kernel_rfl) (fun _ _ _ h => h) (Or.inl ⟨by rfl, ?_⟩) (by assumption) ?_
          rotate_left
          · (intro w hSw; (try dsimp only at hSw); (try obtain ⟨hSa, hSb, hSc, hSd⟩ := hSw); (try obtain ⟨hSa, hSb, hSc⟩ := hSw); (try obtain ⟨hSa, hSb⟩ := hSw); go_simp; (try with_reducible rfl))
          refine wpAnyH_take (i := 7) (v := ?_) rfl (by kernel_rfl) (by kernel_rfl) (by kernel_rfl) (fun _ _ _ h => h) (Or.inl ⟨by rfl, ?_⟩) (by assumption) ?_
          rotate_left
          · (intro w hSw; (try dsimp only at hSw); (try obtain ⟨hSa, hSb, hSc, hSd⟩ := hSw); (try obtain ⟨hSa, hSb, hSc⟩ := hSw); (try obtain ⟨hSa, hSb⟩ := hSw); go_simp; (try with_reducible rfl))
          refine wpAnyH_take (i := 8) (v := ?_) rfl (by kernel_rfl) (by kernel_rfl) (by kernel_rfl) (fun _ _ _ h => h) (Or.inl ⟨by rfl, ?_⟩) (by assumption) ?_
          rotate_left
          · (intro w hSw; (try dsimp only at hSw); (try obtain ⟨hSa, hSb, hSc, hSd⟩ := hSw); (try obtain ⟨hSa, hSb, hSc⟩ := hSw); (try obtain ⟨hSa, hSb⟩ := hSw); go_simp; (try with_reducible rfl))
          refine wpAnyH_take (i := 9) (v := ?_) rfl (by kernel_rfl) (by kernel_rfl) (by kernel_rfl) (fun _ _ _ h => h) (Or.inl ⟨by rfl, ?_⟩) (by assumption) ?_
          rotate_left
          · (intro w hSw; (try dsimp only at hSw); (try obtain ⟨hSa, hSb, hSc, hSd⟩ := hSw); (try obtain ⟨hSa, hSb, hSc⟩ := hSw); (try obtain ⟨hSa, hSb⟩ := hSw); go_simp; (try with_reducible rfl))
          refine wpAnyH_take (i := 10) (v := ?_) rfl (by kernel_rfl) (by kernel_rfl) (by kernel_rfl) (fun _ _ _ h => h) (Or.inl ⟨by rfl, ?_⟩) (by assumption) ?_
          rotate_left
          · (intro w hSw; (try dsimp only at hSw); (try obtain ⟨hSa, hSb, hSc, hSd⟩ := hSw); (try obtain ⟨hSa, hSb, hSc⟩ := hSw); (try obtain ⟨hSa, hSb⟩ := hSw); go_simp; (try with_reducible rfl))
          refine wpAnyH_take (i := 11) (v := ?_) rfl (by kernel_rfl) (by kernel_rfl) (by kernel_rfl) (fun _ _ _ h => h) (Or.inl ⟨by rfl, ?_⟩) (by assumption) ?_
          rotate_left
          · (intro w hSw; (try dsimp only at hSw); (try obtain ⟨hSa, hSb, hSc, hSd⟩ := hSw); (try obtain ⟨hSa, hSb, hSc⟩ := hSw); (try obtain ⟨hSa, hSb⟩ := hSw); go_simp; (try with_reducible rfl))
          refine wpAnyH_ready (rs := [12]) (by kernel_rfl) (by simp) ?_
          refine AllReadyH.cons rfl (fun KC hKC => ?_) AllReadyH.nil
          go_simp
          refine hKC.out _ _ (by exact QD.out) (fun hHeld => ?_)
          clear hKC KC
          refine wpAnyH_done (by kernel_rfl) ?_ _
          clear hHeld l1 l2 QD
          generalize UD.setCell ⟨gc, hd * 4 + 3, none⟩ (.int .i64 (m : Int)) = U8 at LE ⊢
          have hll := Gn.land_len g7 hd
          generalize hgg : g7.land hd = g8 at LE hll
          have HB8 : Hid ((g7.land hd = g8 ∧ g8.code.length = g7.code.length) ∧ g8.code.length ≤ g0.code.length + (4 + 5 * sizeT n x.body) ∧ g8.consts.length = g7.consts.length ∧ g8.certs.length = g7.certs.length) := by
            have hb := HB7.out
            exact ⟨⟨hgg, hll⟩, by omega, by rw [← hgg]; rfl, by rw [← hgg]; rfl⟩
          have E8 : Hid (SG w U8 v6 F G P Gb fn (.slice (some ⟨gc, 0, none⟩) m cl) g8 DD) := LE.out
          clear hgg hll LE E7 hm5
          generalize hvc8 : Value.slice (some ⟨gc, 0, none⟩) m cl = vc8 at E8
          clear hvc8
          clear HM7
          obtain ⟨x0, x1, x2, x3, x4⟩ := (HXC.out _ _ _ _ E8.out).1
          have HF : Hid (SG w U8 v6 F G P Gb fn vc8 (genN n fn l lev (k + 1) g) D) := by
            have e : genN n fn l lev (k + 1) g = g8 := by
              rw [HGN.out]
              unfold genS
              have hl2 : g0.code.length + 2 = hd := by have a := HHD.out; have b := HB3.out.1.2; have c := HB2.out.1.2; have d := HB1.out.1.2; omega
              have e5 : (⟨g0.code ++ [⟨1, (cnstI g0.consts x.b : Int), 0, 0⟩, ⟨3, (lev : Int), 0, 0⟩, ⟨27, (lev : Int), 0, 0⟩], cnstL g0.consts x.b, g0.certs ++ [⟨fn, (hd : Int), (lev : Int), x.b⟩]⟩ : Gn) = g5 := by rw [← HB5.out.1.1, ← HB4.out.1.1, ← HB3.out.1.1, ← HB2.out.1.1, ← HB1.out.1.1, HIX.out]; simp [Gn.put]
              rw [if_neg (by rw [KK.out]; omega), if_neg (by rw [KK.out]; omega), if_pos KK.out]
              simp only [hl2]
              rw [e5, HB6.out.1.1, HB7.out.1.1, HB8.out.1.1]
            show SG w U8 v6 F G P Gb fn vc8 (genN n fn l lev (k + 1) g) D
            rw [e]
            exact (HXC.out _ _ _ _ E8.out).2
          clear x0 x1 x2 x3 x4 E8
          go_wp2_with fail
          go_roundw
          case rel => exact ⟨k + 1, _, _, by omega, by go_num, HF⟩
          case measure => simp [intOf]; omega
      · skip
        generalize hU0 : U = U0 at E0 x0 x1 x2 x3 x4 ⊢
        clear hU0
        generalize hvc0 : vc = vc0 at E0
        clear hvc0
        have HB0 : Hid ((g0 = g0 ∧ g0.code.length = g0.code.length) ∧ g0.code.length ≤ g0.code.length + 0 ∧ g0.consts.length = g0.consts.length ∧ g0.certs.length = g0.certs.length) := ⟨⟨rfl, rfl⟩, by omega, rfl, rfl⟩
        have KK : Hid (x.k = 4) := hk4
        have e1 : (x.k == 1) = false := by rw [hk4]; rfl
        have e2 : (x.k == 2) = false := by rw [hk4]; rfl
        have e3 : (x.k == 3) = false := by rw [hk4]; rfl
        have e4 : (x.k == 4) = true := by rw [hk4]; rfl
        clear hk4
        go_wp2_with fail
        refine (l10Put_any w U0 v F G P Gb fn vc0 g0 DD 28 (x.a + 1) 0 0 E0.out (by have := HB0.out; have := HSZ.out; omega)).mono ?_
        rintro e U1 ⟨rfl, vc1, hh⟩
        generalize hgg : g0.put [⟨28, x.a + 1, 0, 0⟩] = g1 at hh
        have HB1 : Hid ((g0.put [⟨28, x.a + 1, 0, 0⟩] = g1 ∧ g1.code.length = g0.code.length + 1) ∧ g1.code.length ≤ g0.code.length + 1 ∧ g1.consts.length = g0.consts.length ∧ g1.certs.length = g0.certs.length) := by
          have hb := HB0.out
          have hc : g1.code.length = g0.code.length + 1 := by rw [← hgg, Gn.put_len]; rfl
          exact ⟨⟨hgg, hc⟩, by omega, by rw [← hgg]; rfl, by rw [← hgg]; rfl⟩
        have E1 : Hid (SG w U1 v F G P Gb fn vc1 g1 DD) := hh
        clear hgg hh E0 x0 x1 x2 x3 x4
        obtain ⟨x0, x1, x2, x3, x4⟩ := (HXC.out _ _ _ _ E1.out).1
        have HF : Hid (SG w U1 v F G P Gb fn vc1 (genN n fn l lev (k + 1) g) D) := by
          have e : genN n fn l lev (k + 1) g = g1 := by
            rw [HGN.out]
            unfold genS
            rw [if_neg (by rw [KK.out]; omega), if_neg (by rw [KK.out]; omega), if_neg (by rw [KK.out]; omega), if_pos KK.out, HB1.out.1.1]
          show SG w U1 v F G P Gb fn vc1 (genN n fn l lev (k + 1) g) D
          rw [e]
          exact (HXC.out _ _ _ _ E1.out).2
        clear x0 x1 x2 x3 x4 E1
        go_wp2_with fail
        go_roundw
        case rel => exact ⟨k + 1, _, _, by omega, by go_num, HF⟩
        case measure => simp [intOf]; omega
    · have hkn : k = L := by omega
      subst hkn
      have HY : Hid (genN n fn l lev k g = genT (n + 1) fn l lev g) := genN_all (by rw [HL.out]; exact Nat.le_refl _)
      go_wp2_with fail
      refine bodyPost_end (v := .tuple #[]) (by kernel_rfl) rfl ?_
      exact ⟨rfl, _, _, by rw [← HY.out]; exact HK.out⟩
theorem l10List_any (n : Nat) : LiIs n := by
  induction n with
  | zero =>
    intro w u v F G P Gb fn vc g D s t lev li hli h hr _ _ _ _ _
    obtain ⟨a, c, rfl⟩ := hr
    subst hli
    exact l10List_none w u v F G P Gb fn vc g D a c lev h
  | succ n ih =>
    intro w u v F G P Gb fn vc g D s t lev li hli h hr hok h1 h2 h3 h4
    subst hli
    exact l10List_succ n ih w u v F G P Gb fn vc g D s t lev h hr hok h1 h2 h3 h4
end Go.Proofs.YtalkpddhpmjgcaaGreat
