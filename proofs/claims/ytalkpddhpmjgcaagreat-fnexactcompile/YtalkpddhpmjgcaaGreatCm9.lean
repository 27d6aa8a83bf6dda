import Derived.Test.YtalkpddhpmjgcaaGreatCm8
import Derived.Deep.RegionLaw
import Derived.Maps.OwnSet
namespace Go.Proofs.YtalkpddhpmjgcaaGreat
open Go.ChangeShapes Go.WideShapes Go.ChangeAt Go.RowKit
set_option linter.unusedVariables false
theorem HdAt.first (w : World) (n : Nat) (v : Value) (t : TL n) (h : OwnT w 0 n v t) : HdAt w ((w.alloc (.map #[] 0)).alloc (.cells #[v] 33)) w.heap.size [] [] (.slice (some ⟨w.heap.size + 1, 0, none⟩) 1 1) [⟨n, t, v⟩] v (fun _ => False) := by
  have b1 : Below w.heap.size w (w.alloc (.map #[] 0)) := below_alloc _ _
  have b2 := below_alloc (w.alloc (.map #[] 0)) (.cells #[v] 33)
  have e1 : (w.alloc (.map #[] 0)).heap.size = w.heap.size + 1 := by simp
  refine ⟨⟨?_, fun p hp => by simp only [List.mem_singleton] at hp; subst hp; exact h, below_on b1 (Nat.le_refl _) b2⟩, ⟨#[], 0, ?_, fun e he => by simp at he⟩, fun a ha => (by cases ha), fun a ha => (by cases ha), Nat.le_refl _, fun a ha => (by cases ha), .inr (.inl ⟨⟨n, t, v⟩, by simp, rfl⟩)⟩
  · have := World.ownsRow_lit (base := w.heap.size) (e := 33) (size := 1) (w.alloc (.map #[] 0)) #[v] 1 (by simp) (by unfold maxLen; omega) (by simp)
    rw [e1] at this
    simpa [pCell] using this
  · rw [b2.block w.heap.size (by rw [e1]; omega)]
    exact Array.getElem?_push_size
set_option maxHeartbeats 8000000 in
set_option maxRecDepth 100000 in
theorem stmtsHold_any (n : Nat) (v : Value) (t : TL n) (w : World) (h : OwnT w 0 n v t) (hs : sizeT n t ≤ 1048576) : Calls Tryz.prog 77 #[v] w fun e w' => SaysIff e (allOkT n t) ∧ Below w.heap.size w w' := by
  obtain ⟨iL, hi, hz0, hz1, hz2⟩ := info_parts infoL
  have E0 : Hid _ := HdAt.first w n v t h
  have HS : Hid (sizeT n t ≤ 1048576 ∧ OwnT w 0 n v t) := ⟨hs, h⟩
  obtain ⟨a1, c1, e1⟩ := h.is_slice
  clear h hs
  have HV : Hid (v = .slice a1 (lenT n t) c1) := e1
  subst e1
  generalize lenT n t = ln at E0 HS HV ⊢
  go_enter Tryz.func77, Tryz.ntmps77
  have hmm := @run_makeMap Tryz.prog
  go_wp2_with fail
  clear hmm
  go_loopg [4, 5, 6, 7, 8, 9] (2 * sizeT n t + 1) (fun m ls _ _ _ _ _ wr => ∃ (V : Value) (ps : List Pd) (keys Vis : List Addr), ls = V ∧ Hid (HdAt w wr w.heap.size keys Vis V ps (.slice a1 ln c1) (fun _ => False) ∧ pWork ps = m ∧ m ≤ 2 * sizeT n t + 1 ∧ (allOkT n t → pOk ps)))
  case atStart => exact ⟨_, _, _, _, rfl, E0.out, by simp [pWork], Nat.le_refl _, fun e p hp => by simp only [List.mem_singleton] at hp; subst hp; exact e⟩
  case round =>
    clear E0
    obtain ⟨V, ps, keys, Vis, rfl, HK⟩ := hrel
    by_cases hne : ps = []
    · subst hne
      obtain ⟨a3, c3, e3⟩ := (Rd.of_own HK.out.1.wk.row).is_slice
      simp only [List.length_nil] at e3
      subst e3
      have HZ : Hid (allOkT n t) := by
        have h1 : Cl w Vis (DoneV Vis) := HK.out.1.cl.mono fun v q => by
          rcases q with q | ⟨p, hp, _⟩ | q
          · exact q
          · cases hp
          · exact q.elim
        have h2 : DoneV Vis (.slice a1 ln c1) := by
          rcases HK.out.1.rt with q | ⟨p, hp, _⟩ | q
          · exact q
          · cases hp
          · exact q.elim
        exact h1.all n _ t HS.out.2 h2
      go_wp2_with fail
      go_ret
      exact ⟨.yes HZ.out, HK.out.1.wk.bel⟩
    · obtain ⟨qs, p, rfl⟩ := last_of hne
      clear hne
      obtain ⟨pn, pt, pv⟩ := p
      have hlen : (qs ++ [(⟨pn, pt, pv⟩ : Pd)]).length = qs.length + 1 := by simp
      rcases own_rowK HK.out.1.wk.row with ⟨_, e2⟩ | ⟨g, cap, e, hcap⟩
      · simp at e2
      rw [hlen] at e hcap
      subst e
      have HR : Hid (OwnT w 0 pn pv pt) := HK.out.1.wk.rd ⟨pn, pt, pv⟩ (by simp)
      obtain ⟨a4, c4, e4⟩ := HR.out.is_slice
      subst e4
      have q0 := HK.out.1.wk.last
      simp only [] at q0
      have HP : Hid (HdAt w wr w.heap.size keys Vis (.slice (some ⟨g, 0, none⟩) qs.length cap) qs (.slice a1 ln c1) (fun v => v = .slice a4 (lenT pn pt) c4) ∧ gk = pWork qs + (2 * sizeT pn pt + 1) ∧ gk ≤ 2 * sizeT n t + 1 ∧ (allOkT n t → pOk qs ∧ allOkT pn pt)) := by
        refine ⟨HK.out.1.pop rfl, ?_, HK.out.2.2.1, fun e => ?_⟩
        · have := HK.out.2.1
          rw [pWork_add] at this
          simp [pWork] at this ⊢
          omega
        · have := (pOk_add _ _).1 (HK.out.2.2.2 e)
          exact ⟨this.1, this.2 ⟨pn, pt, .slice a4 (lenT pn pt) c4⟩ (by simp)⟩
      have hls := len_le_size pn pt
      have HSZ : Hid (sizeT pn pt ≤ 1048577) := by show sizeT pn pt ≤ 1048577; have h1 := HP.out.2; have h2 := HS.out.1; omega
      have hlp : lenT pn pt ≤ 1048577 := Nat.le_trans hls HSZ.out
      have hql : qs.length ≤ 1048576 * 3 := by
        have h1 := HP.out.2
        have h2 := HS.out.1
        have h3 := len_le_work qs
        omega
      clear hlen hls HK
      generalize hqq : qs.length = ql at HP hcap hql q0 ⊢
      have HQL : Hid (qs.length = ql) := hqq
      clear hqq
      generalize hlpp : lenT pn pt = lp at hlp HR q0 HP ⊢
      have HLP : Hid (lenT pn pt = lp) := hlpp
      clear hlpp
      have hcI : (ql : Int) ≤ (cap : Int) := by omega
      go_wp2_with fail
      clear q0
      go_loopw [4, 6, 7, 8, 9, 29] (fun ls _ _ _ _ i wr => ∃ (k : Nat) (V : Value) (rs : List Pd) (keys Vis : List Addr), k ≤ lp ∧ i = .int .i64 (k : Int) ∧ ls = V ∧ Hid (HdAt w wr w.heap.size keys Vis V (qs ++ rs) (.slice a1 ln c1) (fun v => v = .slice a4 lp c4) ∧ pWork rs ≤ 2 * sumT (pn - 1) (itemsT pn pt) k + 2 * k ∧ (allOkT n t → pOk (qs ++ rs) ∧ allOkT pn pt) ∧ DoneTo Vis (.slice a4 lp c4) k)) (fun _ _ _ _ _ i _ => lp - (intOf i).toNat)
      case atStart => exact ⟨0, _, [], keys, Vis, by omega, rfl, rfl, by simpa using HP.out.1, by simp [pWork], by simpa using HP.out.2.2.2, fun i a hi => absurd hi (by omega)⟩
      case round =>
        obtain ⟨k, V, rs, keys, Vis, hk, rfl, rfl, HI⟩ := hrel
        by_cases hklt : k < lp
        · obtain ⟨x, hx⟩ : ∃ x, (itemsT pn pt)[k]? = some x := ⟨_, List.getElem?_eq_getElem (by rw [items_len, HLP.out]; exact hklt)⟩
          obtain ⟨g', c', ab, lb, cb, ae, le, ce, e1, i0, i1, i2, i3, i4, rb, re, hlb, hle, hpl⟩ := HR.out.item hx
          rw [HLP.out] at e1
          simp only [Value.slice.injEq, true_and] at e1
          obtain ⟨rfl, rfl⟩ := e1
          have HX : Hid ((itemsT pn pt)[k]? = some x ∧ OwnT w 0 (pn - 1) (.slice ab lb cb) x.body ∧ OwnT w 0 (pn - 1) (.slice ae le ce) x.els ∧ lb = lenT (pn - 1) x.body ∧ le = lenT (pn - 1) x.els) := ⟨hx, rb, re, hlb, hle⟩
          have HCX : Hid (w.cell? ⟨g', k * 5, none⟩ = some (.int .i64 x.k) ∧ w.cell? ⟨g', k * 5 + 1, none⟩ = some (.int .i64 x.a) ∧ w.cell? ⟨g', k * 5 + 2, none⟩ = some (.int .i64 x.b) ∧ w.cell? ⟨g', k * 5 + 3, none⟩ = some (.slice ab lb cb) ∧ w.cell? ⟨g', k * 5 + 4, none⟩ = some (.slice ae le ce) ∧ g' < w.heap.size ∧ Plain w ⟨g', k * 5, none⟩) := ⟨i0, i1, i2, i3, i4, block_lt_of_cell i0, hpl⟩
          have HCU : Hid (∀ u, Below w.heap.size w u → u.cell? ⟨g', k * 5, none⟩ = some (.int .i64 x.k) ∧ u.cell? ⟨g', k * 5 + 1, none⟩ = some (.int .i64 x.a) ∧ u.cell? ⟨g', k * 5 + 2, none⟩ = some (.int .i64 x.b) ∧ u.cell? ⟨g', k * 5 + 3, none⟩ = some (.slice ab lb cb) ∧ u.cell? ⟨g', k * 5 + 4, none⟩ = some (.slice ae le ce) ∧ Plain u ⟨g', k * 5, none⟩) := fun u hu => by
            refine ⟨bcell_lt hu i0, bcell_lt hu i1, bcell_lt hu i2, bcell_lt hu i3, bcell_lt hu i4, ?_⟩
            obtain ⟨cur, ty, hp⟩ := hpl
            exact ⟨cur, ty, by rw [hu.block g' (block_lt_of_cell i0)]; exact hp⟩
          clear rb re hx hlb hle hpl i0 i1 i2 i3 i4
          obtain ⟨aV, cV, eV⟩ := (Rd.of_own HI.out.1.wk.row).is_slice
          subst eV
          have hrl : (qs ++ rs).length ≤ 1048576 * 3 := by
            have h1 := len_le_work (qs ++ rs)
            have h2 := HP.out.2
            have h3 := HS.out.1
            have h4 := HI.out.2.1
            have h5 := items_size pn pt
            have h6 := HLP.out
            have h7 := sum_items_le pn pt k
            rw [pWork_add] at h1
            omega
          generalize hrr : (qs ++ rs).length = rl at hrl HI ⊢
          have HRL : Hid ((qs ++ rs).length = rl) := hrr
          clear hrr
          obtain ⟨i0, i1, i2, i3, i4, _⟩ := HCU.out wr HI.out.1.wk.bel
          go_wp2_with fail
          refine (stmtHolds_any x.k x.a x.b ab ae lb le cb ce wr).mono ?_
          rintro e u1 ⟨⟨b1, rfl, hb1⟩, hbu⟩
          have H1 : Hid (HdAt w u1 w.heap.size keys Vis (.slice aV rl cV) (qs ++ rs) (.slice a1 ln c1) (fun v => v = .slice (some ⟨g', 0, none⟩) lp c4)) := HI.out.1.keep hbu
          have HB1 : Hid (b1 = true ↔ okS x.k x.a x.b lb le) := hb1
          have HIR : Hid (pWork rs ≤ 2 * sumT (pn - 1) (itemsT pn pt) k + 2 * k ∧ (allOkT n t → pOk (qs ++ rs) ∧ allOkT pn pt) ∧ DoneTo Vis (.slice (some ⟨g', 0, none⟩) lp c4) k) := HI.out.2
          clear hbu hb1 i0 i1 i2 i3 i4 HI
          cases b1
          · have HN : Hid (¬ allOkT n t) := fun e => by
              have h1 := ((items_ok _ _).1 (HIR.out.2.1 e).2 x (List.mem_of_getElem? HX.out.1)).1
              rw [← HX.out.2.2.2.1, ← HX.out.2.2.2.2] at h1
              have := HB1.out.2 h1
              cases this
            go_wp2_with fail
            go_ret
            exact ⟨.no HN.out, H1.out.wk.bel⟩
          · have HOK : Hid (okS x.k x.a x.b lb le) := HB1.out.1 rfl
            clear HB1
            obtain ⟨ok, hl, hok⟩ := H1.out.pm.look (HCU.out u1 H1.out.wk.bel).2.2.2.2.2
            have HF : Hid (ok = true → (⟨g', k * 5, none⟩ : Addr) ∈ keys) := hok
            clear hok
            go_upto_region 13 with fail
            have H2 : Hid (HdAt w (u1.alloc (.cells #[] 153)) w.heap.size keys Vis (.slice aV rl cV) (qs ++ rs) (.slice a1 ln c1) (fun v => v = .slice (some ⟨g', 0, none⟩) lp c4)) := H1.out.keep (below_alloc _ _)
            clear hl H1
            generalize u1.heap.size = X8
            refine wp_world (fun u => Hid (HdAt w u w.heap.size keys Vis (.slice aV rl cV) (qs ++ rs) (.slice a1 ln c1) (fun v => v = .slice (some ⟨g', 0, none⟩) lp c4))) H2 ?_
            rintro U H3
            clear H2
            clear u1
            have hsn := sumT_next HX.out.1
            have HSN : Hid (sumT (pn - 1) (itemsT pn pt) (k + 1) = sumT (pn - 1) (itemsT pn pt) k + (sizeT (pn - 1) x.body + sizeT (pn - 1) x.els)) := hsn
            clear hsn
            cases ok
            · obtain ⟨i0, i1, i2, i3, i4, _⟩ := HCU.out U H3.out.wk.bel
              go_wp2_with fail
              refine (isSingle_any x.k x.a x.b ab ae lb le cb ce U).mono ?_
              rintro e u3 ⟨⟨b3, rfl, hb3⟩, hbu⟩
              have H4 : Hid (HdAt w u3 w.heap.size keys Vis (.slice aV rl cV) (qs ++ rs) (.slice a1 ln c1) (fun v => v = .slice (some ⟨g', 0, none⟩) lp c4)) := H3.out.keep hbu
              have HB3 : Hid (b3 = true ↔ (lb = 0 ∧ le = 0)) := hb3
              clear hb3 hbu H3 i0 i1 i2 i3 i4
              cases b3
              · obtain ⟨w4, hrun, hpm, hchg⟩ := H4.out.pm.put (HCU.out u3 H4.out.wk.bel).2.2.2.2.2 (by have := HCX.out.2.2.2.2.2.1; have := H4.out.rge; simp only []; omega) (fun b hb => by have := H4.out.low b (H4.out.sub b hb); omega)
                have H5 : Hid (HdAt w w4 w.heap.size (⟨g', k * 5, none⟩ :: keys) (⟨g', k * 5, none⟩ :: Vis) (.slice aV rl cV) (qs ++ rs) (.slice a1 ln c1) (fun v => v = .slice (some ⟨g', 0, none⟩) lp c4 ∨ v = .slice ab lb cb ∨ v = .slice ae le ce)) := H4.out.upd HCX.out.2.2.2.2.2.1 HCX.out.1 HCX.out.2.1 HCX.out.2.2.1 HCX.out.2.2.2.1 HCX.out.2.2.2.2.1 HOK.out hpm hchg
                clear hpm hchg
                go_upto_region 15 with fail
                clear hrun H4
                have bD := below_drew1 w4
                have bA := below_alloc w4 (.cells #[.slice ab lb cb, .slice ae le ce] 33)
                have bE : Below w4.heap.size w4 (w4.alloc (.cells #[.slice ab lb cb, .slice ae le ce] 33)).drew := below_on bA (Nat.le_refl _) (below_drew1 _)
                obtain ⟨_, _, _, i3, i4, _⟩ := HCU.out w4.drew (below_on H5.out.wk.bel (Nat.le_refl _) bD)
                have HC : Hid ((w4.alloc (.cells #[.slice ab lb cb, .slice ae le ce] 33)).drew.ownsRow w.heap.size 33 1 (.slice aV rl cV) rl ((qs ++ rs).flatMap pCell) ∧ (∀ j u, [(.slice ab lb cb : Value), .slice ae le ce][j]? = some u → (w4.alloc (.cells #[.slice ab lb cb, .slice ae le ce] 33)).drew.cell? ((⟨w4.heap.size, 0, none⟩ : Addr).add j) = some u) ∧ Below w4.heap.size w4 (w4.alloc (.cells #[.slice ab lb cb, .slice ae le ce] 33)).drew ∧ w.heap.size ≤ (w4.alloc (.cells #[.slice ab lb cb, .slice ae le ce] 33)).drew.heap.size) := ⟨by have := own_keep H5.out.wk.row bE (Nat.le_refl _); rw [HRL.out] at this; exact this, two_new w4 _ _, bE, Nat.le_trans H5.out.wk.bel.size bE.size⟩
                clear bD bA bE
                go_region_law (refine step_append_lies _ rfl (.tmp 58) (.tmp 67) 35 rfl w.heap.size 33 iL (.slice none 0 0) 1 24 Tryz.underlying35 hi hz0 hz1 hz2 rfl (by decide) (.slice aV rl cV) rl ((qs ++ rs).flatMap pCell) (by simp [Act.eval]) HC.out.1 ⟨w4.heap.size, 0, none⟩ 2 2 [.slice ab lb cb, .slice ae le ce] (by simp [Act.eval]) rfl HC.out.2.1 (fun u hu => by simp at hu; rcases hu with rfl | rfl <;> rfl) (by omega) (by unfold maxLen; omega) (by omega) HC.out.2.2.2 _ rfl ?_; intro g5 cap5 w5 hown hgrow hat hlt5; have HN : Hid (HdAt w w5 w.heap.size (⟨g', k * 5, none⟩ :: keys) (⟨g', k * 5, none⟩ :: Vis) (.slice (some ⟨g5, 0, none⟩) (rl + 2) cap5) ((qs ++ rs) ++ [(⟨pn - 1, x.body, .slice ab lb cb⟩ : Pd), ⟨pn - 1, x.els, .slice ae le ce⟩]) (.slice a1 ln c1) (fun v => v = .slice (some ⟨g', 0, none⟩) lp c4)) := H5.out.push HX.out.2.1 HX.out.2.2.1 HC.out.2.2.1 (by rw [HRL.out]; exact hown) hgrow; clear hown hgrow hat hlt5)
                all_goals
                  rw [List.append_assoc] at HN
                  have H6 : Hid (pWork (rs ++ [(⟨pn - 1, x.body, .slice ab lb cb⟩ : Pd), ⟨pn - 1, x.els, .slice ae le ce⟩]) ≤ 2 * sumT (pn - 1) (itemsT pn pt) (k + 1) + 2 * (k + 1) ∧ DoneTo (⟨g', k * 5, none⟩ :: Vis) (.slice (some ⟨g', 0, none⟩) lp c4) (k + 1) ∧ (allOkT n t → pOk (qs ++ (rs ++ [(⟨pn - 1, x.body, .slice ab lb cb⟩ : Pd), ⟨pn - 1, x.els, .slice ae le ce⟩])) ∧ allOkT pn pt)) := by
                    refine ⟨?_, HIR.out.2.2.next (fun a ha => List.mem_cons_of_mem _ ha) List.mem_cons_self, fun e => ?_⟩
                    · have h1 := HIR.out.1
                      have h2 := HSN.out
                      rw [pWork_add]
                      simp [pWork] at h1 ⊢
                      omega
                    · have h1 := HIR.out.2.1 e
                      have h2 := (items_ok _ _).1 h1.2 x (List.mem_of_getElem? HX.out.1)
                      refine ⟨?_, h1.2⟩
                      rw [← List.append_assoc, pOk_add]
                      refine ⟨h1.1, fun p hp => ?_⟩
                      simp only [List.mem_cons, List.not_mem_nil, or_false] at hp
                      rcases hp with rfl | rfl
                      · exact h2.2.1
                      · exact h2.2.2
                  clear HC H5 i3 i4
                  go_wp2_with fail
                  go_roundw
                  case rel => exact ⟨k + 1, _, _, _, _, by omega, by go_num, rfl, HN.out, H6.out.1, H6.out.2.2, H6.out.2.1⟩
                  case measure => simp [intOf]; omega
              · have H5 : Hid (HdAt w u3 w.heap.size keys (⟨g', k * 5, none⟩ :: Vis) (.slice aV rl cV) (qs ++ rs) (.slice a1 ln c1) (fun v => v = .slice (some ⟨g', 0, none⟩) lp c4)) := H4.out.single HCX.out.2.2.2.2.2.1 HCX.out.1 HCX.out.2.1 HCX.out.2.2.1 HCX.out.2.2.2.1 HCX.out.2.2.2.2.1 HOK.out (HB3.out.1 rfl)
                have H6 : Hid (pWork rs ≤ 2 * sumT (pn - 1) (itemsT pn pt) (k + 1) + 2 * (k + 1) ∧ DoneTo (⟨g', k * 5, none⟩ :: Vis) (.slice (some ⟨g', 0, none⟩) lp c4) (k + 1)) := ⟨by have h1 := HIR.out.1; have h2 := HSN.out; omega, HIR.out.2.2.next (fun a ha => List.mem_cons_of_mem _ ha) List.mem_cons_self⟩
                clear H4 HB3
                go_wp2_with fail
                go_roundw
                case rel => exact ⟨k + 1, _, rs, keys, _, by omega, by go_num, rfl, H5.out, H6.out.1, HIR.out.2.1, H6.out.2⟩
                case measure => simp [intOf]; omega
            · have H6 : Hid (pWork rs ≤ 2 * sumT (pn - 1) (itemsT pn pt) (k + 1) + 2 * (k + 1) ∧ DoneTo Vis (.slice (some ⟨g', 0, none⟩) lp c4) (k + 1)) := ⟨by have h1 := HIR.out.1; have h2 := HSN.out; omega, HIR.out.2.2.next (fun a ha => ha) (H3.out.sub _ (HF.out rfl))⟩
              go_wp2_with fail
              go_roundw
              case rel => exact ⟨k + 1, _, rs, keys, Vis, by omega, by go_num, rfl, H3.out, H6.out.1, HIR.out.2.1, H6.out.2⟩
              case measure => simp [intOf]; omega
        · have hkn : k = lp := by omega
          subst hkn
          obtain ⟨aV, cV, eV⟩ := (Rd.of_own HI.out.1.wk.row).is_slice
          subst eV
          have HW : Hid (HdAt w wr w.heap.size keys Vis (.slice aV (qs ++ rs).length cV) (qs ++ rs) (.slice a1 ln c1) (fun _ => False) ∧ pWork (qs ++ rs) < gk ∧ pWork (qs ++ rs) ≤ 2 * sizeT n t + 1 ∧ (allOkT n t → pOk (qs ++ rs))) := by
            have h1 := HP.out.2
            have h2 := HI.out.2.1
            have h5 := items_size pn pt
            rw [HLP.out] at h5
            refine ⟨HI.out.1.done HI.out.2.2.2.all, ?_, ?_, fun e => (HI.out.2.2.1 e).1⟩
            · rw [pWork_add]; omega
            · rw [pWork_add]; omega
          clear HI
          go_wp2_with fail
          go_roundg (pWork (qs ++ rs))
          case measure => exact HW.out.2.1
          case rel => exact ⟨_, _, keys, Vis, rfl, HW.out.1, rfl, HW.out.2.2.1, HW.out.2.2.2⟩
end Go.Proofs.YtalkpddhpmjgcaaGreat
