import Derived.Test.YtdbaghmjomdmbaaFo28
import Derived.Test.YtdbaghmjomdmbaaFo27
namespace Go.Proofs.Ytdbaghmjomdmbaa
open Go.ChangeShapes Go.WideShapes Go.ChangeAt Go.RowKit
set_option linter.unusedVariables false
/-- Rows of numbers, in a row. -/
structure BK (w u : World) (n gB : Nat) (FS : List (Value × List Nat)) : Prop where
  frow : u.ownsRow w.heap.size 33 1 (.slice (some ⟨gB, 0, none⟩) n n) n (FS.map Prod.fst)
  fam : Fam u w.heap.size (FS.map fun x => (x.1, ints x.2))
  bel : Below w.heap.size w u
theorem BK.keep {w u u' : World} {n gB : Nat} {FS : List (Value × List Nat)} (h : BK w u n gB FS) (hb : Below u.heap.size u u') : BK w u' n gB FS := ⟨own_keep h.frow hb (Nat.le_refl _), h.fam.keepB hb, below_on h.bel (Nat.le_refl _) hb⟩
theorem BK.app {w u u' : World} {n gB g cap y b : Nat} {V : Value} {FS : List (Value × List Nat)} {l : List Nat} (h : BK w u n gB FS) (hy : FS[y]? = some (V, l)) (hown : u'.ownsRow w.heap.size 2 1 (.slice (some ⟨g, 0, none⟩) (l.length + 1) cap) (l.length + 1) (nv l ++ [.int .i64 (b : Int)])) (hg : u.grownBy u' V.ownBlock) (hat : V.ownBlock = some g ∨ g = u.heap.size) : u'.ownsRow w.heap.size 33 1 (.slice (some ⟨gB, 0, none⟩) n n) n (FS.map Prod.fst) ∧ BK w (u'.setCell ⟨gB, y, none⟩ (.slice (some ⟨g, 0, none⟩) (l.length + 1) cap)) n gB (FS.set y (.slice (some ⟨g, 0, none⟩) (l.length + 1) cap, l ++ [b])) := by
  obtain ⟨hyl, hye⟩ := List.getElem?_eq_some_iff.1 hy
  have hFS : FS = FS.take y ++ (V, l) :: FS.drop (y + 1) := by rw [← hye, ← List.drop_eq_getElem_cons hyl, List.take_append_drop]
  have hlen : (FS.take y).length = y := by rw [List.length_take]; omega
  have oV := h.fam.own (V, ints l) (List.mem_map.2 ⟨(V, l), List.mem_of_getElem? hy, rfl⟩)
  have kf : u'.ownsRow w.heap.size 33 1 (.slice (some ⟨gB, 0, none⟩) n n) n (FS.map Prod.fst) := own_grown h.frow hg oV (by decide)
  have hset : FS.set y (.slice (some ⟨g, 0, none⟩) (l.length + 1) cap, l ++ [b]) = FS.take y ++ (.slice (some ⟨g, 0, none⟩) (l.length + 1) cap, l ++ [b]) :: FS.drop (y + 1) := by
    have := set_mid (FS.take y) (FS.drop (y + 1)) (V, l) (.slice (some ⟨g, 0, none⟩) (l.length + 1) cap, l ++ [b])
    rw [hlen, ← hFS] at this
    exact this
  have km : Fam u' w.heap.size ((FS.set y (.slice (some ⟨g, 0, none⟩) (l.length + 1) cap, l ++ [b])).map fun x => (x.1, ints x.2)) := by
    have h0 := h.fam
    rw [hFS, List.map_append, List.map_cons] at h0
    rw [hset, List.map_append, List.map_cons]
    refine Fam.grow (g := g) h0 ?_ rfl hg (hat.imp id fun e => by omega)
    simp only []
    rw [ints_length, List.length_append, List.length_singleton, ← nv_flat, nv_app]
    exact hown
  obtain ⟨hge, cur, hcur⟩ := own_blk kf
  refine ⟨kf, ?_, ⟨fun x hx => ownsRow_setCell_other (km.own x hx) (a := ⟨gB, y, none⟩) (fun e => type_apart (km.own x hx) hcur (by decide) gB e rfl) _, km.sep⟩, (h.bel.grown hg h.bel.size (fun i hi => (oV.lt i hi).1)).setCell hge _⟩
  have := (kf.stored y (.slice (some ⟨g, 0, none⟩) (l.length + 1) cap)).1
  rw [List.map_set]
  exact this
theorem backP_at {E : Nat → List Nat} {D : Nat → Nat → Bool} {b k y : Nat} (hy : (E b)[k]? = some y) (x : Nat) : backP E D x b (k + 1) = if x = y ∧ D y b = true then backP E D x b k ++ [b] else backP E D x b k := by
  by_cases e : x = y
  · subst e
    by_cases q : D x b = true
    · rw [if_pos ⟨rfl, q⟩, backP_yes hy q]
    · rw [if_neg (fun r => q r.2), backP_no hy (fun r => q r.2)]
  · rw [if_neg (fun r => e r.1), backP_no hy (fun r => e r.1.symm)]
/-- What backEdges tells. -/
def BackIs (w w' : World) (n : Nat) (E : Nat → List Nat) (O : List Nat) (D : Nat → Nat → Bool) (e : Ending) : Prop := (∃ b k y : Nat, e = .returned (.tuple #[.slice none 0 0, .int .i64 (y : Int)]) ∧ FirstBad E n (Bad O D) b k y) ∨ ∃ gB FS, e = .returned (.tuple #[.slice (some ⟨gB, 0, none⟩) n n, .int .i64 (-1)]) ∧ (∀ b, b < n → ∀ t ∈ E b, ¬ Bad O D b t) ∧ BK w w' n gB FS ∧ FS.length = n ∧ ∀ x, x < n → ∃ V, FS[x]? = some (V, backL E D n x)
set_option maxHeartbeats 8000000 in
set_option maxRecDepth 100000 in
theorem backEdges_any (G n gN cN gP cP gi ci : Nat) (E : Nat → List Nat) (O : List Nat) (I : Nat → Int) (D : Nat → Nat → Bool) (w : World) (hn : n ≤ 1024) (hP : Place E n (plO O)) (hI : DoneI E n (plO O) I) (hD : ∀ d b, D d b = true ↔ Dom E d b) (hsz : ∀ b, (E b).length ≤ 2)
    (h0 : w.cell? ⟨G, 0, none⟩ = some (.slice (some ⟨gN, 0, none⟩) n cN)) (hN : EdAt w gN 0 n E) (hG : GI w G n gP cP gi ci (plO O) I) :
    Calls Try.prog 38 #[.pointer (some ⟨G, 0, none⟩)] w fun e w' => BackIs w w' n E O D e ∧ Below w.heap.size w w' := by
  obtain ⟨k0, hk, hx0, hx1, hx2⟩ := info_parts info64
  obtain ⟨j0, hj, hy0, hy1, hy2⟩ := info_parts infoSI
  have H : Hid (EdAt w gN 0 n E ∧ GI w G n gP cP gi ci (plO O) I ∧ Place E n (plO O) ∧ DoneI E n (plO O) I ∧ (∀ d b, D d b = true ↔ Dom E d b) ∧ (∀ b, (E b).length ≤ 2) ∧ w.cell? ⟨G, 0, none⟩ = some (.slice (some ⟨gN, 0, none⟩) n cN)) := ⟨hN, hG, hP, hI, hD, hsz, h0⟩
  clear hN hG hP hI hD hsz
  go_enter Try.func38, Try.ntmps38
  go_upto_region 2 with (at_make; refine wpList_make_full _ rfl _ _ 68 rfl w.heap.size 33 j0 (.slice none 0 0) 1 Try.underlying68 hj hy0 hy1 .i64 .i64 _ _ n rfl rfl rfl rfl (by rw [hy2]; omega) (by unfold maxLen; omega) (Nat.le_refl _) ?_; intro w3 hown hgrow)
  rw [made_nils] at hown
  have HB0 : Hid (BK w w3 n w.heap.size ((List.range n).map fun x => ((.slice none 0 0 : Value), backL E D 0 x))) := by
    refine ⟨?_, ⟨fun x hx => ?_, ?_⟩, below_none hgrow⟩
    · rw [List.map_map]
      have e : (List.range n).map (Prod.fst ∘ fun x => ((.slice none 0 0 : Value), backL E D 0 x)) = List.replicate n (.slice none 0 0) := by
        apply List.ext_getElem?
        intro j
        by_cases hj : j < n
        · simp [hj]
        · rw [List.getElem?_eq_none (by simp; omega), List.getElem?_eq_none (by simp; omega)]
      rw [e]
      exact hown
    · simp only [List.mem_map] at hx
      obtain ⟨y, ⟨z, _, rfl⟩, rfl⟩ := hx
      have : ints (backL E D 0 z) = [] := by simp [backL, ints]
      simp only [this]
      exact World.ownsRow_nil _ _ _ _
    · rw [List.map_map]
      refine List.pairwise_map.2 (List.pairwise_lt_range.imp fun _ => ?_)
      intro g hg
      cases hg
  have x0 := bcell_keep HB0.out.bel h0
  clear hown hgrow h0
  obtain ⟨gB, hgB⟩ : ∃ gB, gB = w.heap.size := ⟨_, rfl⟩
  have HGB : Hid (gB = w.heap.size) := hgB
  rw [← hgB] at ⊢
  have HB1 : Hid (BK w w3 n gB ((List.range n).map fun x => ((.slice none 0 0 : Value), backL E D 0 x))) := by rw [HGB.out]; exact HB0
  clear hgB HB0
  go_wp2
  go_loopw [20] (fun i wr => ∃ (b : Nat) (FS : List (Value × List Nat)), b ≤ n ∧ i = .int .i64 b ∧ FS.length = n ∧ Hid (BK w wr n gB FS ∧ (∀ x, x < n → ∃ V, FS[x]? = some (V, backL E D b x)) ∧ (∀ b', b' < b → ∀ t ∈ E b', ¬ Bad O D b' t))) (fun i _ => n - (intOf i).toNat)
  case atStart => exact ⟨0, _, by omega, rfl, by simp, HB1.out, fun x hx => ⟨.slice none 0 0, by simp [hx]⟩, fun b' hb' => by omega⟩
  case round =>
    clear HB1 x0
    obtain ⟨b, FS, hb, rfl, hFS, HL⟩ := hrel
    by_cases hlt : b < n
    · have hltI : (b : Int) < (n : Int) := by omega
      obtain ⟨a, ca, g0, g1⟩ := H.out.1 b hlt
      rw [Nat.zero_add] at g0
      have HGR : Hid (RdN w (.slice a (E b).length ca) (E b)) := g1
      replace g0 := bcell_keep HL.out.1.bel g0
      have hE2 := H.out.2.2.2.2.2.1 b
      clear g1
      go_wp2
      go_loopw [27] (fun i wr => ∃ (k : Nat) (FS : List (Value × List Nat)), k ≤ (E b).length ∧ i = .int .i64 k ∧ FS.length = n ∧ Hid (BK w wr n gB FS ∧ (∀ x, x < n → ∃ V, FS[x]? = some (V, backL E D b x ++ backP E D x b k)) ∧ (∀ b', b' < b → ∀ t ∈ E b', ¬ Bad O D b' t) ∧ (∀ k' t, k' < k → (E b)[k']? = some t → ¬ Bad O D b t))) (fun i _ => 2 - (intOf i).toNat)
      case atStart => exact ⟨0, FS, by omega, rfl, hFS, HL.out.1, fun x hx => by obtain ⟨V, hV⟩ := HL.out.2.1 x hx; exact ⟨V, by rw [backP_zero, List.append_nil]; exact hV⟩, HL.out.2.2, fun k' t hk' => by omega⟩
      case round =>
        clear HL g0
        obtain ⟨k, FS, hk', rfl, hFS, HL⟩ := hrel
        by_cases hlt2 : k < (E b).length
        · have hlt2I : (k : Int) < ((E b).length : Int) := by omega
          obtain ⟨y, hy⟩ : ∃ y, (E b)[k]? = some y := ⟨_, List.getElem?_eq_getElem hlt2⟩
          have hyn : y < n := H.out.2.2.1.edge b hlt y (List.mem_of_getElem? hy)
          have hynI : (y : Int) < (n : Int) := by omega
          have HY : Hid ((E b)[k]? = some y) := hy
          obtain ⟨ga, oa, rfl, _, y0⟩ := HGR.out.at_ hy
          replace y0 := bcell_keep HL.out.1.bel y0
          have hg := H.out.2.1.keep HL.out.1.bel
          have p0 := hg.p
          have py := hg.pc y hyn
          have pb := hg.pc b hlt
          clear hy hg
          have HNX : Hid (¬ Bad O D b y → ∀ k' t', k' < k + 1 → (E b)[k']? = some t' → ¬ Bad O D b t') := fun hnb k' t' h1 h2 => by
            by_cases e : k' = k
            · subst e
              rw [HY.out] at h2
              cases h2
              exact hnb
            · exact HL.out.2.2.2 k' t' (by omega) h2
          by_cases hp : plO O b < plO O y
          · have hpI : (plO O b : Int) < (plO O y : Int) := by omega
            have HN : Hid ((∀ x, x < n → ∃ V, FS[x]? = some (V, backL E D b x ++ backP E D x b (k + 1))) ∧ ∀ k' t', k' < k + 1 → (E b)[k']? = some t' → ¬ Bad O D b t') := by
              refine ⟨fun x hx => ?_, HNX.out (fun q => by have := q.1; omega)⟩
              rw [backP_at HY.out x, if_neg]
              · exact HL.out.2.1 x hx
              · rintro ⟨_, q⟩
                have := (((H.out.2.2.2.2.1 y b).1 q).way H.out.2.2.1 hlt).2.1
                omega
            go_wp2
            go_quiet (fail)
            refine with_world (fun u => Hid (BK w u n gB FS)) (HL.out.1.keep (below_drewN _ _ _)) ?_
            intro U HU
            clear y0 p0 py pb
            go_wp2
            go_roundw
            case rel => exact ⟨k + 1, FS, by omega, by go_num, hFS, HU.out, HN.out.1, HL.out.2.2.1, HN.out.2⟩
            case measure => simp [intOf]; omega
          · have hpI : ¬ (plO O b : Int) < (plO O y : Int) := by omega
            go_wp2
            go_quiet (fail)
            refine with_world (fun u => Hid (BK w u n gB FS)) (HL.out.1.keep (below_drewN _ _ _)) ?_
            intro U HU
            clear y0 p0 py pb
            go_wp2_with fail
            refine (meet_any G n gP cP gi ci y b (plO O) I U hn H.out.2.2.2.1.dinv.tree H.out.2.2.1.zero H.out.2.2.1.inj hyn hlt (H.out.2.2.2.1.all y hyn) (H.out.2.2.2.1.all b hlt) (H.out.2.1.keep HU.out.bel)).mono ?_
            rintro e u5 ⟨m, rfl, hm, hkm, hM, b5⟩
            have HMY : Hid (m = y ↔ D y b = true) := by
              rw [H.out.2.2.2.2.1, ← H.out.2.2.2.1.dom y b hlt]
              constructor
              · intro e
                subst e
                exact ((hM m).1 .here).2
              · intro q
                exact Anc.anti H.out.2.2.2.1.dinv.tree hyn ((hM m).1 .here).1 ((hM y).2 ⟨.here, q⟩)
            have HU5 : Hid (BK w u5 n gB FS) := HU.out.keep b5
            clear hM b5 HU
            by_cases hmy : m = y
            · subst hmy
              have HDy : Hid (D m b = true) := HMY.out.1 rfl
              obtain ⟨V, hV⟩ := HL.out.2.1 m hyn
              obtain ⟨aV, cV, eV⟩ := own_slice (HL.out.1.fam.own (V, ints (backL E D b m ++ backP E D m b k)) (List.mem_map.2 ⟨(V, _), List.mem_of_getElem? hV, rfl⟩))
              simp only [ints_length] at eV
              subst eV
              have hll : (backL E D b m ++ backP E D m b k).length ≤ 4096 := by
                have h1 := backL_len H.out.2.2.2.2.2.1 D m b
                have h2 := backP_len E D m b k
                rw [List.length_append]
                omega
              generalize hLV : backL E D b m ++ backP E D m b k = lv at hV hll
              have HLV : Hid (backL E D b m ++ backP E D m b k = lv ∧ FS[m]? = some (.slice aV lv.length cV, lv)) := ⟨hLV, hV⟩
              clear hV hLV HMY
              have HFC : Hid (∀ (u' : World), u'.ownsRow w.heap.size 33 1 (.slice (some ⟨gB, 0, none⟩) n n) n (FS.map Prod.fst) → u'.cell? ⟨gB, m, none⟩ = some (.slice aV lv.length cV)) := fun u' hu' => by
                have := hu'.cellAt m (by omega)
                rw [List.getElem?_map, HLV.out.2] at this
                exact this
              have bE := below_alloc u5 (.cells #[.int .i64 (b : Int)] 2)
              have x2 := HFC.out _ HU5.out.frow
              have HUE : Hid (BK w (u5.alloc (.cells #[.int .i64 (b : Int)] 2)) n gB FS ∧ w.heap.size ≤ (u5.alloc (.cells #[.int .i64 (b : Int)] 2)).heap.size) := ⟨HU5.out.keep bE, Nat.le_trans HU5.out.bel.size bE.size⟩
              have HOW : Hid ((u5.alloc (.cells #[.int .i64 (b : Int)] 2)).ownsRow w.heap.size 2 1 (.slice aV lv.length cV) lv.length (nv lv)) := by
                have := HUE.out.1.fam.own (.slice aV lv.length cV, ints lv) (List.mem_map.2 ⟨(_, lv), List.mem_of_getElem? HLV.out.2, rfl⟩)
                rw [ints_length, ← nv_flat] at this
                exact this
              have HAP : Hid (∀ g6 cap6 w6, w6.ownsRow w.heap.size 2 1 (.slice (some ⟨g6, 0, none⟩) (lv.length + 1) cap6) (lv.length + 1) (nv lv ++ [.int .i64 (b : Int)]) → (u5.alloc (.cells #[.int .i64 (b : Int)] 2)).grownBy w6 (Value.slice aV lv.length cV).ownBlock → ((Value.slice aV lv.length cV).ownBlock = some g6 ∨ g6 = (u5.alloc (.cells #[.int .i64 (b : Int)] 2)).heap.size) → w6.cell? ⟨gB, m, none⟩ = some (.slice aV lv.length cV) ∧ w6.frozen? ⟨gB, m, none⟩ = false ∧ BK w (w6.setCell ⟨gB, m, none⟩ (.slice (some ⟨g6, 0, none⟩) (lv.length + 1) cap6)) n gB (FS.set m (.slice (some ⟨g6, 0, none⟩) (lv.length + 1) cap6, lv ++ [b]))) := fun g6 cap6 w6 hown hgrow hat => by
                obtain ⟨q1, q2⟩ := HUE.out.1.app HLV.out.2 hown hgrow hat
                exact ⟨HFC.out _ q1, q1.frozenAt m, q2⟩
              clear bE
              go_wp2_with (at_builtin; refine wpList_append_lies _ rfl _ _ 33 rfl w.heap.size 2 k0 (.int .i64 0) 1 8 Try.underlying33 hk hx0 hx1 hx2 rfl (by decide) _ lv.length (nv lv) rfl HOW.out ⟨u5.heap.size, 0, none⟩ 1 1 [.int .i64 (b : Int)] rfl rfl (one_cell u5 (b : Int)) (fun u hu => by simp at hu; subst hu; rfl) (by omega) (by simp [maxLen]; omega) (by omega) HUE.out.2 _ rfl ?_; intro g6 cap6 w6 hown hgrow hat hlt9; obtain ⟨t6, z6, l6⟩ := HAP.out g6 cap6 w6 hown hgrow hat; have HU6 : Hid (BK w (w6.setCell ⟨gB, m, none⟩ (.slice (some ⟨g6, 0, none⟩) (lv.length + 1) cap6)) n gB (FS.set m (.slice (some ⟨g6, 0, none⟩) (lv.length + 1) cap6, lv ++ [b]))) := l6; clear hown hgrow hat hlt9 l6)
              have HN : Hid ((∀ x, x < n → ∃ V, (FS.set m (.slice (some ⟨g6, 0, none⟩) (lv.length + 1) cap6, lv ++ [b]))[x]? = some (V, backL E D b x ++ backP E D x b (k + 1))) ∧ ∀ k' t', k' < k + 1 → (E b)[k']? = some t' → ¬ Bad O D b t') := by
                refine ⟨fun x hx => ?_, HNX.out (fun q => q.2 HDy.out)⟩
                rw [backP_at HY.out x]
                by_cases e : x = m
                · subst e
                  refine ⟨.slice (some ⟨g6, 0, none⟩) (lv.length + 1) cap6, ?_⟩
                  rw [if_pos ⟨rfl, HDy.out⟩, ← List.append_assoc, HLV.out.1, List.getElem?_set_self (by omega)]
                · rw [if_neg (fun r => e r.1), List.getElem?_set_ne (Ne.symm e)]
                  exact HL.out.2.1 x hx
              clear x2 HUE HOW HAP HFC
              go_roundw
              case rel => exact ⟨k + 1, FS.set m (.slice (some ⟨g6, 0, none⟩) (lv.length + 1) cap6, lv ++ [b]), by omega, by go_num, by rw [List.length_set]; exact hFS, HU6.out, HN.out.1, HL.out.2.2.1, HN.out.2⟩
              case measure => simp [intOf]; omega
            · have hmyB : ((m : Int) == (y : Int)) = false := by simp; omega
              have hDy : ¬ D y b = true := fun q => hmy (HMY.out.2 q)
              have HFB : Hid (FirstBad E n (Bad O D) b k y) := ⟨hlt, HY.out, ⟨by omega, hDy⟩, fun b' k' x' hb' hx' hl => by
                rcases hl with q | ⟨rfl, q⟩
                · exact HL.out.2.2.1 b' q x' (List.mem_of_getElem? hx')
                · exact HL.out.2.2.2 k' x' q hx'⟩
              go_wp2
              go_ret2
              exact ⟨Or.inl ⟨b, k, y, rfl, HFB.out⟩, HU5.out.bel⟩
        · obtain rfl : k = (E b).length := by omega
          have HN : Hid ((∀ x, x < n → ∃ V, FS[x]? = some (V, backL E D (b + 1) x)) ∧ ∀ b', b' < b + 1 → ∀ t ∈ E b', ¬ Bad O D b' t) := by
            refine ⟨fun x hx => by rw [backL_succ]; exact HL.out.2.1 x hx, fun b' hb' t ht => ?_⟩
            by_cases e : b' = b
            · subst e
              obtain ⟨q, hq⟩ := List.getElem?_of_mem ht
              exact HL.out.2.2.2 q t (List.getElem?_eq_some_iff.1 hq).1 hq
            · exact HL.out.2.2.1 b' (by omega) t ht
          go_wp2
          go_roundw
          case rel => exact ⟨b + 1, FS, by omega, by go_num, hFS, HL.out.1, HN.out.1, HN.out.2⟩
          case measure => simp [intOf]; omega
    · have ebn : b = n := by omega
      have hltI : ¬ (b : Int) < (n : Int) := by omega
      rw [ebn] at HL
      go_wp2
      go_ret2
      exact ⟨Or.inr ⟨gB, FS, rfl, HL.out.2.2, HL.out.1, hFS, HL.out.2.1⟩, HL.out.1.bel⟩
end Go.Proofs.Ytdbaghmjomdmbaa
