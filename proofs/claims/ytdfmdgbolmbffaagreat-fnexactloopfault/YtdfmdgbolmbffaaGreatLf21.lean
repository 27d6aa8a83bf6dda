import Derived.Test.YtdfmdgbolmbffaaGreatLf20
namespace Go.Proofs.YtdfmdgbolmbffaaGreat
open Go.ChangeShapes Go.WideShapes Go.ChangeAt Go.RowKit
set_option linter.unusedVariables false
structure LP (w u : World) (V : Value) (ys : List (ML × Value × Value)) : Prop where
  lps : u.ownsRow w.heap.size 53 3 V ys.length (ys.flatMap lCells)
  fam : Fam u w.heap.size (ys.map fun y => (y.2.2, y.1.blocks))
  bel : Below w.heap.size w u
theorem LP.keep {w u u' : World} {V : Value} {ys : List (ML × Value × Value)} (h : LP w u V ys) (hb : Below u.heap.size u u') : LP w u' V ys := ⟨own_keep h.lps hb (Nat.le_refl _), h.fam.keepB hb, below_on h.bel (Nat.le_refl _) hb⟩
theorem LP.add {w u u1 u' : World} {g cap : Nat} {V BV KV : Value} {ys : List (ML × Value × Value)} {m : ML} (h : LP w u V ys) (hb : Below u.heap.size u u1) (h2 : u1.ownsRow u.heap.size 2 1 KV m.blocks.length (m.blocks.flatMap intCell)) (hown : u'.ownsRow w.heap.size 53 3 (.slice (some ⟨g, 0, none⟩) (ys.length + 1) cap) (ys.length + 1) (ys.flatMap lCells ++ [.int .i64 m.head, BV, KV])) (hg : u1.grownBy u' V.ownBlock) : LP w u' (.slice (some ⟨g, 0, none⟩) (ys.length + 1) cap) (ys ++ [(m, BV, KV)]) := by
  have h' := h.keep hb
  have kf : Fam u1 w.heap.size ((ys ++ [(m, BV, KV)]).map fun y => (y.2.2, y.1.blocks)) := by
    have := h.fam.join hb h2 h.bel.size
    simpa using this
  refine ⟨?_, kf.grown_other hg h'.lps (by decide), h'.bel.grown hg h'.bel.size (fun i hi => (h'.lps.lt i hi).1)⟩
  rw [List.length_append, List.length_singleton, List.flatMap_append]
  exact hown
/-- The body of a loop, sorted. -/
theorem body_sorted {E : Nat → List Nat} {D : Nat → Nat → Bool} {n b : Nat} {S O : List Nat} {Lf : Nat → Bool} (hE : ∀ b, b < n → ∀ x ∈ E b, x < n) (hb : b < n) (hv : Vs (fromL E n) [b] [] (backL E D n b) S O) (hL : ∀ x, Lf x = true ↔ InLoop E D n b x) : ((ints (O ++ [b])).mergeSort fun x y => decide (x ≤ y)) = ints ((List.range n).filter Lf) ∧ O.length + 1 ≤ n := by
  obtain ⟨N, t⟩ := hv.told
  obtain rfl : O = N := by simpa using t.out
  have hfr : ∀ q, q < n → ∀ x ∈ fromL E n q, x < n := fun q _ x hx => ((fromL_mem E n q x).1 hx).1
  have hOlt : ∀ x ∈ O, x < n := fun x hx => by
    obtain ⟨q, q1, q2⟩ := t.from_ x hx
    exact q2.lt hfr ((backL_mem E D n b q).1 q1).1
  have hbO : b ∉ O := fun q => t.fresh b q (List.mem_cons_self ..)
  have hnd : (O ++ [b]).Nodup := List.nodup_append.2 ⟨t.nodup, by simp, fun a ha c hc e => by
    simp only [List.mem_cons, List.not_mem_nil, or_false] at hc
    subst hc e
    exact hbO ha⟩
  have hm : ∀ x, x ∈ O ++ [b] ↔ InLoop E D n b x := fun x => by
    rw [List.mem_append, List.mem_singleton]
    unfold InLoop
    rw [Or.comm]
    refine or_congr_right ?_
    rw [t.iff x]
    constructor
    · rintro ⟨q, q1, q2⟩
      exact ⟨q, q1, q2.mono fun y hy e => hy (by rw [e]; simp)⟩
    · rintro ⟨q, q1, q2⟩
      exact ⟨q, q1, q2.mono fun y hy e => hy (by simpa using e)⟩
  have hint : (ints (O ++ [b])).Nodup := by
    unfold ints
    refine List.pairwise_map.2 (hnd.imp fun h e => h (by omega))
  refine ⟨?_, ?_⟩
  · refine sorted_ext _ _ (sorted_lt _ hint) ?_ fun z => ?_
    · unfold ints
      refine List.pairwise_map.2 ((List.Pairwise.filter _ List.pairwise_lt_range).imp fun h => by omega)
    · rw [(List.mergeSort_perm _ _).mem_iff]
      unfold ints
      rw [List.mem_map, List.mem_map]
      constructor
      · rintro ⟨x, h1, h2⟩
        refine ⟨x, List.mem_filter.2 ⟨List.mem_range.2 ?_, (hL x).2 ((hm x).1 h1)⟩, h2⟩
        rcases List.mem_append.1 h1 with q | q
        · exact hOlt x q
        · have : x = b := by simpa using q
          omega
      · rintro ⟨x, h1, h2⟩
        exact ⟨x, (hm x).2 ((hL x).1 (List.mem_filter.1 h1).2), h2⟩
  · have := nodup_le (O ++ [b]) n (fun x hx => by
      rcases List.mem_append.1 hx with q | q
      · exact hOlt x q
      · have : x = b := by simpa using q
        omega) hnd
    rw [List.length_append, List.length_singleton] at this
    omega
set_option maxHeartbeats 8000000 in
set_option maxRecDepth 100000 in
theorem loops_any (G n gF cF gB : Nat) (E : Nat → List Nat) (D Lf : Nat → Nat → Bool) (FS : List (Value × List Nat)) (w : World) (hn : n ≤ 1024) (hE : ∀ b, b < n → ∀ x ∈ E b, x < n) (hsz : ∀ b, (E b).length ≤ 2) (hL : ∀ h x, Lf h x = true ↔ InLoop E D n h x) (h1 : w.cell? ⟨G, 1, none⟩ = some (.slice (some ⟨gF, 0, none⟩) n cF)) (hF : EdAt w gF 0 n (fromL E n)) (hB : ∀ x, x < n → ∃ V, FS[x]? = some (V, backL E D n x) ∧ w.cell? ⟨gB, x, none⟩ = some V ∧ RdN w V (backL E D n x)) :
    Calls Tryz.prog 116 #[.pointer (some ⟨G, 0, none⟩), .slice (some ⟨gB, 0, none⟩) n n] w fun e w' => ∃ V, e = .returned V ∧ ∃ ys, LP w w' V ys ∧ ys.map Prod.fst = loopsTo E D Lf n n ∧ List.Sublist (ys.map fun y => (y.2.1, y.1.back)) (FS.map fun x => (x.1, ints x.2)) := by
  obtain ⟨k0, hk, hx0, hx1, hx2⟩ := info_parts info64
  obtain ⟨l0, hl, hl0, hl1, hl2⟩ := info_parts infoLp
  have H : Hid (EdAt w gF 0 n (fromL E n) ∧ (∀ b, b < n → ∀ x ∈ E b, x < n) ∧ (∀ b, (E b).length ≤ 2) ∧ (∀ h x, Lf h x = true ↔ InLoop E D n h x) ∧ w.cell? ⟨G, 1, none⟩ = some (.slice (some ⟨gF, 0, none⟩) n cF) ∧ (∀ x, x < n → ∃ V, FS[x]? = some (V, backL E D n x) ∧ w.cell? ⟨gB, x, none⟩ = some V ∧ RdN w V (backL E D n x))) := ⟨hF, hE, hsz, hL, h1, hB⟩
  clear hF hE hsz hL h1 hB
  go_enter Tryz.func116, Tryz.ntmps116
  go_wp2
  go_loopw [5, 12] (fun V i wr => ∃ (b : Nat) (ys : List (ML × Value × Value)) (a : Option Addr) (c : Nat), b ≤ n ∧ i = .int .i64 b ∧ V = .slice a ys.length c ∧ ys.length ≤ b ∧ Hid (LP w wr V ys ∧ ys.map Prod.fst = loopsTo E D Lf n b ∧ List.Sublist (ys.map fun y => (y.2.1, y.1.back)) ((FS.take b).map fun x => (x.1, ints x.2)))) (fun _ i _ => n - (intOf i).toNat)
  case atStart => exact ⟨0, [], none, 0, by omega, rfl, rfl, by simp, ⟨World.ownsRow_nil _ _ _ _, ⟨fun x hx => (by cases hx), List.Pairwise.nil⟩, Below.refl _ _⟩, rfl, by simp⟩
  case round =>
    obtain ⟨b, ys, al, cl, hb, rfl, rfl, hyl, HL⟩ := hrel
    by_cases hlt : b < n
    · have hltI : (b : Int) < (n : Int) := by omega
      obtain ⟨VB, q1, q2, q3⟩ := H.out.2.2.2.2.2 b hlt
      obtain ⟨aB, cB, rfl⟩ := Rd.is_slice q3
      have HV : Hid (FS[b]? = some (.slice aB (backL E D n b).length cB, backL E D n b) ∧ RdN w (.slice aB (backL E D n b).length cB) (backL E D n b)) := ⟨q1, q3⟩
      have HTK : Hid ((FS.take (b + 1)).map (fun x => (x.1, ints x.2)) = (FS.take b).map (fun x => (x.1, ints x.2)) ++ [(.slice aB (backL E D n b).length cB, ints (backL E D n b))]) := by
        obtain ⟨hl, e⟩ := List.getElem?_eq_some_iff.1 q1
        show _ = _
        rw [List.take_succ_eq_append_getElem hl, e, List.map_append]
        rfl
      replace q2 := bcell_keep HL.out.1.bel q2
      have hbm : (backL E D n b).length ≤ 2048 := by have := backL_len H.out.2.2.1 D b n; omega
      clear q1 q3
      by_cases hBL : backL E D n b = []
      · have hbl0 : (backL E D n b).length = 0 := by rw [hBL]; rfl
        have HN : Hid (ys.map Prod.fst = loopsTo E D Lf n (b + 1) ∧ List.Sublist (ys.map fun y => (y.2.1, y.1.back)) ((FS.take (b + 1)).map fun x => (x.1, ints x.2))) := by
          refine ⟨?_, ?_⟩
          · rw [loopsTo_succ, if_pos hBL, List.append_nil]
            exact HL.out.2.1
          · rw [HTK.out]
            exact HL.out.2.2.trans (List.sublist_append_left _ _)
        rw [hbl0] at q2
        go_wp2
        go_roundw
        case rel => exact ⟨b + 1, ys, al, cl, by omega, by go_num, by trivial, by omega, HL.out.1, HN.out.1, HN.out.2⟩
        case measure => simp [intOf]; omega
      · have hbp : 0 < (backL E D n b).length := List.length_pos_iff.2 hBL
        have hbpB : (((backL E D n b).length : Int) == 0) = false := by simp; omega
        have hbpI : ¬ ((backL E D n b).length : Int) = 0 := by omega
        have f1 := bcell_keep HL.out.1.bel H.out.2.2.2.2.1
        have bA := below_alloc wr (.cells #[.int .i64 (b : Int)] 2)
        have f2 := bcell_keep bA f1
        have HAA : Hid (Below w.heap.size w (wr.alloc (.cells #[.int .i64 (b : Int)] 2)) ∧ (wr.alloc (.cells #[.int .i64 (b : Int)] 2)).cell? ⟨wr.heap.size, 0, none⟩ = some (.int .i64 (b : Int)) ∧ Below wr.heap.size wr (wr.alloc (.cells #[.int .i64 (b : Int)] 2))) := ⟨below_on HL.out.1.bel (Nat.le_refl _) bA, (Blk.new wr #[.int .i64 (b : Int)] 2).cell 0, bA⟩
        clear bA
        go_wp2_with fail
        refine (postorder_any gF 0 cF n (fromL E n) _ (backL E D n b) _ [b] _ hn (fun q hq x hx => ((fromL_mem E n q x).1 hx).1) (fun q => by have := fromL_len H.out.2.2.1 n q; omega) (H.out.1.keep HAA.out.1) (fun x hx => ((backL_mem E D n b x).1 hx).1) (by omega) (HV.out.2.keep HAA.out.1) (.inr ⟨b, wr.heap.size, 1, rfl, hlt, rfl, HAA.out.2.1⟩)).mono ?_
        rintro e u2 ⟨V2, S2, O2, rfl, hv2, ho2, b2⟩
        obtain ⟨a2, c2, rfl⟩ := own_slice ho2
        obtain ⟨hsort, hOl⟩ := body_sorted H.out.2.1 hlt hv2 (H.out.2.2.2.1 b)
        have HO2 : Hid (OwN u2 wr.heap.size (.slice a2 O2.length c2) O2 ∧ Below wr.heap.size wr u2 ∧ ((ints (O2 ++ [b])).mergeSort fun x y => decide (x ≤ y)) = ints ((List.range n).filter (Lf b))) := ⟨own_lower ho2 HAA.out.2.2.size, below_on HAA.out.2.2 (Nat.le_refl _) b2, hsort⟩
        have hA2 := below_alloc u2 (.cells #[.int .i64 (b : Int)] 2)
        have HOA : Hid ((u2.alloc (.cells #[.int .i64 (b : Int)] 2)).ownsRow wr.heap.size 2 1 (.slice a2 O2.length c2) O2.length (nv O2) ∧ wr.heap.size ≤ (u2.alloc (.cells #[.int .i64 (b : Int)] 2)).heap.size ∧ Below wr.heap.size wr (u2.alloc (.cells #[.int .i64 (b : Int)] 2))) := ⟨HO2.out.1.keep hA2, Nat.le_trans HO2.out.2.1.size hA2.size, below_on HO2.out.2.1 (Nat.le_refl _) hA2⟩
        clear hv2 ho2 b2 hsort HAA f1 f2 hA2
        go_wp2_with (first
          | (at_builtin; refine wpList_append_lies _ rfl _ _ 48 rfl wr.heap.size 2 k0 (.int .i64 0) 1 8 Tryz.underlying48 hk hx0 hx1 hx2 rfl (by decide) _ O2.length (nv O2) rfl HOA.out.1 ⟨u2.heap.size, 0, none⟩ 1 1 [.int .i64 (b : Int)] rfl rfl (one_cell u2 (b : Int)) (fun u hu => by simp at hu; subst hu; rfl) (by omega) (by simp [maxLen]; omega) (by omega) HOA.out.2.1 _ rfl ?_; intro g3 cap3 w3 hown hgrow hat hlt9; have HO3 : Hid (w3.ownsRow wr.heap.size 2 1 (.slice (some ⟨g3, 0, none⟩) (O2.length + 1) cap3) (O2.length + 1) (nv (O2 ++ [b])) ∧ Below wr.heap.size wr w3) := ⟨by rw [nv_app]; exact hown, HOA.out.2.2.grown hgrow HOA.out.2.2.size (fun i hi => (HO2.out.1.lt i hi).1)⟩; clear hown hgrow hat hlt9)
          | fail)
        have HZ : Hid (w3.ownsRow wr.heap.size 2 1 (.slice (some ⟨g3, 0, none⟩) (ints (O2 ++ [b])).length cap3) (ints (O2 ++ [b])).length ((ints (O2 ++ [b])).flatMap intCell) ∧ (ints (O2 ++ [b])).length = O2.length + 1) := by
          have e : (ints (O2 ++ [b])).length = O2.length + 1 := by rw [ints_length, List.length_append, List.length_singleton]
          rw [e, ← nv_flat]
          exact ⟨HO3.out.1, rfl⟩
        have HSO := sort_own g3 cap3 wr.heap.size (ints (O2 ++ [b])) w3 (by rw [HZ.out.2]; omega) HZ.out.1
        rw [HZ.out.2, HO2.out.2.2] at HSO
        refine HSO.mono ?_
        rintro e u4 ⟨rfl, ho4, g4⟩
        have hlenF : ((List.range n).filter (Lf b)).length = O2.length + 1 := by
          have := congrArg List.length HO2.out.2.2
          rw [(List.mergeSort_perm _ _).length_eq, HZ.out.2, ints_length] at this
          exact this.symm
        have HU4 : Hid (u4.ownsRow wr.heap.size 2 1 (.slice (some ⟨g3, 0, none⟩) (O2.length + 1) cap3) (ints ((List.range n).filter (Lf b))).length ((ints ((List.range n).filter (Lf b))).flatMap intCell) ∧ Below wr.heap.size wr u4) := by
          refine ⟨by rw [ints_length, hlenF]; exact ho4, HO3.out.2.grown g4 HO3.out.2.size (fun j hj => by cases hj; exact (own_blk HO3.out.1).1)⟩
        clear ho4 g4 HSO HZ HO3 HOA HO2 hlenF
        have bN := below_alloc u4 (.cells #[.int .i64 (b : Int), .slice aB (backL E D n b).length cB, .slice (some ⟨g3, 0, none⟩) (O2.length + 1) cap3] 53)
        have HPN : Hid (LP w (u4.alloc (.cells #[.int .i64 (b : Int), .slice aB (backL E D n b).length cB, .slice (some ⟨g3, 0, none⟩) (O2.length + 1) cap3] 53)) (.slice al ys.length cl) ys ∧ Below wr.heap.size wr (u4.alloc (.cells #[.int .i64 (b : Int), .slice aB (backL E D n b).length cB, .slice (some ⟨g3, 0, none⟩) (O2.length + 1) cap3] 53)) ∧ w.heap.size ≤ (u4.alloc (.cells #[.int .i64 (b : Int), .slice aB (backL E D n b).length cB, .slice (some ⟨g3, 0, none⟩) (O2.length + 1) cap3] 53)).heap.size) := by
          have hb4 := below_on HU4.out.2 (Nat.le_refl _) bN
          exact ⟨HL.out.1.keep hb4, hb4, Nat.le_trans HL.out.1.bel.size hb4.size⟩
        have HNW : Hid (∀ j u, [(.int .i64 (b : Int) : Value), .slice aB (backL E D n b).length cB, .slice (some ⟨g3, 0, none⟩) (O2.length + 1) cap3][j]? = some u → (u4.alloc (.cells #[.int .i64 (b : Int), .slice aB (backL E D n b).length cB, .slice (some ⟨g3, 0, none⟩) (O2.length + 1) cap3] 53)).cell? ((⟨u4.heap.size, 0, none⟩ : Addr).add j) = some u) := fun j u hj => World.news_of_block (Blk.new u4 #[.int .i64 (b : Int), .slice aB (backL E D n b).length cB, .slice (some ⟨g3, 0, none⟩) (O2.length + 1) cap3] 53) j u hj
        have HGO : Hid (∀ g9 cap9 w9, w9.ownsRow w.heap.size 53 3 (.slice (some ⟨g9, 0, none⟩) (ys.length + 1) cap9) (ys.length + 1) (ys.flatMap lCells ++ [.int .i64 (b : Int), .slice aB (backL E D n b).length cB, .slice (some ⟨g3, 0, none⟩) (O2.length + 1) cap3]) → (u4.alloc (.cells #[.int .i64 (b : Int), .slice aB (backL E D n b).length cB, .slice (some ⟨g3, 0, none⟩) (O2.length + 1) cap3] 53)).grownBy w9 (Value.slice al ys.length cl).ownBlock → LP w w9 (.slice (some ⟨g9, 0, none⟩) (ys.length + 1) cap9) (ys ++ [((⟨(b : Int), ints (backL E D n b), ints ((List.range n).filter (Lf b))⟩ : ML), (.slice aB (backL E D n b).length cB : Value), (.slice (some ⟨g3, 0, none⟩) (O2.length + 1) cap3 : Value))])) := fun g9 cap9 w9 hown hgrow => HL.out.1.add (m := ⟨(b : Int), ints (backL E D n b), ints ((List.range n).filter (Lf b))⟩) HPN.out.2.1 (own_keep HU4.out.1 bN (Nat.le_refl _)) hown hgrow
        have HFN : Hid ((ys ++ [((⟨(b : Int), ints (backL E D n b), ints ((List.range n).filter (Lf b))⟩ : ML), (.slice aB (backL E D n b).length cB : Value), (.slice (some ⟨g3, 0, none⟩) (O2.length + 1) cap3 : Value))]).map Prod.fst = loopsTo E D Lf n (b + 1) ∧ List.Sublist ((ys ++ [((⟨(b : Int), ints (backL E D n b), ints ((List.range n).filter (Lf b))⟩ : ML), (.slice aB (backL E D n b).length cB : Value), (.slice (some ⟨g3, 0, none⟩) (O2.length + 1) cap3 : Value))]).map fun y => (y.2.1, y.1.back)) ((FS.take (b + 1)).map fun x => (x.1, ints x.2))) := by
          refine ⟨?_, ?_⟩
          · rw [loopsTo_succ, if_neg hBL, List.map_append, HL.out.2.1]
            rfl
          · rw [HTK.out, List.map_append]
            exact HL.out.2.2.append (List.Sublist.refl _)
        have hmx9 : ys.length + 1 ≤ maxLen := by unfold maxLen; omega
        have hby9 : (ys.length + 1) * 56 ≤ 140737488355328 := by omega
        have hne9 : ∀ u ∈ [(.int .i64 (b : Int) : Value), .slice aB (backL E D n b).length cB, .slice (some ⟨g3, 0, none⟩) (O2.length + 1) cap3], u.oneCell' = true := fun u hu => by simp at hu; rcases hu with rfl | rfl | rfl <;> rfl
        go_wp2_with (at_builtin; refine wpList_append_lies _ rfl _ _ 65 rfl w.heap.size 53 l0 (.agg #[.int .i64 0, .slice none 0 0, .slice none 0 0]) 3 56 Tryz.underlying65 hl hl0 hl1 hl2 rfl (by decide) _ ys.length (ys.flatMap lCells) rfl HPN.out.1.lps ⟨u4.heap.size, 0, none⟩ 1 1 [.int .i64 (b : Int), .slice aB (backL E D n b).length cB, .slice (some ⟨g3, 0, none⟩) (O2.length + 1) cap3] rfl rfl HNW.out hne9 Nat.one_pos hmx9 hby9 HPN.out.2.2 _ rfl ?_; intro g9 cap9 w9 hown9 hgrow9 hat9 hlt9; have HU10 : Hid (LP w w9 (.slice (some ⟨g9, 0, none⟩) (ys.length + 1) cap9) (ys ++ [((⟨(b : Int), ints (backL E D n b), ints ((List.range n).filter (Lf b))⟩ : ML), (.slice aB (backL E D n b).length cB : Value), (.slice (some ⟨g3, 0, none⟩) (O2.length + 1) cap3 : Value))])) := HGO.out g9 cap9 w9 hown9 hgrow9; clear hown9 hgrow9 hat9 hlt9)
        go_roundw
        case rel => exact ⟨b + 1, _, some ⟨g9, 0, none⟩, cap9, by omega, by go_num, by rw [List.length_append, List.length_singleton], by rw [List.length_append, List.length_singleton]; omega, HU10.out, HFN.out.1, HFN.out.2⟩
        case measure => simp [intOf]; omega
    · have ebn : b = n := by omega
      have hltI : ¬ (b : Int) < (n : Int) := by omega
      rw [ebn] at HL
      have HN : Hid (List.Sublist (ys.map fun y => (y.2.1, y.1.back)) (FS.map fun x => (x.1, ints x.2))) := HL.out.2.2.trans (List.Sublist.map _ (List.take_sublist _ _))
      go_wp2
      go_ret
      exact ⟨_, rfl, ys, HL.out.1, HL.out.2.1, HN.out⟩
end Go.Proofs.YtdfmdgbolmbffaaGreat
