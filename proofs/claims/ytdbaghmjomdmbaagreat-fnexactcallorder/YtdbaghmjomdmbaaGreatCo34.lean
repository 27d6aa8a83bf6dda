import Derived.Test.YtdbaghmjomdmbaaGreatCo30
namespace Go.Proofs.YtdbaghmjomdmbaaGreat
open Go.ChangeShapes Go.WideShapes Go.ChangeAt Go.RowKit
set_option linter.unusedVariables false
def OrderIs (p : MP) (zs : List Int) : Prop := (FaultIs p 0 ∧ zs = orderL p.funcs) ∨ (¬ FaultIs p 0 ∧ zs = [])
theorem fault_ok {p : MP} (h : FaultIs p 0) : FuncsOk p.funcs ∧ CodeOk p := by
  rcases h with h | h | h | h | h | h
  · exact absurd h.1 (by decide)
  · exact absurd h.1 (by decide)
  · exact absurd h.1 (by decide)
  · exact absurd h.1 (by decide)
  · exact absurd h.1 (by decide)
  · exact ⟨h.2.2.2.1, h.2.2.2.2.1⟩
/-- What was found so far, from the last function down to j. -/
def Found (fs : List MF) (zs : List Int) (n j : Nat) (nxt : Int) : Prop := (nxt = -1 ∧ ∀ k, j ≤ k → k < n → readyB fs zs k = false) ∨ ∃ q : Nat, nxt = (q : Int) ∧ j ≤ q ∧ q < n ∧ readyB fs zs q = true ∧ ∀ k, j ≤ k → k < q → readyB fs zs k = false
theorem Found.yes {fs : List MF} {zs : List Int} {n b : Nat} {nxt : Int} (h : Found fs zs n (b + 1) nxt) (hb : b < n) (hr : readyB fs zs b = true) : Found fs zs n b (b : Int) := .inr ⟨b, rfl, Nat.le_refl _, hb, hr, fun k h1 h2 => by omega⟩
theorem Found.no {fs : List MF} {zs : List Int} {n b : Nat} {nxt : Int} (h : Found fs zs n (b + 1) nxt) (hr : readyB fs zs b = false) : Found fs zs n b nxt := by
  rcases h with ⟨h1, h2⟩ | ⟨q, h1, h2, h3, h4, h5⟩
  · refine .inl ⟨h1, fun k k1 k2 => ?_⟩
    by_cases e : k = b
    · subst e
      exact hr
    · exact h2 k (by omega) k2
  · refine .inr ⟨q, h1, by omega, h3, h4, fun k k1 k2 => ?_⟩
    by_cases e : k = b
    · subst e
      exact hr
    · exact h5 k (by omega) k2
theorem bcell_below {w u : World} (hb : Below w.heap.size w u) {a : Addr} {x : Value} (h : w.cell? a = some x) : u.cell? a = some x := by rw [hb.cell (block_lt_of_cell h)]; exact h
/-- One more is done; it is not told yet. -/
structure SetQ (w u : World) (v : VP) (n bd : Nat) (V : Value) (zs : List Int) (q : Nat) : Prop where
  pb : At4 u w.heap.size v.r v.k v.f v.t
  done : u.ownsRow w.heap.size 4 1 (.slice (some ⟨bd, 0, none⟩) n n) n (doneV (zs ++ [(q : Int)]) n)
  out : u.ownsRow (w.heap.size + 1) 2 1 V zs.length (zs.flatMap intCell)
  bel : Below w.heap.size w u
  far : w.heap.size < bd
theorem own_blkC {w : World} {base g k n c : Nat} {e : TypeId} {xs : List Value} (h : w.ownsRow base e k (.slice (some ⟨g, 0, none⟩) n c) n xs) : base ≤ g ∧ ∃ cur, w.heap[g]? = some (Obj.cells cur e (0, 0)) := by
  rcases h.2 with ⟨h', _⟩ | ⟨g', cap', cur, h', hb, hg, _⟩
  · cases h'
  · cases h'
    exact ⟨hb, cur, hg⟩
theorem own_otherC {u : World} {B B' g k k' n n' c : Nat} {e e' : TypeId} {s : Value} {xs ys : List Value} (h : u.ownsRow B e k s n xs) (h' : u.ownsRow B' e' k' (.slice (some ⟨g, 0, none⟩) n' c) n' ys) (hne : e ≠ e') (i : Nat) (z : Value) : (u.setCell ⟨g, i, none⟩ z).ownsRow B e k s n xs := by
  obtain ⟨_, cur, h1⟩ := own_blkC h'
  refine ownsRow_setCell_other h (a := ⟨g, i, none⟩) (fun q => ?_) z
  rcases h.2 with ⟨rfl, _⟩ | ⟨g', cap', cur', rfl, _, hg', _⟩
  · cases q
  · simp only [Value.ownBlock, Option.some.injEq] at q
    subst q
    rw [h1] at hg'
    simp only [Option.some.injEq, Obj.cells.injEq] at hg'
    exact hne hg'.2.1.symm
theorem own_grownC {w w' : World} {base B : Nat} {e e' : TypeId} {s v : Value} {k k' n m : Nat} {xs bs : List Value} (h : w.ownsRow base e k s n xs) (hg : w.grownBy w' v.ownBlock) (ho : w.ownsRow B e' k' v m bs) (hne : e ≠ e') : w'.ownsRow base e k s n xs := by
  refine ⟨h.1, ?_⟩
  rcases h.2 with h | ⟨g, cap, cur, e1, hb1, hgg, hr⟩
  · exact .inl h
  · refine .inr ⟨g, cap, cur, e1, hb1, ?_, hr⟩
    rw [hg.block g (Array.getElem?_eq_some_iff.1 hgg).1 ?_]
    · exact hgg
    · intro hv
      rcases ho.2 with ⟨rfl, _⟩ | ⟨g', cap', cur', rfl, _, hg', _⟩
      · cases hv
      · simp only [Value.ownBlock, Option.some.injEq] at hv
        subst hv
        rw [hgg] at hg'
        simp only [Option.some.injEq, Obj.cells.injEq] at hg'
        exact hne hg'.2.1
theorem one_cellC (U : World) (z : Int) : ∀ j u, [(.int .i64 z : Value)][j]? = some u → (U.alloc (.cells #[.int .i64 z] 2)).cell? ((⟨U.heap.size, 0, none⟩ : Addr).add j) = some u := fun j u hj => by
  rw [add_at, Nat.zero_add, (Blk.new U #[.int .i64 z] 2).cell j]
  simpa using hj
theorem At4.setC {u : World} {b g i : Nat} {x y z t V : Value} (h : At4 u b x y z t) (hne : b ≠ g) : At4 (u.setCell ⟨g, i, none⟩ V) b x y z t := by
  have k : ∀ (j : Nat) (a : Value), u.cell? ⟨b, j, none⟩ = some a → (u.setCell ⟨g, i, none⟩ V).cell? ⟨b, j, none⟩ = some a := fun j a ha => by
    have := heap_setCell_other u ⟨g, i, none⟩ b V hne
    unfold World.cell? at *
    rw [this]
    exact ha
  exact ⟨k 0 _ h.c0, k 1 _ h.c1, k 2 _ h.c2, k 3 _ h.c3⟩
theorem SetQ.of {w u : World} {v : VP} {n bd q : Nat} {V : Value} {zs : List Int} (h : CW w u v n bd V zs) (hq : q < n) (hf : w.heap.size < bd) : SetQ w (u.setCell ⟨bd, q, none⟩ (.bool true)) v n bd V zs q := by
  refine ⟨h.pb.setC (by omega), ?_, own_otherC h.out h.done (by decide) q _, h.bel.setCell (by simp only []; omega) _, hf⟩
  have := (h.done.stored q (.bool true)).1
  rw [doneV_set zs n q hq] at this
  exact this
theorem SetQ.al {w u : World} {v : VP} {n bd q : Nat} {V : Value} {zs : List Int} (h : SetQ w u v n bd V zs q) (o : Obj) : (u.alloc o).ownsRow (w.heap.size + 1) 2 1 V zs.length (zs.flatMap intCell) ∧ w.heap.size + 1 ≤ (u.alloc o).heap.size := ⟨own_keep h.out (below_alloc _ _) (Nat.le_refl _), Nat.le_trans h.pb.lt (below_alloc _ _).size⟩
theorem SetQ.next {w u u' : World} {v : VP} {n bd q : Nat} {V V' : Value} {zs : List Int} (h : SetQ w u v n bd V zs q) (hown : u'.ownsRow (w.heap.size + 1) 2 1 V' (zs.length + 1) (zs.flatMap intCell ++ [.int .i64 (q : Int)])) (hg : (u.alloc (.cells #[.int .i64 (q : Int)] 2)).grownBy u' V.ownBlock) : CW w u' v n bd V' (zs ++ [(q : Int)]) := by
  have bA := below_alloc u (.cells #[.int .i64 (q : Int)] 2)
  have o1 := own_keep h.out bA (Nat.le_refl _)
  refine ⟨?_, own_grownC (own_keep h.done bA (Nat.le_refl _)) hg o1 (by decide), ?_, (below_on h.bel (Nat.le_refl _) bA).grown hg (Nat.le_trans h.bel.size bA.size) (fun i hi => by have := (h.out.lt i hi).1; omega)⟩
  · have k : ∀ (j : Nat) (a : Value), u.cell? ⟨w.heap.size, j, none⟩ = some a → u'.cell? ⟨w.heap.size, j, none⟩ = some a := fun j a ha => by
      have h1 := bcell_keep bA ha
      have h2 := hg.block w.heap.size (Nat.lt_of_lt_of_le h.pb.lt bA.size) (fun e => by have := (h.out.lt _ e.symm).1; omega)
      unfold World.cell? at *
      rw [h2]
      exact h1
    exact ⟨k 0 _ h.pb.c0, k 1 _ h.pb.c1, k 2 _ h.pb.c2, k 3 _ h.pb.c3⟩
  · rw [List.length_append, List.length_singleton, List.flatMap_append]
    exact hown
set_option maxHeartbeats 8000000 in
set_option maxRecDepth 100000 in
theorem specOrder_any (v : VP) (p : MP) (w : World) (hs : p.small) (hw : p.wf) (h : RdP w v p) :
    Calls Tryz.prog 5 #[.agg #[v.r, v.k, v.f, v.t]] w fun e w' => ∃ V zs, e = .returned V ∧ Rd w' 1 V zs.length (zs.flatMap intCell) ∧ OrderIs p zs ∧ Below w.heap.size w w' := by
  obtain ⟨j0, hj, hy0, hy1, hy2⟩ := info_parts infoBool
  obtain ⟨k0, hk, hx0, hx1, hx2⟩ := info_parts info64
  have H : Hid (p.small ∧ p.wf ∧ RdP w v p) := ⟨hs, hw, h⟩
  clear hs hw h
  have HE0 : Hid (At4 ((w.alloc (.cells #[v.r, v.k, v.f, v.t] 35)).alloc (.cells #[] 2)) w.heap.size v.r v.k v.f v.t ∧ Blk ((w.alloc (.cells #[v.r, v.k, v.f, v.t] 35)).alloc (.cells #[] 2)) (w.heap.size + 1) #[] 2 ∧ Below w.heap.size w ((w.alloc (.cells #[v.r, v.k, v.f, v.t] 35)).alloc (.cells #[] 2))) := by
    refine ⟨(At4.new w _ _ _ _ _).alloc _, ?_, below_on (below_alloc _ _) (Nat.le_refl _) (below_alloc _ _)⟩
    have := Blk.new (w.alloc (.cells #[v.r, v.k, v.f, v.t] 35)) #[] 2
    simpa using this
  go_enter Tryz.func5, Tryz.ntmps5
  go_wp2_with fail
  refine (specFault_any v p _ H.out.1 H.out.2.1 (H.out.2.2.keep HE0.out.2.2 (Nat.le_refl _))).mono ?_
  rintro e u1 ⟨⟨nf, rfl, hnf⟩, b1⟩
  have HE1 : Hid (At4 u1 w.heap.size v.r v.k v.f v.t ∧ Blk u1 (w.heap.size + 1) #[] 2 ∧ Below w.heap.size w u1) := ⟨HE0.out.1.keep b1, HE0.out.2.1.keep b1, below_on HE0.out.2.2 (Nat.le_refl _) b1⟩
  clear b1 HE0
  by_cases q0 : nf = 0
  · subst q0
    have HF : Hid (FaultIs p 0) := hnf
    clear hnf
    obtain ⟨ys, hys, hrd, hel⟩ := H.out.2.2.funcs
    obtain ⟨vr, vk, vf, vt⟩ := v
    obtain ⟨af, cf, ef⟩ : ∃ a c, vf = .slice a p.funcs.length c := hrd.is_slice
    subst ef
    have hn32 := (fault_ok HF.out).1.2.1
    have hn0 := (fault_ok HF.out).1.1
    have HFN : Hid (ys.map Prod.fst = p.funcs ∧ Rd w 4 (.slice af p.funcs.length cf) p.funcs.length (ys.flatMap fCells) ∧ ∀ x ∈ ys, RdF w x.2 x.1) := ⟨hys, hrd, hel⟩
    clear hys hrd hel
    generalize hLL : p.funcs.length = n at hn32 hn0 HFN HE1
    have HL : Hid (p.funcs.length = n) := hLL
    clear hLL
    obtain ⟨gf, of, rfl, HCF⟩ : ∃ gf of, af = some ⟨gf, of, none⟩ ∧ Hid (∀ j u, (ys.flatMap fCells)[j]? = some u → w.cell? ⟨gf, of + j, none⟩ = some u) := by
      rcases HFN.out.2.1.2 with ⟨e0, _⟩ | ⟨gf, of, c', e1, hc1⟩
      · exact absurd e0 hn0
      · simp only [Value.slice.injEq, true_and] at e1
        exact ⟨gf, of, e1.1, hc1⟩
    obtain ⟨p0, p1, p2, p3⟩ := HE1.out.1
    go_wp2_with (at_make; refine wpList_make_full _ rfl _ _ 47 rfl w.heap.size 4 j0 (.bool false) 1 Tryz.underlying47 hj hy0 hy1 .i64 .i64 _ _ n rfl rfl rfl rfl (by rw [hy2]; omega) (by unfold maxLen; omega) HE1.out.2.2.size ?_; intro w3 hown hgrow; rw [made_boolC, doneV_nil] at hown)
    have HC0 : Hid (CW w w3 ⟨vr, vk, .slice (some ⟨gf, of, none⟩) n cf, vt⟩ n u1.heap.size (.slice (some ⟨w.heap.size + 1, 0, none⟩) 0 0) []) := by
      have hb3 : Below u1.heap.size u1 w3 := (Below.refl _ _).grown hgrow (Nat.le_refl _) (fun k hk => by cases hk)
      exact ⟨HE1.out.1.keep hb3, hown, ⟨rfl, .inr ⟨w.heap.size + 1, 0, #[], rfl, Nat.le_refl _, HE1.out.2.1.keep hb3, Nat.le_refl _, Nat.zero_le _, rfl, rfl⟩⟩, below_on HE1.out.2.2 (Nat.le_refl _) hb3⟩
    have HBD0 : Hid (w.heap.size < u1.heap.size) := HE1.out.1.lt
    clear hown hgrow p0 p1 p2 p3 HE1
    have HBD : Hid (w.heap.size < u1.heap.size) := HBD0.out
    generalize u1.heap.size = bd at HC0 HBD ⊢
    go_wp2
    go_loopw [3] (fun V wr => ∃ zs : List Int, zs.length ≤ n ∧ (∃ a c, V = .slice a zs.length c) ∧ Hid (CW w wr ⟨vr, vk, .slice (some ⟨gf, of, none⟩) n cf, vt⟩ n bd V zs ∧ orderN p.funcs (n - zs.length) zs = orderL p.funcs)) (fun V _ => n - vlen V)
    case atStart => exact ⟨[], by simp, ⟨_, _, rfl⟩, ⟨HC0.out, by unfold orderL; rw [HL.out]; rfl⟩⟩
    case round =>
      clear HC0
      obtain ⟨zs, hzn, ⟨aV, cV, rfl⟩, HC⟩ := hrel
      by_cases hlt : zs.length < n
      · have hltI : (zs.length : Int) < (n : Int) := by omega
        go_wp2
        go_loopw [6, 7] (fun nx i wr => ∃ (j : Nat) (nxt : Int), j ≤ n ∧ nx = .int .i64 nxt ∧ i = .int .i64 ((j : Int) - 1) ∧ Hid (Found p.funcs zs n j nxt ∧ CW w wr ⟨vr, vk, .slice (some ⟨gf, of, none⟩) n cf, vt⟩ n bd (.slice aV zs.length cV) zs)) (fun _ i _ => (intOf i + 1).toNat)
        case atStart => exact ⟨n, -1, Nat.le_refl _, rfl, rfl, ⟨.inl ⟨rfl, fun k h1 h2 => by omega⟩, HC.out.1⟩⟩
        case round =>
          obtain ⟨j, nxt, hj', rfl, rfl, HF2⟩ := hrel
          cases j with
          | succ b =>
            rw [show (((b + 1 : Nat) : Int) - 1) = (b : Int) by omega]
            obtain ⟨⟨f, z⟩, hy⟩ : ∃ y, ys[b]? = some y := ⟨_, List.getElem?_eq_getElem (by have := congrArg List.length HFN.out.1; rw [List.length_map, HL.out] at this; omega)⟩
            have hfb := fst_at HFN.out.1 hy
            have hrf := HFN.out.2.2 _ (List.mem_of_getElem? hy)
            simp only [] at hrf
            obtain ⟨zp, zl, zc⟩ := z
            obtain ⟨ac, cc, ec⟩ : ∃ a c, zc = .slice a f.code.length c := hrf.2.2.is_slice
            subst ec
            have HX : Hid (RdF w ⟨zp, zl, .slice ac f.code.length cc⟩ f ∧ f.small ∧ p.funcs[b]? = some f) := ⟨hrf, H.out.1.func f (List.mem_of_getElem? hfb), hfb⟩
            have hcl : f.code.length ≤ 1048576 := HX.out.2.1.2.2
            have i3 := Rd.elem fCells_length HCF.out b _ hy 3 _ rfl
            have HI3 : Hid (w.cell? ⟨gf, of + b * 4 + 3, none⟩ = some (.slice ac f.code.length cc)) := i3
            clear hy hfb hrf i3
            have d0 := HF2.out.2.done.cellAt b (by omega)
            rw [doneV_at _ _ _ (by omega)] at d0
            obtain ⟨cb, hcb⟩ : ∃ cb, cb = zs.contains (b : Int) := ⟨_, rfl⟩
            rw [← hcb] at d0
            have HCB : Hid (cb = zs.contains (b : Int)) := hcb
            clear hcb
            have hbL : (b : Int) < (n : Int) := by omega
            go_wp2
            go_loopw [8, 9] (fun r i wr => ∃ (k : Nat) (rb : Bool), k ≤ f.code.length ∧ r = .bool rb ∧ i = .int .i64 k ∧ Hid (rb = (!cb && okTo zs f.code k) ∧ CW w wr ⟨vr, vk, .slice (some ⟨gf, of, none⟩) n cf, vt⟩ n bd (.slice aV zs.length cV) zs)) (fun _ i _ => f.code.length - (intOf i).toNat)
            case atStart => exact ⟨0, !cb, by omega, rfl, rfl, ⟨by simp [okTo], HF2.out.2⟩⟩
            case round =>
              clear d0
              obtain ⟨k, rb, hk', rfl, rfl, HK⟩ := hrel
              obtain ⟨p0, p1, p2, p3⟩ := HK.out.2.pb
              have i3 := bcell_below HK.out.2.bel HI3.out
              by_cases hlt3 : k < f.code.length
              · have hkL : (k : Int) < (f.code.length : Int) := by omega
                cases rb
                · have HNO : Hid (Found p.funcs zs n b nxt) := HF2.out.1.no (by
                    rw [ready_eq p.funcs zs b f HX.out.2.2, ← HCB.out]
                    have := HK.out.1
                    cases hc : cb
                    · rw [hc] at this
                      rw [okTo_false zs f.code k (by simpa using this.symm)]
                      rfl
                    · rfl)
                  go_wp2
                  go_roundw
                  case rel => exact ⟨b, nxt, by omega, rfl, by go_num, ⟨HNO.out, HK.out.2⟩⟩
                  case measure => simp [intOf]
                · obtain ⟨x, hx⟩ : ∃ x, f.code[k]? = some x := ⟨_, List.getElem?_eq_getElem hlt3⟩
                  have HXC : Hid (f.code[k]? = some x) := hx
                  have hcr := HX.out.1.2.2.keep HK.out.2.bel (Nat.le_refl _)
                  rcases hcr.2 with ⟨e0, _⟩ | ⟨gc, oc, c', e1, hc1⟩
                  · omega
                  simp only [Value.slice.injEq, true_and] at e1
                  obtain ⟨rfl, rfl⟩ := e1
                  have x0 := Rd.elem MI.cells_length hc1 k _ hx 0 _ rfl
                  have x1 := Rd.elem MI.cells_length hc1 k _ hx 1 _ rfl
                  have x2 := Rd.elem MI.cells_length hc1 k _ hx 2 _ rfl
                  have x3 := Rd.elem MI.cells_length hc1 k _ hx 3 _ rfl
                  rw [Nat.add_zero] at x0
                  clear hcr hc1 hx
                  obtain ⟨wo, hwo⟩ : ∃ W, W = wr := ⟨_, rfl⟩
                  subst hwo
                  go_upto_region 16 with fail
                  refine wp_world (fun u => Hid (CW w u ⟨vr, vk, .slice (some ⟨gf, of, none⟩) n cf, vt⟩ n bd (.slice aV zs.length cV) zs ∧ Blk u wo.heap.size #[.int .i64 x.op, .int .i64 x.a, .int .i64 x.b, .int .i64 x.c] 52)) ⟨HK.out.2.keep (below_alloc _ _), Blk.new _ _ _⟩ ?_
                  intro U1 HU1
                  clear x0 x1 x2 x3 p0 p1 p2 p3 i3
                  have a0 := HU1.out.2.cell 0
                  have a1 := HU1.out.2.cell 1
                  simp only [List.getElem?_toArray, List.getElem?_cons_zero, List.getElem?_cons_succ] at a0 a1
                  by_cases hc : x.op = 28
                  · rw [hc] at a0
                    have hin := calls_in (fault_ok HF.out).2 HX.out.2.2 (a := x.a) (List.mem_map.2 ⟨x, List.mem_filter.2 ⟨List.mem_of_getElem? HXC.out, by simpa using hc⟩, rfl⟩)
                    rw [HL.out] at hin
                    obtain ⟨aa, haa⟩ : ∃ aa : Nat, x.a = (aa : Int) := ⟨x.a.toNat, by omega⟩
                    rw [haa] at a1 hin
                    have hd := HU1.out.1.done.cellAt aa (by omega)
                    rw [doneV_at _ _ _ (by omega)] at hd
                    obtain ⟨ca, hca⟩ : ∃ ca, ca = zs.contains (aa : Int) := ⟨_, rfl⟩
                    rw [← hca] at hd
                    have HN : Hid (ca = (!cb && okTo zs f.code (k + 1))) := by
                      show _ = _
                      rw [okTo_succ zs f.code k x HXC.out, haa, ← hca, ← Bool.and_assoc, ← HK.out.1]
                      simp [hc]
                    clear hca
                    go_wp2
                    go_roundw
                    case rel => exact ⟨k + 1, ca, by omega, rfl, by go_num, ⟨HN.out, HU1.out.1⟩⟩
                    case measure => simp [intOf]; omega
                  · have hc' : (x.op != 28) = true := by simpa using hc
                    have HN : Hid (true = (!cb && okTo zs f.code (k + 1))) := by
                      show _ = _
                      rw [okTo_succ zs f.code k x HXC.out, ← Bool.and_assoc, ← HK.out.1]
                      simp [hc]
                    go_wp2
                    go_roundw
                    case rel => exact ⟨k + 1, true, by omega, rfl, by go_num, ⟨HN.out, HU1.out.1⟩⟩
                    case measure => simp [intOf]; omega
              · obtain rfl : k = f.code.length := by omega
                cases rb
                · have HNO : Hid (Found p.funcs zs n b nxt) := HF2.out.1.no (by rw [ready_eq p.funcs zs b f HX.out.2.2, ← HCB.out, ← HK.out.1])
                  go_wp2
                  go_roundw
                  case rel => exact ⟨b, nxt, by omega, rfl, by go_num, ⟨HNO.out, HK.out.2⟩⟩
                  case measure => simp [intOf]
                · have HYE : Hid (Found p.funcs zs n b (b : Int)) := HF2.out.1.yes (by omega) (by rw [ready_eq p.funcs zs b f HX.out.2.2, ← HCB.out, ← HK.out.1])
                  go_wp2
                  go_roundw
                  case rel => exact ⟨b, (b : Int), by omega, rfl, by go_num, ⟨HYE.out, HK.out.2⟩⟩
                  case measure => simp [intOf]
          | zero =>
            rw [show (((0 : Nat) : Int) - 1) = -1 from rfl]
            rcases HF2.out.1 with ⟨rfl, hno⟩ | ⟨q, rfl, _, hqn, hqr, hqm⟩
            · have HO : Hid (orderL p.funcs = []) := by
                show _ = _
                rw [← HC.out.2, show n - zs.length = (n - zs.length - 1) + 1 by omega]
                simp only [orderN]
                rw [leastR_none (fun j hj => hno j (Nat.zero_le _) (by rw [← HL.out]; exact hj))]
              have HBE : Hid (Below w.heap.size w wr) := HF2.out.2.bel
              clear hno
              go_wp2
              go_ret
              exact ⟨_, [], rfl, ⟨rfl, .inl ⟨rfl, _, _, rfl⟩⟩, .inl ⟨HF.out, HO.out.symm⟩, below_on HBE.out (Nat.le_refl _) (below_alloc _ _)⟩
            · have HO : Hid (orderN p.funcs (n - (zs ++ [(q : Int)]).length) (zs ++ [(q : Int)]) = orderL p.funcs) := by
                show _ = _
                rw [← HC.out.2, show n - zs.length = (n - zs.length - 1) + 1 by omega]
                simp only [orderN]
                rw [leastR_some (by rw [HL.out]; exact hqn) hqr (fun j hj => hqm j (Nat.zero_le _) hj), List.length_append, List.length_singleton, Nat.sub_add_eq]
              have d0 := HF2.out.2.done.cellAt q (by omega)
              rw [doneV_at _ _ _ hqn] at d0
              generalize zs.contains (q : Int) = cq at d0
              have d1 := HF2.out.2.done.frozenAt q
              have HS1 : Hid (SetQ w (wr.setCell ⟨bd, q, none⟩ (.bool true)) ⟨vr, vk, .slice (some ⟨gf, of, none⟩) n cf, vt⟩ n bd (.slice aV zs.length cV) zs q) := SetQ.of HF2.out.2 hqn HBD.out
              have hqL : (q : Int) < (n : Int) := by omega
              have hq0 : ¬ (q : Int) < 0 := by omega
              clear hqr hqm
              go_upto_region 22 with fail
              refine wp_world (fun u => Hid (SetQ w u ⟨vr, vk, .slice (some ⟨gf, of, none⟩) n cf, vt⟩ n bd (.slice aV zs.length cV) zs q)) HS1 ?_
              intro U1 HU1
              clear d0 d1 HS1
              go_wp2_with (at_builtin; refine wpList_append_lies _ rfl _ _ 29 rfl (w.heap.size + 1) 2 k0 (.int .i64 0) 1 8 Tryz.underlying29 hk hx0 hx1 hx2 rfl (by decide) _ zs.length (zs.flatMap intCell) rfl (HU1.out.al (.cells #[.int .i64 (q : Int)] 2)).1 ⟨U1.heap.size, 0, none⟩ 1 1 [.int .i64 (q : Int)] rfl rfl (one_cellC U1 (q : Int)) (fun u hu => by simp at hu; subst hu; rfl) (by omega) (by unfold maxLen; omega) (by omega) (HU1.out.al (.cells #[.int .i64 (q : Int)] 2)).2 _ rfl ?_; intro g3 cap3 w3 hown hgrow hat hlt3; have HN : Hid (CW w w3 ⟨vr, vk, .slice (some ⟨gf, of, none⟩) n cf, vt⟩ n bd (.slice (some ⟨g3, 0, none⟩) (zs.length + 1) cap3) (zs ++ [(q : Int)])) := HU1.out.next hown hgrow; clear hown hgrow hat hlt3)
              go_wp2
              go_roundw
              case rel => exact ⟨zs ++ [(q : Int)], by simp only [List.length_append, List.length_singleton]; omega, ⟨some ⟨g3, 0, none⟩, cap3, by rw [List.length_append, List.length_singleton]⟩, ⟨HN.out, HO.out⟩⟩
              case measure => simp only [vlen]; omega
      · have hz : zs.length = n := by omega
        have HO : Hid (zs = orderL p.funcs) := by
          have := HC.out.2
          rw [hz, Nat.sub_self] at this
          exact this
        have HRD : Hid (Rd wr 1 (.slice aV zs.length cV) zs.length (zs.flatMap intCell) ∧ Below w.heap.size w wr) := ⟨Rd.of_own HC.out.1.out, HC.out.1.bel⟩
        rw [hz] at HRD ⊢
        go_wp2
        go_ret
        refine ⟨_, zs, rfl, ?_, .inl ⟨HF.out, HO.out⟩, HRD.out.2⟩
        rw [hz]
        exact HRD.out.1
  · have HN : Hid (¬ FaultIs p 0) := fun e => q0 (FaultIs.one hnf e)
    have q0' : (nf != 0) = true := by simpa using q0
    have HBE : Hid (Below w.heap.size w u1) := HE1.out.2.2
    clear hnf
    go_wp2
    go_ret
    exact ⟨_, [], rfl, ⟨rfl, .inl ⟨rfl, _, _, rfl⟩⟩, .inr ⟨HN.out, rfl⟩, HBE.out⟩
end Go.Proofs.YtdbaghmjomdmbaaGreat
