import Derived.Test.YtdbaghmjomdmbaaGreatCo33
import Derived.Test.YtdbaghmjomdmbaaGreatCo34
import Derived.Test.YtdbaghmjomdmbaaGreatCo43
namespace Go.Proofs.YtdbaghmjomdmbaaGreat
open Go.ChangeShapes Go.WideShapes Go.ChangeAt Go.RowKit
set_option linter.unusedVariables false
theorem SetAt.grownC {w w' : World} {b cnt : Nat} {D : DataW Unit} {row : Option Nat} (h : SetAt w b cnt D) (hg : w.grownBy w' row) (hne : some b ≠ row) : SetAt w' b cnt D := World.ownsMap.kept h hg hne
/-- A row of cells is no map's block. -/
theorem row_ne_map {w : World} {base k n b cnt : Nat} {e : TypeId} {v : Value} {xs : List Value} {R : Value → Option (DataW Unit × List MemPlace)} {D : DataW Unit} (h : w.ownsRow base e k v n xs) (hm : w.ownsMap Tryz.prog 2 R b cnt D) : some b ≠ v.ownBlock := by
  obtain ⟨es, clock, hb, _⟩ := hm
  intro e1
  rcases h.2 with ⟨rfl, _⟩ | ⟨g, cap, cur, rfl, _, hc, _⟩
  · cases e1
  · simp only [Value.ownBlock, Option.some.injEq] at e1
    subst e1
    rw [hb] at hc
    cases hc
theorem MapAt.to {u u' : World} {mb cnt k : Nat} {Bk : Nat → Nat} {zs : List Int} {W : DataW Unit} (h : MapAt u mb cnt k Bk zs W) (ho : u'.ownsMap Tryz.prog 2 mapElem mb cnt W) : MapAt u' mb cnt k Bk zs W := ⟨ho, h.has, h.at_, h.size⟩
/-- The state of the order: who waits, for whom, and what was told. -/
structure OX (w u : World) (fs : List MF) (mb cnt : Nat) (Bk : Nat → Nat) (zm : List Int) (W : DataW Unit) (live : Nat → Bool) (dn : Nat → List Int) (zo : List Int) (V : Value) : Prop where
  map : MapAt u mb cnt fs.length Bk zm W
  sets : SetsAt u fs w.heap.size mb fs.length Bk live dn
  out : u.ownsRow w.heap.size 2 1 V zo.length (zo.flatMap intCell)
  bel : Below w.heap.size w u
  mbl : w.heap.size ≤ mb
def OW (w u : World) (fs : List MF) (mb cnt : Nat) (Bk : Nat → Nat) (zs : List Int) (W : DataW Unit) (V : Value) : Prop := OX w u fs mb cnt Bk zs W (fun i => !zs.contains (i : Int)) (fun _ => zs) zs V
theorem OX.keep {w u u' : World} {fs : List MF} {mb cnt : Nat} {Bk : Nat → Nat} {zm zo : List Int} {W : DataW Unit} {live : Nat → Bool} {dn : Nat → List Int} {V : Value} (h : OX w u fs mb cnt Bk zm W live dn zo V) (hb : Below u.heap.size u u') : OX w u' fs mb cnt Bk zm W live dn zo V := ⟨h.map.to (h.map.own.kept (grown_of_below hb) (by simp)), h.sets.kept (fun i hi cn D q => q.keep hb), own_keep h.out hb (Nat.le_refl _), below_on h.bel (Nat.le_refl _) hb, h.mbl⟩
theorem OX.app {w u u' : World} {fs : List MF} {mb cnt : Nat} {Bk : Nat → Nat} {zm zo : List Int} {W : DataW Unit} {live : Nat → Bool} {dn : Nat → List Int} {V V' : Value} {q : Int} (h : OX w u fs mb cnt Bk zm W live dn zo V) (hg : u.grownBy u' V.ownBlock) (hown : u'.ownsRow w.heap.size 2 1 V' (zo.length + 1) (zo.flatMap intCell ++ [.int .i64 q])) : OX w u' fs mb cnt Bk zm W live dn (zo ++ [q]) V' := ⟨h.map.to (h.map.own.kept hg (row_ne_map h.out h.map.own)), h.sets.kept (fun i hi cn D q => q.grownC hg (row_ne_map h.out q)), by rw [List.length_append, List.length_singleton, List.flatMap_append]; exact hown, h.bel.grown hg h.bel.size (fun j hj => (h.out.lt j hj).1), h.mbl⟩
theorem OX.del {w u u' : World} {fs : List MF} {mb cnt q : Nat} {Bk : Nat → Nat} {zs : List Int} {W : DataW Unit} {V : Value} (h : OX w u fs mb cnt Bk zs W (fun i => !zs.contains (i : Int)) (fun _ => zs) (zs ++ [(q : Int)]) V) (hq : q < fs.length) (hz : zs.contains (q : Int) = false) (ho : u'.ownsMap Tryz.prog 2 mapElem mb cnt (W.del (.int .i64 (q : Int)))) (hg : u.grownBy u' (some mb)) : OX w u' fs mb cnt Bk (zs ++ [(q : Int)]) (W.del (.int .i64 (q : Int))) (fun i => !(zs ++ [(q : Int)]).contains (i : Int)) (fun _ => zs) (zs ++ [(q : Int)]) V := by
  refine ⟨h.map.del hq hz ho, ⟨fun i hi hl => ?_, h.sets.inj, h.sets.ne⟩, h.out.kept hg (Or.inr (row_ne_map h.out h.map.own).symm), h.bel.grown hg h.bel.size (fun j hj => by cases hj; exact h.mbl), h.mbl⟩
  rw [contains_end, Bool.not_or, Bool.and_eq_true] at hl
  obtain ⟨cn, D, h1, h2, h3⟩ := h.sets.set i hi hl.1
  exact ⟨cn, D, h1, h2.grownC hg (fun e => (h.sets.ne i hi).2 (Option.some.inj e)), h3⟩
theorem iter_ne_set {w : World} {R : Value → Option (DataW Unit × List MemPlace)} {b r n cnt c cn : Nat} {D D' : DataW Unit} {left : Lit → Bool} (h : w.ranges Tryz.prog 2 R b r n D left cnt) (hs : SetAt w c cn D') : some c ≠ some r := by
  obtain ⟨es, clock, since, seen, c0, _, _, _, _, hr, _⟩ := h
  obtain ⟨es', clock', hb, _⟩ := hs
  intro e
  cases e
  rw [hb] at hr
  cases hr
/-- What set i has been told, where the walk has left to come to some. -/
def dnOf (zs : List Int) (q : Int) (left : Lit → Bool) (i : Nat) : List Int := if left (.int .i64 (i : Int)) = true then zs else zs ++ [q]
/-- The inner walk's step from world to world that changes only the iterator. -/
theorem OX.step {w u u' : World} {fs : List MF} {mb cnt n r ct : Nat} {Bk : Nat → Nat} {zm zo : List Int} {W : DataW Unit} {live : Nat → Bool} {dn : Nat → List Int} {V : Value} {left left' : Lit → Bool} {c' : Nat} (h : OX w u fs mb cnt Bk zm W live dn zo V) (hr : u.ranges Tryz.prog 2 mapElem mb r n W left ct) (hr' : u'.ranges Tryz.prog 2 mapElem mb r cnt W left' c') (hg : u.grownBy u' (some r)) (hb : w.heap.size ≤ r) : OX w u' fs mb cnt Bk zm W live dn zo V := ⟨h.map.to hr'.owns, h.sets.kept (fun i hi cn D q => q.grownC hg (iter_ne_set hr q)), h.out.kept hg (Or.inr (Go.row_ne_iter h.out hr).symm), h.bel.grown hg h.bel.size (fun j hj => by cases hj; exact hb), h.mbl⟩
theorem OX.start {w u : World} {fs : List MF} {mb cnt : Nat} {Bk : Nat → Nat} {zs : List Int} {q : Int} {W : DataW Unit} {V : Value} (h : OX w u fs mb cnt Bk (zs ++ [q]) W (fun i => !(zs ++ [q]).contains (i : Int)) (fun _ => zs) (zs ++ [q]) V) : OX w u fs mb cnt Bk (zs ++ [q]) W (fun i => !(zs ++ [q]).contains (i : Int)) (dnOf zs q (Go.Maps.has W)) (zs ++ [q]) V := by
  refine ⟨h.map, ⟨fun i hi hl => ?_, h.sets.inj, h.sets.ne⟩, h.out, h.bel, h.mbl⟩
  have : Go.Maps.has W (.int .i64 (i : Int)) = true := by
    rw [h.map.has, hl]
    have h1 : (0 ≤ (i : Int) ∧ (i : Int) < (fs.length : Int)) := by omega
    simp only [h1, and_self, decide_true, Bool.and_true]
  unfold dnOf
  rw [if_pos this]
  exact h.sets.set i hi hl
theorem OX.done {w u : World} {fs : List MF} {mb cnt : Nat} {Bk : Nat → Nat} {zs : List Int} {q : Int} {W : DataW Unit} {V : Value} {left : Lit → Bool} (h : OX w u fs mb cnt Bk (zs ++ [q]) W (fun i => !(zs ++ [q]).contains (i : Int)) (dnOf zs q left) (zs ++ [q]) V) (hl : ∀ kl, left kl = false) : OW w u fs mb cnt Bk (zs ++ [q]) W V := by
  refine ⟨h.map, ⟨fun i hi hv => ?_, h.sets.inj, h.sets.ne⟩, h.out, h.bel, h.mbl⟩
  have := h.sets.set i hi hv
  unfold dnOf at this
  rw [hl] at this
  exact this
/-- What the walk meets: a set that is live and not told. -/
theorem OX.meets {w u : World} {fs : List MF} {mb cnt c : Nat} {Bk : Nat → Nat} {zs : List Int} {q x : Int} {W : DataW Unit} {V : Value} {left : Lit → Bool} (h : OX w u fs mb cnt Bk (zs ++ [q]) W (fun i => !(zs ++ [q]).contains (i : Int)) (dnOf zs q left) (zs ++ [q]) V) (hl : left (.int .i64 x) = true) (hat : ∀ zd, W.atKey (.int .i64 x) zd = .lit (.int .i64 (c : Int))) : ∃ i : Nat, x = (i : Int) ∧ i < fs.length ∧ c = Bk i ∧ ∃ cn D, cn ≤ 1048576 ∧ SetAt u c cn D ∧ ∀ z, Go.Maps.has D (.int .i64 z) = restHas fs zs i z := by
  have h1 := Go.Maps.has_true_of_atKey hat
  rw [h.map.has] at h1
  simp only [Bool.and_eq_true, decide_eq_true_eq] at h1
  obtain ⟨⟨h2, h3⟩, h4⟩ := h1
  obtain ⟨i, rfl⟩ : ∃ i : Nat, x = (i : Int) := ⟨x.toNat, by omega⟩
  have hi : i < fs.length := by omega
  have e := (hat (.agg [])).symm.trans (h.map.at_ i hi (by simpa using h4) (.agg []))
  obtain rfl : c = Bk i := by
    injection e with e
    injection e with _ e
    omega
  have := h.sets.set i hi h4
  unfold dnOf at this
  rw [if_pos hl] at this
  exact ⟨i, rfl, hi, rfl, this⟩
theorem OX.told {w u u' : World} {fs : List MF} {mb cnt i cn : Nat} {Bk : Nat → Nat} {zs : List Int} {q : Int} {W D : DataW Unit} {V : Value} {left : Lit → Bool} (h : OX w u fs mb cnt Bk (zs ++ [q]) W (fun i => !(zs ++ [q]).contains (i : Int)) (dnOf zs q left) (zs ++ [q]) V) (hi : i < fs.length) (hcn : cn ≤ 1048576) (hD : ∀ z, Go.Maps.has D (.int .i64 z) = restHas fs zs i z) (hs0 : SetAt u (Bk i) cn D) (hs : SetAt u' (Bk i) cn (D.del (.int .i64 q))) (hg : u.grownBy u' (some (Bk i))) : OX w u' fs mb cnt Bk (zs ++ [q]) W (fun i => !(zs ++ [q]).contains (i : Int)) (dnOf zs q (fun z => left z && !z.sameKey (.int .i64 (i : Int)))) (zs ++ [q]) V := by
  refine ⟨h.map.to (h.map.own.kept hg (fun e => (h.sets.ne i hi).2 (Option.some.inj e).symm)), ⟨fun j hj hv => ?_, h.sets.inj, h.sets.ne⟩, h.out.kept hg (Or.inr (row_ne_map h.out hs0).symm), h.bel.grown hg h.bel.size (fun j hj => by cases hj; exact (h.sets.ne i hi).1), h.mbl⟩
  by_cases e : j = i
  · subst e
    refine ⟨cn, _, hcn, hs, fun z => ?_⟩
    unfold dnOf
    rw [if_neg (by simp [sameKey_int]), has_delC, hD, rest_end]
  · obtain ⟨cn', D', h1, h2, h3⟩ := h.sets.set j hj hv
    refine ⟨cn', D', h1, h2.grownC hg (fun e' => e (h.sets.inj j i hj hi (Option.some.inj e'))), fun z => ?_⟩
    rw [h3]
    have : ¬ (j : Int) = (i : Int) := by omega
    unfold dnOf
    simp [sameKey_int, this]
set_option maxHeartbeats 8000000 in
set_option maxRecDepth 100000 in
theorem implOrder_any (v : VP) (p : MP) (w : World) (hs : p.small) (hw : p.wf) (h : RdP w v p) (hcap : RdRc w v.r p.regions) (hfp : RdFp w v.f p.funcs) :
    Calls Tryz.prog 7 #[.agg #[v.r, v.k, v.f, v.t]] w fun e w' => ∃ V zs, e = .returned V ∧ w'.ownsRow w.heap.size 2 1 V zs.length (zs.flatMap intCell) ∧ OrderIs p zs ∧ Below w.heap.size w w' := by
  obtain ⟨k0, hk, hx0, hx1, hx2⟩ := info_parts info64
  have H : Hid (p.small ∧ p.wf ∧ RdP w v p ∧ RdRc w v.r p.regions ∧ RdFp w v.f p.funcs) := ⟨hs, hw, h, hcap, hfp⟩
  clear hs hw h hcap hfp
  have hmm := @run_makeMap Tryz.prog
  have HE0 : Hid (At4 (w.alloc (.cells #[v.r, v.k, v.f, v.t] 35)) w.heap.size v.r v.k v.f v.t ∧ Below w.heap.size w (w.alloc (.cells #[v.r, v.k, v.f, v.t] 35))) := ⟨At4.new w _ _ _ _ _, below_alloc _ _⟩
  go_enter Tryz.func7, Tryz.ntmps7
  obtain ⟨q0, q1, q2, q3⟩ := HE0.out.1
  go_wp2_with fail
  refine (checkProgram_any v p _ H.out.1 H.out.2.1 (H.out.2.2.1.keep HE0.out.2 (Nat.le_refl _)) (H.out.2.2.2.1.keep HE0.out.2 (Nat.le_refl _)) (H.out.2.2.2.2.keep HE0.out.2 (Nat.le_refl _))).mono ?_
  rintro e u1 ⟨⟨nf, rfl, hnf⟩, b1⟩
  have HE1 : Hid (At4 u1 w.heap.size v.r v.k v.f v.t ∧ Below w.heap.size w u1) := ⟨HE0.out.1.keep b1, below_on HE0.out.2 (Nat.le_refl _) b1⟩
  clear b1 HE0 q0 q1 q2 q3
  by_cases q0 : nf = 0
  · subst q0
    have HF : Hid (FaultIs p 0) := hnf
    clear hnf
    rw [show errOf 0 = .nilIface from rfl]
    obtain ⟨ys, hys, hrd, hel⟩ := H.out.2.2.1.funcs
    obtain ⟨vr, vk, vf, vt⟩ := v
    obtain ⟨af, cf, ef⟩ : ∃ a c, vf = .slice a p.funcs.length c := hrd.is_slice
    subst ef
    have hn32 := (fault_ok HF.out).1.2.1
    have hn0 := (fault_ok HF.out).1.1
    have HFN : Hid (ys.map Prod.fst = p.funcs ∧ Rd w 4 (.slice af p.funcs.length cf) p.funcs.length (ys.flatMap fCells) ∧ ∀ x ∈ ys, RdF w x.2 x.1) := ⟨hys, hrd, hel⟩
    clear hys hrd hel
    generalize hLL : p.funcs.length = n at hn32 hn0 HFN HE1
    have HL : Hid (p.funcs.length = n) := hLL
    clear hLL
    obtain ⟨gf, of, rfl, HCF⟩ : ∃ gf of, af = some ⟨gf, of, none⟩ ∧ Hid (∀ j u, (ys.flatMap fCells)[j]? = some u → w.cell? ⟨gf, of + j, none⟩ = some u) := by
      rcases HFN.out.2.1.2 with ⟨e0, _⟩ | ⟨gf, of, c', e1, hc1⟩
      · exact absurd e0 hn0
      · simp only [Value.slice.injEq, true_and] at e1
        exact ⟨gf, of, e1.1, hc1⟩
    obtain ⟨p0, p1, p2, p3⟩ := HE1.out.1.alloc (.map #[] 0)
    obtain ⟨r0, r1, r2, r3⟩ := HE1.out.1
    have HS0 : Hid (MapAt (u1.alloc (.map #[] 0)) u1.heap.size 0 0 (fun _ => 0) [] (.map []) ∧ Below w.heap.size w (u1.alloc (.map #[] 0)) ∧ w.heap.size ≤ u1.heap.size) := ⟨MapAt.start (World.ownsMap_made _ _ _ _), below_on HE1.out.2 (Nat.le_refl _) (below_alloc _ _), HE1.out.2.size⟩
    go_wp2
    clear p0 p1 p2 p3 r0 r1 r2 r3
    have HMB : Hid (w.heap.size ≤ u1.heap.size) := HS0.out.2.2
    have HS1 : Hid (∃ Bk W, MapAt (u1.alloc (.map #[] 0)) u1.heap.size 0 0 Bk [] W ∧ SetsAt (u1.alloc (.map #[] 0)) p.funcs w.heap.size u1.heap.size 0 Bk (fun _ => true) (fun _ => []) ∧ Below w.heap.size w (u1.alloc (.map #[] 0))) := ⟨_, _, HS0.out.1, SetsAt.start, HS0.out.2.1⟩
    clear HS0 HE1
    generalize u1.heap.size = mb at HS1 HMB ⊢
    go_loopw [18] (fun i wr => ∃ k : Nat, k ≤ n ∧ i = .int .i64 k ∧ Hid (∃ Bk W, MapAt wr mb k k Bk [] W ∧ SetsAt wr p.funcs w.heap.size mb k Bk (fun _ => true) (fun _ => []) ∧ Below w.heap.size w wr)) (fun i _ => n - (intOf i).toNat)
    case atStart => exact ⟨0, by omega, rfl, HS1⟩
    case round =>
      clear HS1
      obtain ⟨k, hkn, rfl, HK0⟩ := hrel
      obtain ⟨Bk, W, hM, hS, hB⟩ := HK0.out
      have HK : Hid (MapAt wr mb k k Bk [] W ∧ SetsAt wr p.funcs w.heap.size mb k Bk (fun _ => true) (fun _ => []) ∧ Below w.heap.size w wr) := ⟨hM, hS, hB⟩
      clear hM hS hB HK0
      by_cases hlt : k < n
      · have hkL : (k : Int) < (n : Int) := by omega
        obtain ⟨⟨f, z⟩, hy⟩ : ∃ y, ys[k]? = some y := ⟨_, List.getElem?_eq_getElem (by have := congrArg List.length HFN.out.1; rw [List.length_map, HL.out] at this; omega)⟩
        have hfb := fst_at HFN.out.1 hy
        have hrf := HFN.out.2.2 _ (List.mem_of_getElem? hy)
        simp only [] at hrf
        obtain ⟨zp, zl, zc⟩ := z
        obtain ⟨ap, cp, ep⟩ : ∃ a c, zp = .slice a f.params.length c := hrf.1.is_slice
        obtain ⟨al, cl, el⟩ : ∃ a c, zl = .slice a f.locals.length c := hrf.2.1.is_slice
        obtain ⟨ac, cc, ec⟩ : ∃ a c, zc = .slice a f.code.length c := hrf.2.2.is_slice
        subst ep el ec
        have HX : Hid (RdF w ⟨.slice ap f.params.length cp, .slice al f.locals.length cl, .slice ac f.code.length cc⟩ f ∧ f.small ∧ p.funcs[k]? = some f ∧ (∀ x ∈ f.code, x.wf)) := ⟨hrf, H.out.1.func f (List.mem_of_getElem? hfb), hfb, (H.out.2.1.funcs f (List.mem_of_getElem? hfb)).code⟩
        have i0 := bcell_below HK.out.2.2 (Rd.elem fCells_length HCF.out k _ hy 0 _ rfl)
        have i1 := bcell_below HK.out.2.2 (Rd.elem fCells_length HCF.out k _ hy 1 _ rfl)
        have i2 := bcell_below HK.out.2.2 (Rd.elem fCells_length HCF.out k _ hy 2 _ rfl)
        have i3 := bcell_below HK.out.2.2 (Rd.elem fCells_length HCF.out k _ hy 3 _ rfl)
        rw [Nat.add_zero] at i0
        clear hy hfb hrf
        go_upto_region 7 with fail
        refine wp_world (fun u => Hid (MapAt u mb k k Bk [] W ∧ SetsAt u p.funcs w.heap.size mb k Bk (fun _ => true) (fun _ => []) ∧ Below w.heap.size w u ∧ Blk u wr.heap.size #[.slice ap f.params.length cp, .int .i64 f.result, .slice al f.locals.length cl, .slice ac f.code.length cc] 50)) ⟨HK.out.1.to (HK.out.1.own.alloc _), HK.out.2.1.kept (fun i hi cn D q => q.keep (below_alloc _ _)), below_on HK.out.2.2 (Nat.le_refl _) (below_alloc _ _), Blk.new _ _ _⟩ ?_
        intro U1 HU1
        clear i0 i1 i2 i3
        obtain ⟨a0, a1, a2, a3⟩ := blk4 HU1.out.2.2.2
        go_wp2_with fail
        refine (calleesOf_any _ f.code U1 HX.out.2.1.2.2 HX.out.2.2.2 (HX.out.1.2.2.keep HU1.out.2.2.1 (Nat.le_refl _))).mono ?_
        rintro e u4 ⟨rfl, ⟨cs, DS, hcs, hset, hto⟩, b4⟩
        have HV : Hid (SetAt u4 U1.heap.size cs DS ∧ CallsTo DS f.code f.code.length ∧ cs ≤ 1048576 ∧ Below U1.heap.size U1 u4) := ⟨hset, hto, by have := HX.out.2.1.2.2; omega, b4⟩
        have hown4 := HU1.out.1.own.kept (grown_of_below b4) (by simp)
        clear hset hto hcs b4 a0 a1 a2 a3
        have HR : Hid (∃ Bk W, MapAt u4 mb k k Bk [] W ∧ SetsAt u4 p.funcs w.heap.size mb k Bk (fun _ => true) (fun _ => [])) := ⟨Bk, W, HU1.out.1.to hown4, HU1.out.2.1.kept (fun i hi cn D q => q.keep HV.out.2.2.2)⟩
        have hwk : W64 (k : Int) := w64_small (by omega) (by omega)
        go_wp2_with (at_mapUpdate; refine wpList_mapUpdate_own _ rfl _ _ _ 60 rfl 2 62 law64 Tryz.underlying60 mapElem mb k W rfl hown4 (by unfold maxLen; omega) _ _ _ rfl rfl (Go.Maps.keyOf_int_mk Tryz.underlying2 hwk) (.lit (.int .i64 (U1.heap.size : Int))) [] rfl ?_; intro w5 hown5 hgrow5)
        have HN : Hid (∃ Bk W, MapAt w5 mb (k + 1) (k + 1) Bk [] W ∧ SetsAt w5 p.funcs w.heap.size mb (k + 1) Bk (fun _ => true) (fun _ => []) ∧ Below w.heap.size w w5) := by
          have hlU := World.ownsMap.lt HU1.out.1.own
          have hks : ∀ i, i < k → ∀ cn D, SetAt U1 (Bk i) cn D → SetAt w5 (Bk i) cn D := fun i hi cn D q => (q.keep HV.out.2.2.2).grownC hgrow5 (fun e => (HU1.out.2.1.ne i hi).2 (Option.some.inj e))
          refine ⟨_, _, HU1.out.1.put hown5, HU1.out.2.1.put hks (fun i hi e => ?_) ⟨HU1.out.2.2.1.size, by omega⟩ ⟨cs, DS, HV.out.2.2.1, HV.out.1.grownC hgrow5 (fun e => by have := Option.some.inj e; omega), fun z => ?_⟩, ?_⟩
          · obtain ⟨cn, D, _, q, _⟩ := HU1.out.2.1.set i hi rfl
            have := World.ownsMap.lt q
            omega
          · rw [HV.out.2.1 z, List.take_of_length_le (Nat.le_refl _)]
            unfold restHas
            rw [HX.out.2.2.1]
            simp
          · exact (below_on HU1.out.2.2.1 (Nat.le_refl _) HV.out.2.2.2).grown hgrow5 (below_on HU1.out.2.2.1 (Nat.le_refl _) HV.out.2.2.2).size (fun j hj => by cases hj; exact HMB.out)
        clear hown5 hgrow5 hown4
        go_wp2
        go_roundw
        case rel => exact ⟨k + 1, by omega, by go_num, HN⟩
        case measure => simp [intOf]; omega
      · obtain rfl : k = n := by omega
        have HO0 : Hid (OW w wr p.funcs mb k Bk [] W (.slice none 0 0)) := ⟨by rw [HL.out]; exact HK.out.1, by rw [HL.out]; exact HK.out.2.1, ⟨rfl, .inl ⟨rfl, rfl⟩⟩, HK.out.2.2, HMB.out⟩
        have HST : Hid (OW w wr p.funcs mb k Bk [] W (.slice none 0 0) ∧ orderN p.funcs (k - ([] : List Int).length) [] = orderL p.funcs) := ⟨HO0.out, by unfold orderL; rw [HL.out]; rfl⟩
        clear HK HO0
        obtain ⟨W0, hW0⟩ : ∃ W0, W0 = W := ⟨_, rfl⟩
        subst hW0
        go_wp2
        go_loopw [6] (fun V wr => ∃ (zs : List Int) (W : DataW Unit), zs.length ≤ k ∧ (∃ a c, V = .slice a zs.length c) ∧ Hid (OW w wr p.funcs mb k Bk zs W V ∧ orderN p.funcs (k - zs.length) zs = orderL p.funcs)) (fun V _ => k - vlen V)
        case atStart => exact ⟨[], _, by simp, ⟨_, _, rfl⟩, HST⟩
        case round =>
          clear HST
          obtain ⟨zs, W, hzk, ⟨aV, cV, rfl⟩, HC⟩ := hrel
          have hown := HC.out.1.map.own
          have hsz := HC.out.1.map.size
          rw [HL.out] at hsz
          by_cases hlt : zs.length < k
          · have hpos : (0 : Int) < ((Go.Maps.size W : Nat) : Int) := by omega
            go_wp2_with (first
              | (at_len; refine wpList_len_own _ rfl _ 60 rfl 2 62 Tryz.underlying60 _ mb k _ rfl hown ?_)
              | fail)
            refine (readyOf_any mb k W (readyE p.funcs zs) _ (by omega) HC.out.1.map.own (sets_ready HC.out.1.sets HC.out.1.map)).mono ?_
            rintro e u9 ⟨g9, cap9, rs, rfl, own9, hsrt, hmem, b9⟩
            have HC9 : Hid (OW w u9 p.funcs mb k Bk zs W (.slice aV zs.length cV) ∧ Below wr.heap.size wr u9) := ⟨HC.out.1.keep b9, b9⟩
            have hfirst := ready_first (by rw [HL.out]; omega) HC.out.1.map.has hsrt hmem
            clear hown b9 hsrt hmem
            rcases hfirst with ⟨rfl, hno⟩ | ⟨q, r, rfl, hq, hqz, hle⟩
            · have HO : Hid (orderL p.funcs = []) := by
                show _ = _
                rw [← HC.out.2, show k - zs.length = (k - zs.length - 1) + 1 by omega]
                simp only [orderN]
                rw [hno]
              clear hno own9
              go_wp2
              go_ret
              exact ⟨_, [], rfl, ⟨rfl, .inl ⟨rfl, rfl⟩⟩, .inl ⟨HF.out, HO.out.symm⟩, HC9.out.1.bel⟩
            · have HO : Hid (orderN p.funcs (k - (zs ++ [(q : Int)]).length) (zs ++ [(q : Int)]) = orderL p.funcs) := by
                show _ = _
                rw [← HC.out.2, show k - zs.length = (k - zs.length - 1) + 1 by omega]
                simp only [orderN]
                rw [hle, List.length_append, List.length_singleton, Nat.sub_add_eq]
              have c9 := own9.cellAt 0 (by simp)
              rw [show ((((q : Int) :: r).flatMap intCell)[0]? = some (.int .i64 (q : Int))) from rfl] at c9
              have HQ : Hid (q < p.funcs.length ∧ zs.contains (q : Int) = false) := ⟨hq, hqz⟩
              clear hq hqz hle own9
              have hwq : W64 (q : Int) := w64_small (by omega) (by have := HQ.out.1; have := HL.out; omega)
              have HAL : Hid (OW w (u9.alloc (.cells #[.int .i64 (q : Int)] 2)) p.funcs mb k Bk zs W (.slice aV zs.length cV)) := HC9.out.1.keep (below_alloc _ _)
              have hqL : (r.length : Int) + 1 > 0 := by omega
              go_wp2_with (first
                | (at_builtin; refine wpList_append_lies _ rfl _ _ 29 rfl w.heap.size 2 k0 (.int .i64 0) 1 8 Tryz.underlying29 hk hx0 hx1 hx2 rfl (by decide) _ zs.length (zs.flatMap intCell) rfl HAL.out.out ⟨u9.heap.size, 0, none⟩ 1 1 [.int .i64 (q : Int)] rfl rfl (one_cellC u9 (q : Int)) (fun u hu => by simp at hu; subst hu; rfl) (by omega) (by unfold maxLen; omega) (by omega) HAL.out.bel.size _ rfl ?_; intro g3 cap3 w3 hown3 hgrow3 hat3 hlt3; have HN3 : Hid (OX w w3 p.funcs mb k Bk zs W (fun i => !zs.contains (i : Int)) (fun _ => zs) (zs ++ [(q : Int)]) (.slice (some ⟨g3, 0, none⟩) (zs.length + 1) cap3)) := HAL.out.app hgrow3 hown3; have own3 := HN3.out.map.own; clear hown3 hgrow3 hat3 hlt3)
                | (at_delete; refine wpList_delete_own _ rfl _ _ 60 2 rfl 62 law64 Tryz.underlying60 _ mb k W rfl own3 _ _ rfl (Go.Maps.keyOf_int_mk Tryz.underlying2 hwq) ?_; intro w4 hown4 hturn4; have HN4 : Hid (OX w w4 p.funcs mb k Bk (zs ++ [(q : Int)]) (W.del (.int .i64 (q : Int))) (fun i => !(zs ++ [(q : Int)]).contains (i : Int)) (fun _ => zs) (zs ++ [(q : Int)]) (.slice (some ⟨g3, 0, none⟩) (zs.length + 1) cap3)) := HN3.out.del HQ.out.1 HQ.out.2 hown4 hturn4.grown; clear hturn4 own3)
                | (at_range; refine wpList_range_own _ rfl _ 60 rfl 2 62 law64 Tryz.underlying60 _ mb k _ rfl hown4 ?_; intro w5 hrg5 hg5 hs5)
                | go_in)
              go_frame
              have HN5 : Hid (OX w w5 p.funcs mb k Bk (zs ++ [(q : Int)]) (W.del (.int .i64 (q : Int))) (fun i => !(zs ++ [(q : Int)]).contains (i : Int)) (dnOf zs (q : Int) (Go.Maps.has (W.del (.int .i64 (q : Int))))) (zs ++ [(q : Int)]) (.slice (some ⟨g3, 0, none⟩) (zs.length + 1) cap3) ∧ w.heap.size ≤ w4.heap.size) := ⟨(HN4.out.keep ((Below.refl _ _).grown hg5 (Nat.le_refl _) (fun j hj => by cases hj))).start, HN4.out.bel.size⟩
              have HSZ : Hid (w.heap.size ≤ w4.heap.size) := HN5.out.2
              clear hg5 hs5 hown4 c9 HN4 HN3 HAL HC9
              generalize w4.heap.size = it at hrg5 HSZ HN5 ⊢
              go_loopw [10] (fun _ wr => ∃ (left : Lit → Bool) (cn : Nat), wr.ranges Tryz.prog 2 mapElem mb it k (W.del (.int .i64 (q : Int))) left cn ∧ Hid (OX w wr p.funcs mb k Bk (zs ++ [(q : Int)]) (W.del (.int .i64 (q : Int))) (fun i => !(zs ++ [(q : Int)]).contains (i : Int)) (dnOf zs (q : Int) left) (zs ++ [(q : Int)]) (.slice (some ⟨g3, 0, none⟩) (zs.length + 1) cap3))) (fun _ wr => wr.rangeLeft mb it)
              case atStart => exact ⟨_, _, hrg5, HN5.out.1⟩
              case round =>
                clear HN5 hrg5
                obtain ⟨left, cn, hrg, HT⟩ := hrel
                go_wp2_with (first
                  | (at_next; refine wpList_next_ranges _ rfl _ rfl 2 law64 mapElem (Value.int .i64) (fun (c : Nat) => Value.map (some c)) (fun key kl hk => by obtain ⟨x, hx, _⟩ := Go.Maps.keyOf_int_inv Tryz.underlying2 hk; exact ⟨x, hx⟩) (fun v y hv => by obtain ⟨c, rfl, _⟩ := mapElem_inv hv; exact ⟨c, rfl⟩) mb it k _ _ _ rfl hrg ?_ ?_)
                  | go_in)
                · intro hc0 hl0
                  have HD : Hid (OW w wr p.funcs mb k Bk (zs ++ [(q : Int)]) (W.del (.int .i64 (q : Int))) (.slice (some ⟨g3, 0, none⟩) (zs.length + 1) cap3)) := HT.out.done hl0
                  clear hrg HT
                  go_wp2
                  go_roundw
                  case rel => exact ⟨zs ++ [(q : Int)], _, by simp only [List.length_append, List.length_singleton]; omega, ⟨some ⟨g3, 0, none⟩, cap3, by rw [List.length_append, List.length_singleton]⟩, ⟨HD.out, HO.out⟩⟩
                  case measure => simp only [vlen]; omega
                · intro x c kl y ps w2 cnt2 hkey hlk hv hat hrg2 hlt2 hg2 hs2 hen
                  obtain ⟨x', ex, rfl, hwx⟩ := Go.Maps.keyOf_int_inv Tryz.underlying2 hkey
                  obtain rfl : x = x' := by cases ex; rfl
                  obtain ⟨c', ec, ey⟩ := mapElem_inv hv
                  obtain ⟨rfl, rfl⟩ := Prod.mk.inj ey
                  clear ey
                  obtain rfl : c = c' := by cases ec; rfl
                  obtain ⟨i, rfl, hi, rfl, cs, DS, hcs, hsat, hDS⟩ := HT.out.meets hlk hat
                  have hsat2 : SetAt w2 (Bk i) cs DS := hsat.grownC hg2 (iter_ne_set hrg hsat)
                  have HT2 : Hid (OX w w2 p.funcs mb k Bk (zs ++ [(q : Int)]) (W.del (.int .i64 (q : Int))) (fun i => !(zs ++ [(q : Int)]).contains (i : Int)) (dnOf zs (q : Int) left) (zs ++ [(q : Int)]) (.slice (some ⟨g3, 0, none⟩) (zs.length + 1) cap3) ∧ wr.rangeLeft mb it = cn) := ⟨HT.out.step hrg hrg2 hg2 HSZ.out, hrg.left_eq⟩
                  have hsm := hsat2
                  unfold SetAt at hsm
                  clear hs2 HT hrg hg2 hsat
                  go_wp2_with (first
                    | (at_delete; refine wpList_delete_own _ rfl _ _ 62 2 rfl 118 law64 Tryz.underlying62 _ (Bk i) cs DS rfl hsm _ _ rfl (Go.Maps.keyOf_int_mk Tryz.underlying2 hwq) ?_; intro w6 hown6 hturn6; have HN6 : Hid (OX w w6 p.funcs mb k Bk (zs ++ [(q : Int)]) (W.del (.int .i64 (q : Int))) (fun i => !(zs ++ [(q : Int)]).contains (i : Int)) (dnOf zs (q : Int) (fun z => left z && !z.sameKey (.int .i64 (i : Int)))) (zs ++ [(q : Int)]) (.slice (some ⟨g3, 0, none⟩) (zs.length + 1) cap3) ∧ w6.ranges Tryz.prog 2 mapElem mb it k (W.del (.int .i64 (q : Int))) (fun z => left z && !z.sameKey (.int .i64 (i : Int))) cnt2) := ⟨HT2.out.1.told hi hcs hDS hsat2 hown6 hturn6.grown, hrg2.kept hturn6.grown (fun e => (HT2.out.1.sets.ne i hi).2 (Option.some.inj e).symm) (iter_ne_set hrg2 hsat2).symm⟩; clear hown6 hturn6)
                    | go_in)
                  go_frame
                  go_roundw
                  case rel => exact ⟨_, cnt2, HN6.out.2, HN6.out.1⟩
                  case measure => rw [HN6.out.2.left_eq, HT2.out.2]; exact hlt2
          · have hz : zs.length = k := by omega
            have hz0 : Go.Maps.size W = 0 := by omega
            have HO : Hid (zs = orderL p.funcs) := by
              have := HC.out.2
              rw [hz, Nat.sub_self] at this
              exact this
            have HRD : Hid (wr.ownsRow w.heap.size 2 1 (.slice aV zs.length cV) zs.length (zs.flatMap intCell) ∧ Below w.heap.size w wr) := ⟨HC.out.1.out, HC.out.1.bel⟩
            go_wp2_with (first
              | (at_len; refine wpList_len_own _ rfl _ 60 rfl 2 62 Tryz.underlying60 _ mb k _ rfl hown ?_; rw [hz0])
              | go_in)
            go_ret
            refine ⟨.slice aV zs.length cV, zs, ?_, HRD.out.1, .inl ⟨HF.out, HO.out⟩, HRD.out.2⟩
            rw [hz]
            rfl
  · have HN : Hid (¬ FaultIs p 0) := fun e => q0 (FaultIs.one hnf e)
    have HBE : Hid (Below w.heap.size w u1) := HE1.out.2
    rw [show errOf nf = .iface 92 (.int .i64 nf) from if_neg q0]
    clear hnf
    go_wp2
    go_ret
    exact ⟨_, [], rfl, ⟨rfl, .inl ⟨rfl, rfl⟩⟩, .inr ⟨HN.out, rfl⟩, HBE.out⟩
end Go.Proofs.YtdbaghmjomdmbaaGreat
