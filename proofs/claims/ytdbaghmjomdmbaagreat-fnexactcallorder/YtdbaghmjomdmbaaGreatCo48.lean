import Derived.Test.YtdbaghmjomdmbaaGreatCo47
namespace Go.Proofs.YtdbaghmjomdmbaaGreat
open Go.ChangeShapes Go.WideShapes Go.ChangeAt Go.RowKit
set_option linter.unusedVariables false
set_option maxHeartbeats 2000000 in
set_option maxRecDepth 100000 in
theorem markInt64SS_any (W0 : World) (base : Nat) (s : Value) (rs : List (List Int)) (k0 : Int) (w : World) (hn : rs.length ≤ 1048576) (hr : ∀ r ∈ rs, r.length ≤ 1048576) (h0 : 0 ≤ k0) (h1 : k0 ≤ 281474976710656) (h : OwnR W0 base s rs) (hs : Shaped W0 w) :
    Calls Tryz.prog 29 #[s, .int .i64 k0] w fun e w' => (∃ k1, e = .returned (.int .i64 k1) ∧ k0 ≤ k1 ∧ k1 ≤ k0 + 1048576 * (rs.length : Int)) ∧ Marks base W0.heap.size w w' := by
  obtain ⟨xs, hxs, hrow, hel⟩ := h
  have hxl : xs.length = rs.length := by rw [← hxs]; simp
  have H : Hid (W0.ownsRow base 29 1 s rs.length (xs.flatMap rCells) ∧ Shaped W0 w ∧ xs.map Prod.fst = rs ∧ (∀ x ∈ xs, W0.ownsRow base 2 1 x.2 x.1.length (x.1.flatMap intCell)) ∧ (∀ r ∈ rs, r.length ≤ 1048576) ∧ xs.length = rs.length) := ⟨hrow, hs, hxs, hel, hr, hxl⟩
  clear hs hxs hel hr hxl
  rcases own_row hrow with ⟨rfl, hz⟩ | ⟨g, c, rfl⟩
  · clear hrow
    go_enter Tryz.func29, Tryz.ntmps29
    go_wp2
    go_loopw [1, 5] (fun q i wr => q = .int .i64 k0 ∧ i = .int .i64 0 ∧ wr = w) (fun _ _ _ => 0)
    case atStart => exact ⟨rfl, rfl, rfl⟩
    case round =>
      obtain ⟨rfl, rfl, rfl⟩ := hrel
      go_wp2
      go_ret
      exact ⟨⟨k0, rfl, by omega, by omega⟩, Marks.refl _ _ _⟩
  · clear hrow
    generalize hLL : rs.length = n at hn H ⊢
    have HL : Hid (rs.length = n) := hLL
    clear hLL
    go_enter Tryz.func29, Tryz.ntmps29
    go_wp2
    go_loopw [1, 5] (fun q i wr => ∃ (k : Nat) (kk : Int), k ≤ n ∧ q = .int .i64 kk ∧ k0 ≤ kk ∧ kk ≤ k0 + 1048576 * k ∧ i = .int .i64 k ∧ Hid (Marks base W0.heap.size w wr)) (fun _ i _ => n - (intOf i).toNat)
    case atStart => exact ⟨0, k0, by omega, rfl, by omega, by omega, rfl, Marks.refl _ _ _⟩
    case round =>
      obtain ⟨k, kk, hk, rfl, q0, q1, rfl, HM⟩ := hrel
      by_cases hlt : k < n
      · obtain ⟨⟨r, v⟩, hx⟩ : ∃ x, xs[k]? = some x := ⟨_, List.getElem?_eq_getElem (by rw [H.out.2.2.2.2.2]; exact hlt)⟩
        have e1 := fst_at H.out.2.2.1 hx
        have hrl := H.out.2.2.2.2.1 _ (List.mem_of_getElem? e1)
        have hrr := H.out.2.2.2.1 _ (List.mem_of_getElem? hx)
        simp only [] at hrl hrr
        have f0 := flat_at rCells 1 rCells_length xs k 0 _ hx (by omega)
        rw [Nat.mul_one, Nat.add_zero] at f0
        obtain ⟨y0, c0, a0, z0, _⟩ := shape_at H.out.1 (H.out.2.1.trans HM.out.shaped) f0
        obtain ⟨av, cv, rfl⟩ := own_slice hrr
        obtain rfl := Alike.slice a0
        have HR : Hid (W0.ownsRow base 2 1 (.slice av r.length cv) r.length (r.flatMap intCell) ∧ r.length ≤ 1048576) := ⟨hrr, hrl⟩
        clear e1 hrr f0 hx a0
        go_wp2_with fail
        refine (markInt64S_any W0 base (.slice av r.length cv) r kk _ HR.out.2 (by omega) (by omega) HR.out.1 (H.out.2.1.trans HM.out.shaped)).mono ?_
        rintro e u ⟨rfl, hm⟩
        have HN : Hid (Marks base W0.heap.size w u) := HM.out.trans hm
        clear hm c0 z0
        go_wp2
        go_roundw
        case rel => exact ⟨k + 1, kk + (r.length : Int), by omega, rfl, by omega, by omega, by go_num, HN⟩
        case measure => simp [intOf]; omega
      · have hkn : k = n := by omega
        subst hkn
        go_wp2
        go_ret
        exact ⟨⟨kk, rfl, by omega, by omega⟩, HM.out⟩
set_option maxHeartbeats 4000000 in
set_option maxRecDepth 100000 in
theorem markFuncS_any (W0 : World) (base : Nat) (s : Value) (rs : List MF) (k0 : Int) (w : World) (hn : rs.length ≤ 1048576) (hr : ∀ r ∈ rs, r.small) (h0 : 0 ≤ k0) (h1 : k0 ≤ 281474976710656) (h : OwnFs W0 base s rs) (hs : Shaped W0 w) :
    Calls Tryz.prog 31 #[s, .int .i64 k0] w fun e w' => (∃ k1, e = .returned (.int .i64 k1) ∧ k0 ≤ k1 ∧ k1 ≤ k0 + 6291457 * (rs.length : Int)) ∧ Marks base W0.heap.size w w' := by
  obtain ⟨xs, hxs, hrow, hel⟩ := h
  have hxl : xs.length = rs.length := by rw [← hxs]; simp
  have H : Hid (W0.ownsRow base 50 4 s rs.length (xs.flatMap fCells) ∧ Shaped W0 w ∧ xs.map Prod.fst = rs ∧ (∀ x ∈ xs, OwnF W0 base x.2 x.1) ∧ (∀ r ∈ rs, r.small) ∧ xs.length = rs.length) := ⟨hrow, hs, hxs, hel, hr, hxl⟩
  clear hs hxs hel hr hxl
  rcases own_row hrow with ⟨rfl, hz⟩ | ⟨g, c, rfl⟩
  · clear hrow
    go_enter Tryz.func31, Tryz.ntmps31
    go_wp2
    go_loopw [1, 5] (fun q i wr => q = .int .i64 k0 ∧ i = .int .i64 0 ∧ wr = w) (fun _ _ _ => 0)
    case atStart => exact ⟨rfl, rfl, rfl⟩
    case round =>
      obtain ⟨rfl, rfl, rfl⟩ := hrel
      go_wp2
      go_ret
      exact ⟨⟨k0, rfl, by omega, by omega⟩, Marks.refl _ _ _⟩
  · clear hrow
    generalize hLL : rs.length = n at hn H ⊢
    have HL : Hid (rs.length = n) := hLL
    clear hLL
    go_enter Tryz.func31, Tryz.ntmps31
    go_wp2
    go_loopw [1, 5] (fun q i wr => ∃ (k : Nat) (kk : Int), k ≤ n ∧ q = .int .i64 kk ∧ k0 ≤ kk ∧ kk ≤ k0 + 6291457 * k ∧ i = .int .i64 k ∧ Hid (Marks base W0.heap.size w wr)) (fun _ i _ => n - (intOf i).toNat)
    case atStart => exact ⟨0, k0, by omega, rfl, by omega, by omega, rfl, Marks.refl _ _ _⟩
    case round =>
      obtain ⟨k, kk, hk, rfl, q0, q1, rfl, HM⟩ := hrel
      by_cases hlt : k < n
      · obtain ⟨⟨r, ⟨vp, vl, vc⟩⟩, hx⟩ : ∃ x, xs[k]? = some x := ⟨_, List.getElem?_eq_getElem (by rw [H.out.2.2.2.2.2]; exact hlt)⟩
        have e1 := fst_at H.out.2.2.1 hx
        have hrl := H.out.2.2.2.2.1 _ (List.mem_of_getElem? e1)
        have hrr := H.out.2.2.2.1 _ (List.mem_of_getElem? hx)
        simp only [] at hrl
        obtain ⟨ap, cp, ep⟩ := own_slice hrr.1
        obtain ⟨al, cl, el⟩ := own_slice hrr.2.1
        obtain ⟨ac, cc, ec⟩ := own_slice hrr.2.2
        simp only [] at ep el ec
        subst ep el ec
        have f0 := flat_at fCells 4 fCells_length xs k 0 _ hx (by omega)
        have f1 := flat_at fCells 4 fCells_length xs k 1 _ hx (by omega)
        have f2 := flat_at fCells 4 fCells_length xs k 2 _ hx (by omega)
        have f3 := flat_at fCells 4 fCells_length xs k 3 _ hx (by omega)
        rw [Nat.add_zero] at f0
        have HR : Hid (OwnF W0 base ⟨.slice ap r.params.length cp, .slice al r.locals.length cl, .slice ac r.code.length cc⟩ r) := hrr
        have FF : Hid (∀ {u : World}, Shaped W0 u → u.cell? ⟨g, k * 4, none⟩ = some (.slice ap r.params.length cp) ∧ u.cell? ⟨g, k * 4 + 2, none⟩ = some (.slice al r.locals.length cl) ∧ u.cell? ⟨g, k * 4 + 3, none⟩ = some (.slice ac r.code.length cc) ∧ (∃ y, u.cell? ⟨g, k * 4 + 1, none⟩ = some y) ∧ u.frozen? ⟨g, k * 4 + 1, none⟩ = false ∧ ∀ z, Marks base W0.heap.size u (u.setCell ⟨g, k * 4 + 1, none⟩ (.int .i64 z))) := fun hsu => by
          obtain ⟨y0, c0, a0, _, _⟩ := shape_at H.out.1 hsu f0
          obtain ⟨y1, c1, a1, z1, m1⟩ := shape_at H.out.1 hsu f1
          obtain ⟨y2, c2, a2, _, _⟩ := shape_at H.out.1 hsu f2
          obtain ⟨y3, c3, a3, _, _⟩ := shape_at H.out.1 hsu f3
          obtain rfl := Alike.slice a0
          obtain rfl := Alike.slice a2
          obtain rfl := Alike.slice a3
          exact ⟨c0, c2, c3, ⟨y1, c1⟩, z1, fun z => m1 base W0.heap.size _ (Nat.le_refl _) (Nat.le_refl _) (.inr ⟨.i64, r.result, z, rfl, rfl⟩)⟩
        obtain ⟨s1, s2, s3⟩ := hrl
        clear e1 hrr f0 f1 f2 f3 hx
        have S0 := H.out.2.1.trans HM.out.shaped
        obtain ⟨c0, c2, c3, ⟨y1, c1⟩, z1, _⟩ := FF.out S0
        clear S0
        go_wp2_with fail
        refine (markInt64S_any W0 base (.slice ap r.params.length cp) r.params kk _ s1 (by omega) (by omega) HR.out.1 (H.out.2.1.trans HM.out.shaped)).mono ?_
        rintro e u1 ⟨rfl, hm⟩
        have HM1 : Hid (Marks base W0.heap.size w u1) := HM.out.trans hm
        clear hm c0 c1 c2 c3 z1 y1
        have S0 := H.out.2.1.trans HM1.out.shaped
        obtain ⟨c0, c2, c3, ⟨y1, c1⟩, z1, m1⟩ := FF.out S0
        have HM2 : Hid (Marks base W0.heap.size w (u1.setCell ⟨g, k * 4 + 1, none⟩ (.int .i64 (kk + (r.params.length : Int))))) := HM1.out.trans (m1 _)
        obtain ⟨_, t2, _⟩ := FF.out (H.out.2.1.trans HM2.out.shaped)
        clear m1 S0
        go_wp2_with fail
        refine (markInt64S_any W0 base (.slice al r.locals.length cl) r.locals (kk + (r.params.length : Int) + 1) _ s2 (by omega) (by omega) HR.out.2.1 (H.out.2.1.trans HM2.out.shaped)).mono ?_
        rintro e u2 ⟨rfl, hm⟩
        have HM3 : Hid (Marks base W0.heap.size w u2) := HM2.out.trans hm
        clear hm c0 c1 c2 c3 z1 y1 t2
        have S0 := H.out.2.1.trans HM3.out.shaped
        obtain ⟨c0, c2, c3, ⟨y1, c1⟩, z1, m1⟩ := FF.out S0
        clear m1 S0
        go_wp2_with fail
        refine (markInstrS_any W0 base (.slice ac r.code.length cc) r.code (kk + (r.params.length : Int) + 1 + (r.locals.length : Int)) _ s3 (by omega) (by omega) HR.out.2.2 (H.out.2.1.trans HM3.out.shaped)).mono ?_
        rintro e u3 ⟨rfl, hm⟩
        have HN : Hid (Marks base W0.heap.size w u3) := HM3.out.trans hm
        clear hm c0 c1 c2 c3 z1 y1
        go_wp2
        go_roundw
        case rel => exact ⟨k + 1, kk + (r.params.length : Int) + 1 + (r.locals.length : Int) + 4 * (r.code.length : Int), by omega, rfl, by omega, by omega, by go_num, HN⟩
        case measure => simp [intOf]; omega
      · have hkn : k = n := by omega
        subst hkn
        go_wp2
        go_ret
        exact ⟨⟨kk, rfl, by omega, by omega⟩, HM.out⟩
set_option maxHeartbeats 2000000 in
set_option maxRecDepth 100000 in
theorem markProgram_any (W0 : World) (base : Nat) (v : VP) (p : MP) (w : World) (hn : p.small) (h : OwnP W0 base v p) (hb : Below W0.heap.size W0 w) :
    Calls Tryz.prog 10 #[.agg #[v.r, v.k, v.f, v.t], .int .i64 1] w fun e w' => (∃ k1 : Int, e = .returned (.int .i64 k1) ∧ 0 ≤ k1 ∧ k1 ≤ 17592186044416) ∧ MarksG base W0.heap.size w w' := by
  have H : Hid (p.small ∧ OwnP W0 base v p) := ⟨hn, h⟩
  clear hn h
  have hA : (w.alloc (.cells #[v.r, v.k, v.f, v.t] 35)).ownsRow w.heap.size 35 4 (.slice (some ⟨w.heap.size, 0, none⟩) 1 1) 1 [v.r, v.k, v.f, v.t] := World.ownsRow_lit (base := w.heap.size) (e := 35) (size := 4) w #[v.r, v.k, v.f, v.t] 1 (Nat.le_refl _) (by unfold maxLen; omega) (by simp)
  have HS : Hid (Shaped W0 (w.alloc (.cells #[v.r, v.k, v.f, v.t] 35))) := (Shaped.of_below hb).trans (Shaped.of_below ((Below.refl _ _).alloc (Nat.le_refl _) _))
  have hWs := hb.size
  have HB : Hid (Below w.heap.size w (w.alloc (.cells #[v.r, v.k, v.f, v.t] 35))) := (Below.refl _ _).alloc (Nat.le_refl _) _
  go_enter Tryz.func10, Tryz.ntmps10
  go_wp2_with fail
  generalize w.alloc (.cells #[v.r, v.k, v.f, v.t] 35) = W1 at hA HS HB ⊢
  refine (markInt64SS_any W0 base v.r p.regions 1 _ H.out.1.regions H.out.1.region (by omega) (by omega) H.out.2.regions HS.out).mono ?_
  rintro e u1 ⟨⟨k1, rfl, k10, k11⟩, m1⟩
  have HM1 : Hid (Marks base W0.heap.size W1 u1) := m1
  have hl1 := H.out.1.regions
  have hl2 := H.out.1.consts
  have hl3 := H.out.1.funcs
  have hl4 := H.out.1.certs
  have keep : ∀ {u : World}, Marks base W0.heap.size W1 u → ∀ (i : Nat) x, W1.cell? ⟨w.heap.size, i, none⟩ = some x → u.cell? ⟨w.heap.size, i, none⟩ = some x := fun hm i x hx => by
    have := hm.out w.heap.size (.inr hWs)
    unfold World.cell? at *
    rw [this]
    exact hx
  have HK : Hid (∀ {u : World}, Marks base W0.heap.size W1 u → u.cell? ⟨w.heap.size, 0, none⟩ = some v.r ∧ u.cell? ⟨w.heap.size, 1, none⟩ = some v.k ∧ u.cell? ⟨w.heap.size, 2, none⟩ = some v.f ∧ u.cell? ⟨w.heap.size, 3, none⟩ = some v.t) := fun hm => ⟨keep hm 0 _ (hA.cellAt 0 (by omega)), keep hm 1 _ (hA.cellAt 1 (by omega)), keep hm 2 _ (hA.cellAt 2 (by omega)), keep hm 3 _ (hA.cellAt 3 (by omega))⟩
  clear m1 keep hA
  obtain ⟨p0, p1, p2, p3⟩ := HK.out HM1.out
  go_wp2_with fail
  refine (markConstS_any W0 base v.k p.consts k1 _ hl2 (by omega) (by omega) H.out.2.consts (HS.out.trans HM1.out.shaped)).mono ?_
  rintro e u2 ⟨rfl, m2⟩
  have HM2 : Hid (Marks base W0.heap.size W1 u2) := HM1.out.trans m2
  clear m2 p0 p1 p2 p3
  obtain ⟨p0, p1, p2, p3⟩ := HK.out HM2.out
  go_wp2_with fail
  refine (markFuncS_any W0 base v.f p.funcs (k1 + 2 * (p.consts.length : Int)) _ hl3 H.out.1.func (by omega) (by omega) H.out.2.funcs (HS.out.trans HM2.out.shaped)).mono ?_
  rintro e u3 ⟨⟨k3, rfl, k30, k31⟩, m3⟩
  have HM3 : Hid (Marks base W0.heap.size W1 u3) := HM2.out.trans m3
  clear m3 p0 p1 p2 p3
  obtain ⟨p0, p1, p2, p3⟩ := HK.out HM3.out
  go_wp2_with fail
  refine (markCertS_any W0 base v.t p.certs k3 _ hl4 (by omega) (by omega) H.out.2.certs (HS.out.trans HM3.out.shaped)).mono ?_
  rintro e u4 ⟨rfl, m4⟩
  have HM4 : Hid (Marks base W0.heap.size W1 u4) := HM3.out.trans m4
  clear m4 p0 p1 p2 p3
  go_wp2
  go_ret
  exact ⟨⟨_, rfl, by omega, by omega⟩, MarksG.of HB.out (Nat.le_refl _) HM4.out⟩
end Go.Proofs.YtdbaghmjomdmbaaGreat
