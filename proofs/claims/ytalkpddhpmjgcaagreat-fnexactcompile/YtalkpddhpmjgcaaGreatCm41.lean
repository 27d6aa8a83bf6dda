import Derived.Test.YtalkpddhpmjgcaaGreatCm40
import Derived.Test.YtalkpddhpmjgcaaGreatCm36
namespace Go.Proofs.YtalkpddhpmjgcaaGreat
open Go.ChangeShapes Go.WideShapes Go.ChangeAt Go.RowKit
set_option linter.unusedVariables false
def slV (x : SL) : Value := .slice x.1 x.2.1 x.2.2
def hCell {n : Nat} (x : TL n × SL) : List Value := slCell x.2
theorem hCell_length {n : Nat} (x : TL n × SL) : (hCell x).length = 1 := rfl
/-- Lists of lists that are owned. -/
def OwnHs (w : World) (n : Nat) (s : Value) (hs : List (TL n)) : Prop := ∃ xs : List (TL n × SL), xs.map Prod.fst = hs ∧ w.ownsRow 0 33 1 s hs.length ((xs.map Prod.snd).flatMap slCell) ∧ ∀ x ∈ xs, OwnT w 0 n (slV x.2) x.1
theorem OwnHs.keep {w w' : World} {n : Nat} {s : Value} {hs : List (TL n)} (h : OwnHs w n s hs) (hb : Below w.heap.size w w') : OwnHs w' n s hs := by
  obtain ⟨xs, h1, h2, h3⟩ := h
  exact ⟨xs, h1, own_keep h2 hb (Nat.le_refl _), fun x hx => (h3 x hx).keep hb (Nat.le_refl _)⟩
theorem slV_is {w : World} {n : Nat} {s : Value} {t : TL n} (h : RdT w n s t) : ∃ x : SL, s = slV x := by
  obtain ⟨a, c, rfl⟩ := h.is_slice
  exact ⟨(a, lenT n t, c), rfl⟩
/-- What readAll tells: lists that are read. -/
def RdIs (w : World) (A : Nat → Prop) (V : Value) (xs : List AT) : Prop := ∃ ys : List (AT × SL), ys.map Prod.fst = xs ∧ Rd w 1 V xs.length ((ys.map Prod.snd).flatMap slCell) ∧ ∀ y ∈ ys, RdI w A y.1.n (slV y.2) y.1.t
theorem RdIs.keep {w w' : World} {A : Nat → Prop} {V : Value} {xs : List AT} (h : RdIs w A V xs) (hb : Below w.heap.size w w') : RdIs w' A V xs := by
  obtain ⟨ys, h1, h2, h3⟩ := h
  exact ⟨ys, h1, h2.keep hb (Nat.le_refl _), fun y hy => (h3 y hy).keep hb⟩
theorem RdIs.is_slice {w : World} {A : Nat → Prop} {V : Value} {xs : List AT} (h : RdIs w A V xs) : ∃ a c, V = .slice a xs.length c := by
  obtain ⟨ys, h1, h2, h3⟩ := h; exact h2.is_slice
theorem sl_at {w : World} {s : Value} {m : Nat} {zs : List SL} (h : Rd w 1 s m (zs.flatMap slCell)) {i : Nat} {z : SL} (hi : zs[i]? = some z) : ∃ g o c, s = .slice (some ⟨g, o, none⟩) m c ∧ w.cell? ⟨g, o + i, none⟩ = some (slV z) := by
  have hlt := (List.getElem?_eq_some_iff.1 hi).1
  have hm : zs.length = m := by have := h.1; rw [flat_length slCell 1 slCell_length] at this; omega
  rcases h.2 with ⟨e, _⟩ | ⟨g, o, c, e, hc⟩
  · omega
  · refine ⟨g, o, c, e, ?_⟩
    have := Rd.elem slCell_length hc i z hi 0 _ rfl
    simpa [slV, slCell] using this
theorem RdIs.elem {w : World} {A : Nat → Prop} {V : Value} {xs : List AT} (h : RdIs w A V xs) {i : Nat} {x : AT} (hi : xs[i]? = some x) : ∃ g o c z, V = .slice (some ⟨g, o, none⟩) xs.length c ∧ w.cell? ⟨g, o + i, none⟩ = some (slV z) ∧ RdI w A x.n (slV z) x.t := by
  obtain ⟨ys, h1, h2, h3⟩ := h
  rw [← h1, List.getElem?_map] at hi
  obtain ⟨y, hy, rfl⟩ : ∃ y, ys[i]? = some y ∧ y.1 = x := by
    cases hy : ys[i]? with
    | none => rw [hy] at hi; cases hi
    | some y => rw [hy] at hi; exact ⟨y, rfl, Option.some.inj hi⟩
  obtain ⟨g, o, c, e, hc⟩ := sl_at h2 (i := i) (z := y.2) (by rw [List.getElem?_map, hy]; rfl)
  exact ⟨g, o, c, y.2, e, hc, h3 y (List.mem_of_getElem? hy)⟩
/-- Where the reading stands. -/
structure RaAt (w u : World) (V : Value) (ys : List (AT × SL)) : Prop where
  row : u.ownsRow w.heap.size 64 1 V ys.length ((ys.map Prod.snd).flatMap slCell)
  els : ∀ y ∈ ys, RdI u (fun b => w.heap.size ≤ b ∧ V.ownBlock ≠ some b) y.1.n (slV y.2) y.1.t
  bel : Below w.heap.size w u
theorem RaAt.keep {w u u' : World} {V : Value} {ys : List (AT × SL)} (h : RaAt w u V ys) (hb : Below u.heap.size u u') : RaAt w u' V ys := ⟨own_keep h.row hb (Nat.le_refl _), fun y hy => (h.els y hy).keep hb, below_on h.bel (Nat.le_refl _) hb⟩
theorem RaAt.app {w u z u' : World} {V : Value} {ys : List (AT × SL)} (h : RaAt w u V ys) (hz : Below u.heap.size u z) {y : AT × SL} (hy : RdI z (fun b => u.heap.size ≤ b) y.1.n (slV y.2) y.1.t)
    {g cap : Nat} (hown : u'.ownsRow w.heap.size 64 1 (.slice (some ⟨g, 0, none⟩) (ys.length + 1) cap) (ys.length + 1) ((ys.map Prod.snd).flatMap slCell ++ slCell y.2)) (hg : z.grownBy u' V.ownBlock) (hat : V.ownBlock = some g ∨ g = z.heap.size) : RaAt w u' (.slice (some ⟨g, 0, none⟩) (ys.length + 1) cap) (ys ++ [y]) := by
  have hsz := hz.size
  have hwu := h.bel.size
  have hVlt : ∀ b, V.ownBlock = some b → b < u.heap.size := fun b hb => (h.row.lt b hb).2
  refine ⟨?_, fun x hx => ?_, (below_on h.bel (Nat.le_refl _) hz).grown hg (Nat.le_trans h.bel.size hz.size) (fun j hj => (h.row.lt j hj).1)⟩
  · rw [List.map_append, List.flatMap_append, show (ys ++ [y]).length = ys.length + 1 by simp]
    simpa using hown
  · rcases List.mem_append.1 hx with hx | hx
    · exact (h.els x hx).step (fun b hb hlt => by rw [hg.block b (by omega) (fun e => hb.2 e.symm), hz.block b hlt]) (fun b hb hlt => ⟨hb.1, fun e => by
        simp only [Value.ownBlock, Option.some.injEq] at e
        subst e
        rcases hat with e | e
        · exact hb.2 e
        · omega⟩)
    · simp only [List.mem_singleton] at hx
      subst hx
      exact hy.step (fun b hb hlt => by rw [hg.block b hlt (fun e => by have := hVlt b e.symm; omega)]) (fun b hb hlt => ⟨by omega, fun e => by
        simp only [Value.ownBlock, Option.some.injEq] at e
        subst e
        rcases hat with e | e
        · have := hVlt _ e; omega
        · omega⟩)
theorem RaAt.all {w u : World} {V : Value} {ys : List (AT × SL)} (h : RaAt w u V ys) : RdIs u (fun _ => True) V (ys.map Prod.fst) := ⟨ys, rfl, by rw [List.length_map]; exact Rd.of_own h.row, fun y hy => (h.els y hy).step (fun _ _ _ => rfl) (fun _ _ _ => trivial)⟩
theorem infoLS : (Tryz.prog.info? 64).map (fun i => (i.zero, i.size, i.bytes)) = some (some (.slice none 0 0), 1, 24) := by kernel_rfl
def RaRes (xs : List AT) (w : World) (e : Ending) (w' : World) : Prop := ∃ (V : Value) (b : Bool), e = .returned (.tuple #[V, .bool b]) ∧ (b = true ↔ GoodA xs) ∧ (b = true → RdIs w' (fun _ => True) V xs) ∧ Below w.heap.size w w'
theorem RaRes.no {xs : List AT} {w w' : World} (h : ¬ GoodA xs) (hb : Below w.heap.size w w') : RaRes xs w (.returned (.tuple #[.slice none 0 0, .bool false])) w' := ⟨_, false, rfl, by simp [h], fun e => (by cases e), hb⟩
def AtTo (xs : List AT) (k : Nat) : Prop := ∀ j x, j < k → xs[j]? = some x → GoodX (xs.length - 1) j x
theorem AtTo.next {xs : List AT} {k : Nat} (h : AtTo xs k) {x : AT} (hx : xs[k]? = some x) (hk : GoodX (xs.length - 1) k x) : AtTo xs (k + 1) := fun j y hj hy => by
  by_cases e : j = k
  · subst e
    rw [hx] at hy
    obtain rfl := Option.some.inj hy
    exact hk
  · exact h j y (by omega) hy
set_option maxHeartbeats 8000000 in
set_option maxRecDepth 100000 in
theorem readAll_any (n1 : Nat) (t : TL n1) (n2 : Nat) (hs : List (TL n2)) (s0 s1 : Value) (w : World) (h0 : OwnT w 0 n1 s0 t) (h1 : OwnHs w n2 s1 hs) (z0 : sizeT n1 t ≤ 1048576) (z1 : ∀ h ∈ hs, sizeT n2 h ≤ 1048576) (z2 : hs.length ≤ 1048576) :
    Calls Tryz.prog 23 #[s0, s1] w (RaRes (allA n1 t n2 hs) w) := by
  obtain ⟨iL, hiL, hL0, hL1, hL2⟩ := info_parts infoLS
  obtain ⟨xs, hx1, hx2, hx3⟩ := h1
  obtain ⟨sl0, e0⟩ := slV_is h0.rd
  have hxl : xs.length = hs.length := by rw [← hx1, List.length_map]
  obtain ⟨a1, c1, e1⟩ := (Rd.of_own hx2).is_slice
  have hpl : Placed s1 := by
    rcases own_row hx2 with ⟨e, _⟩ | ⟨g, c, e⟩
    · exact .inl e
    · exact .inr ⟨_, _, _, e⟩
  -- all lists, with their slices
  obtain ⟨zs, hz⟩ : ∃ zs : List (AT × SL), zs = ((⟨n1, t⟩ : AT), sl0) :: xs.map (fun x => ((⟨n2, x.1⟩ : AT), x.2)) := ⟨_, rfl⟩
  have hz1 : zs.map Prod.fst = allA n1 t n2 hs := by rw [hz, ← hx1]; simp [allA]
  have hz2 : zs.map Prod.snd = [sl0] ++ xs.map Prod.snd := by rw [hz]; simp
  have hz3 : ∀ z ∈ zs, OwnT w 0 z.1.n (slV z.2) z.1.t ∧ sizeT z.1.n z.1.t ≤ 1048576 := by
    intro z hzm
    rw [hz] at hzm
    rcases List.mem_cons.1 hzm with rfl | hzm
    · exact ⟨by rw [← e0]; exact h0, z0⟩
    · obtain ⟨x, hx, rfl⟩ := List.mem_map.1 hzm
      exact ⟨hx3 x hx, z1 x.1 (by rw [← hx1]; exact List.mem_map.2 ⟨x, hx, rfl⟩)⟩
  have HZ : Hid (zs.map Prod.fst = allA n1 t n2 hs ∧ zs.map Prod.snd = [sl0] ++ xs.map Prod.snd ∧ ∀ z ∈ zs, OwnT w 0 z.1.n (slV z.2) z.1.t ∧ sizeT z.1.n z.1.t ≤ 1048576) := ⟨hz1, hz2, hz3⟩
  have HX : Hid (Rd w 1 s1 (xs.map Prod.snd).length ((xs.map Prod.snd).flatMap slCell) ∧ Placed s1 ∧ xs.length = hs.length) := ⟨by rw [List.length_map, hxl]; exact Rd.of_own hx2, hpl, hxl⟩
  subst e0
  subst e1
  obtain ⟨a0, l0, c0⟩ := sl0
  clear hz hz1 hz2 hz3 hx1 hx2 hx3 hxl hpl h0 z0 z1
  generalize hN : hs.length = N at HX z2 ⊢
  have HN : Hid ((allA n1 t n2 hs).length = N + 1 ∧ hs.length = N) := ⟨by rw [allA_len, hN], hN⟩
  clear hN
  generalize allA n1 t n2 hs = AA at HZ HN ⊢
  show Calls Tryz.prog 23 #[.slice a0 l0 c0, .slice a1 N c1] w (RaRes AA w)
  go_enter Tryz.func23, Tryz.ntmps23
  by_cases hn : 8 < N
  · have hn' : (8 : Int) < (N : Int) := by omega
    have HNG : Hid (¬ GoodA AA) := fun e => by have := e.1; rw [HN.out.1] at this; omega
    go_wp2_with fail
    go_ret2
    exact RaRes.no HNG.out (Below.refl _ _)
  have hn' : ¬ (8 : Int) < (N : Int) := by omega
  have E0 : Hid (Below w.heap.size w ((w.alloc (.cells #[.slice a0 l0 c0] 33)).alloc (.cells #[.slice (some ⟨w.heap.size, 0, none⟩) 1 1, .slice a1 N c1] 35)) ∧ Blk ((w.alloc (.cells #[.slice a0 l0 c0] 33)).alloc (.cells #[.slice (some ⟨w.heap.size, 0, none⟩) 1 1, .slice a1 N c1] 35)) w.heap.size #[.slice a0 l0 c0] 33 ∧ Blk ((w.alloc (.cells #[.slice a0 l0 c0] 33)).alloc (.cells #[.slice (some ⟨w.heap.size, 0, none⟩) 1 1, .slice a1 N c1] 35)) (w.heap.size + 1) #[.slice (some ⟨w.heap.size, 0, none⟩) 1 1, .slice a1 N c1] 35) := by
    refine ⟨below_on (below_alloc _ _) (Nat.le_refl _) (below_alloc _ _), (Blk.new _ _ _).keep (below_alloc _ _), ?_⟩
    have := Blk.new (w.alloc (.cells #[.slice a0 l0 c0] 33)) #[.slice (some ⟨w.heap.size, 0, none⟩) 1 1, .slice a1 N c1] 35
    rwa [World.size_alloc] at this
  go_wp2_with fail
  generalize (w.alloc (.cells #[.slice a0 l0 c0] 33)).alloc (.cells #[.slice (some ⟨w.heap.size, 0, none⟩) 1 1, .slice a1 N c1] 35) = U0 at E0 ⊢
  have hR1 : Rd U0 1 (.slice (some ⟨w.heap.size, 0, none⟩) 1 1) ([(a0, l0, c0)] : List SL).length (([(a0, l0, c0)] : List SL).flatMap slCell) := ⟨rfl, .inr ⟨w.heap.size, 0, 1, rfl, fun j u hj => by
    rw [Nat.zero_add, E0.out.2.1.cell j]
    simpa [slCell] using hj⟩⟩
  refine (concat2_anyS (w.heap.size + 1) (.slice (some ⟨w.heap.size, 0, none⟩) 1 1) (.slice a1 N c1) [(a0, l0, c0)] (xs.map Prod.snd) U0 (by simp) (by rw [List.length_map, HX.out.2.2]; exact z2) hR1 (HX.out.1.keep E0.out.1 (Nat.le_refl _)) (.inr ⟨_, _, _, rfl⟩) HX.out.2.1 (E0.out.2.2.cell 0) (E0.out.2.2.cell 1)).mono ?_
  rintro e U1 ⟨v, rfl, ho, hb⟩
  have HR : Hid (Rd U1 1 v (N + 1) ((zs.map Prod.snd).flatMap slCell) ∧ Below w.heap.size w U1) := by
    refine ⟨?_, below_on E0.out.1 (Nat.le_refl _) hb⟩
    rw [HZ.out.2.1]
    have := Rd.of_own ho
    have e : ([(a0, l0, c0)] : List SL).length + (xs.map Prod.snd).length = N + 1 := by rw [List.length_map, HX.out.2.2]; simp; omega
    rw [e] at this
    exact this
  clear ho hb hR1 E0
  obtain ⟨av, cv, ev⟩ := HR.out.1.is_slice
  subst ev
  have E1 : Hid (RaAt U1 U1 (.slice none 0 0) []) := ⟨World.ownsRow_nil _ _ _ _, fun x hx => (by cases hx), Below.refl _ _⟩
  go_wp2_with fail
  go_loopw [6, 7, 8, 9, 10, 20] (fun ls _ _ _ _ i wr => ∃ (k : Nat) (V : Value) (ys : List (AT × SL)), k ≤ N + 1 ∧ i = .int .i64 k ∧ ls = V ∧ Hid (RaAt U1 wr V ys ∧ ys.map Prod.fst = AA.take k ∧ AtTo AA k)) (fun _ _ _ _ _ i _ => N + 1 - (intOf i).toNat)
  case atStart => exact ⟨0, _, [], by omega, rfl, rfl, E1.out, rfl, fun j x hj => absurd hj (by omega)⟩
  case round =>
    clear E1
    obtain ⟨k, V, ys, hk, rfl, rfl, HK⟩ := hrel
    have hyl : ys.length = k := by
      have := congrArg List.length HK.out.2.1
      rw [List.length_map, List.length_take, HN.out.1] at this
      omega
    have HYL : Hid (ys.length = k) := hyl
    obtain ⟨aV, cV, eV⟩ := own_sl HK.out.1.row
    rw [hyl] at eV
    subst eV
    clear hyl
    by_cases hlt : k < N + 1
    · obtain ⟨z, hz⟩ : ∃ z, zs[k]? = some z := by
        have hl : zs.length = N + 1 := by have := congrArg List.length HZ.out.1; rw [List.length_map, HN.out.1] at this; exact this
        exact ⟨_, List.getElem?_eq_getElem (by omega)⟩
      obtain ⟨gv, ov, cv', ev, i0⟩ := sl_at HR.out.1 (i := k) (z := z.2) (by rw [List.getElem?_map, hz]; rfl)
      simp only [Value.slice.injEq, true_and] at ev
      obtain ⟨rfl, rfl⟩ := ev
      rw [← HK.out.1.bel.cell (block_lt_of_cell i0)] at i0
      have hA : AA[k]? = some z.1 := by rw [← HZ.out.1, List.getElem?_map, hz]; rfl
      have hzo := HZ.out.2.2 z (List.mem_of_getElem? hz)
      have HB : Hid (Below w.heap.size w wr) := below_on HR.out.2 (Nat.le_refl _) HK.out.1.bel
      have HQ : Hid (AA[k]? = some z.1 ∧ OwnT wr 0 z.1.n (slV z.2) z.1.t ∧ sizeT z.1.n z.1.t ≤ 1048576) := ⟨hA, hzo.1.keep HB.out (Nat.le_refl _), hzo.2⟩
      clear hA hzo hz
      obtain ⟨⟨zn, zt⟩, za, zl, zc⟩ := z
      simp only [slV] at i0 HQ
      go_wp2_with fail
      refine (readList_any zn _ zt wr HQ.out.2.1 HQ.out.2.2).mono ?_
      rintro e U2 ⟨Vr, q, rfl, hq, hr, b2⟩
      have K2 : Hid (CodeIs zn zt q ∧ (q = 0 → RdI U2 (fun b => wr.heap.size ≤ b) zn Vr zt) ∧ Below wr.heap.size wr U2) := ⟨hq, hr, b2⟩
      clear hq hr b2 i0
      by_cases hq0 : q = 0
      rotate_left
      · have hq1 : (q == 0) = false := by simpa using hq0
        have hq2 : (q != 0) = true := by simpa using hq0
        have HNG : Hid (¬ GoodA AA) := fun e => hq0 (K2.out.1.one (e.2 k _ HQ.out.1).1)
        have HB2 : Hid (Below w.heap.size w U2) := below_on HB.out (Nat.le_refl _) K2.out.2.2
        clear K2 HK hq0
        go_wp2_with fail
        go_ret2
        exact RaRes.no HNG.out HB2.out
      subst hq0
      have K3 : Hid (CodeIs zn zt 0 ∧ RdI U2 (fun b => wr.heap.size ≤ b) zn Vr zt ∧ Below wr.heap.size wr U2) := ⟨K2.out.1, K2.out.2.1 rfl, K2.out.2.2⟩
      clear K2
      go_wp2_with fail
      refine (callsHold_any zn Vr zt (k : Int) (N : Int) _ U2 K3.out.2.1 (code0 K3.out.1).1 HQ.out.2.2).mono ?_
      rintro e U3 ⟨⟨b, rfl, hbb⟩, b3⟩
      have K4 : Hid (RdI U3 (fun b => wr.heap.size ≤ b) zn Vr zt ∧ Below wr.heap.size wr U3) := ⟨K3.out.2.1.keep b3, below_on K3.out.2.2 (Nat.le_refl _) b3⟩
      have HC : Hid (CodeIs zn zt 0 ∧ (b = true ↔ callsT zn zt (k : Int) (N : Int))) := ⟨K3.out.1, hbb⟩
      clear b3 hbb K3
      cases b
      · have HNG : Hid (¬ GoodA AA) := fun e => by
          have h9 := (e.2 k _ HQ.out.1).2
          rw [HN.out.1] at h9
          have := HC.out.2.2 h9
          cases this
        have HB2 : Hid (Below w.heap.size w U3) := below_on HB.out (Nat.le_refl _) K4.out.2
        clear HC K4 HK
        go_wp2_with fail
        go_ret2
        exact RaRes.no HNG.out HB2.out
      · have HT : Hid (AtTo AA (k + 1)) := HK.out.2.2.next HQ.out.1 ⟨HC.out.1, by rw [HN.out.1]; exact HC.out.2.1 rfl⟩
        clear HC
        obtain ⟨ar, cr, er⟩ := K4.out.1.is_slice
        subst er
        generalize lenT zn zt = lr at K4 ⊢
        have K5 : Hid (RaAt U1 (U3.alloc (.cells #[.slice ar lr cr] 64)) (.slice aV k cV) ys ∧ Below wr.heap.size wr (U3.alloc (.cells #[.slice ar lr cr] 64)) ∧ RdI (U3.alloc (.cells #[.slice ar lr cr] 64)) (fun b => wr.heap.size ≤ b) zn (.slice ar lr cr) zt) := ⟨(HK.out.1.keep K4.out.2).keep (below_alloc _ _), below_on K4.out.2 (Nat.le_refl _) (below_alloc _ _), K4.out.1.keep (below_alloc _ _)⟩
        have HYF : Hid (ys.map Prod.fst = AA.take k) := HK.out.2.1
        have HK1 : Hid (RaAt U1 wr (.slice aV k cV) ys) := HK.out.1
        clear HK
        go_wp2_with (at_builtin; refine wpList_append_lies _ rfl _ _ 56 rfl U1.heap.size 64 iL (.slice none 0 0) 1 24 Tryz.underlying56 hiL hL0 hL1 hL2 rfl (by decide) _ k ((ys.map Prod.snd).flatMap slCell) rfl (by have := K5.out.1.row; rw [HYL.out] at this; exact this) ⟨U3.heap.size, 0, none⟩ 1 1 [.slice ar lr cr] rfl rfl (lit_at U3 [.slice ar lr cr] 64) (fun u hu => by simp at hu; subst hu; rfl) (by omega) (by simp [maxLen]; omega) (by omega) K5.out.1.bel.size _ rfl ?_; intro g5 cap5 w5 hown hgrow hat hlt5; have HU : Hid (RaAt U1 w5 (.slice (some ⟨g5, 0, none⟩) (k + 1) cap5) (ys ++ [((⟨zn, zt⟩ : AT), (ar, lr, cr))])) := (by have h9 := HK1.out.app (y := ((⟨zn, zt⟩ : AT), (ar, lr, cr))) K5.out.2.1 K5.out.2.2 (g := g5) (cap := cap5) (by rw [HYL.out]; exact hown) hgrow hat; rw [HYL.out] at h9; exact h9); clear hown hgrow hat hlt5)
        have HF : Hid ((ys ++ [((⟨zn, zt⟩ : AT), ((ar, lr, cr) : SL))]).map Prod.fst = AA.take (k + 1)) := fst_next HYF.out HQ.out.1 (ar, lr, cr)
        clear K5 K4 HK1
        go_roundw
        case rel => exact ⟨k + 1, _, _, by omega, by go_num, rfl, HU.out, HF.out, HT.out⟩
        case measure => simp [intOf]; omega
    · have hkn : k = N + 1 := by omega
      have HG : Hid (GoodA AA) := ⟨by rw [HN.out.1]; omega, fun i x hx => HK.out.2.2 i x (by have := (List.getElem?_eq_some_iff.1 hx).1; rw [HN.out.1] at this; omega) hx⟩
      have HRI : Hid (RdIs wr (fun _ => True) (.slice aV k cV) AA) := by
        have h9 := HK.out.1.all
        rw [HK.out.2.1, List.take_of_length_le (by rw [HN.out.1]; omega)] at h9
        exact h9
      have HB : Hid (Below w.heap.size w wr) := below_on HR.out.2 (Nat.le_refl _) HK.out.1.bel
      clear HK
      go_wp2_with fail
      go_ret2
      exact ⟨_, true, rfl, by simp [HG.out], fun _ => HRI.out, HB.out⟩
end Go.Proofs.YtalkpddhpmjgcaaGreat
