import Derived.Test.YtalkpddhpmjgcaaGreatCm39
import Derived.Test.YtalkpddhpmjgcaaGreatCm37
import Derived.Lib.AppendZerosOnto
import Derived.Lib.AppendZeros
import Derived.Laws.Append
namespace Go.Proofs.YtalkpddhpmjgcaaGreat
open Go.ChangeShapes Go.WideShapes Go.ChangeAt Go.RowKit
set_option linter.unusedVariables false
set_option maxHeartbeats 4000000 in
set_option maxRecDepth 100000 in
theorem codeHolds_any (v : VP) (p : MP) (w : World) (hs : p.small) (hw : p.wf) (hp : RegionsOk p.regions) (hfo : FuncsOk p.funcs) (h : RdP w v p) (hcap : RdRc w v.r p.regions) :
    Calls Tryz.prog 59 #[.agg #[v.r, v.k, v.f, v.t]] w fun e w' => SaysIff e (CodeOk p) ∧ Below w.heap.size w w' := by
  obtain ⟨xs, ys, hP⟩ := Pg.of hs hw h
  obtain ⟨vr, vk, vf, vt⟩ := v
  simp only [] at hP
  obtain ⟨r3, c3, e3⟩ := hP.fr.is_slice
  have hm := hs.funcs
  subst e3
  have HH : Hid (RegionsOk p.regions ∧ FuncsOk p.funcs ∧ RdRc w vr p.regions) := ⟨hp, hfo, hcap⟩
  clear hs hw h hp hfo hcap
  obtain ⟨rr1, cc1, evr⟩ := hP.rr.is_slice
  obtain ⟨rr2, cc2, evk⟩ : ∃ a c, vk = .slice a p.consts.length c := hP.rd.consts.is_slice
  obtain ⟨rr4, cc4, evt⟩ : ∃ a c, vt = .slice a p.certs.length c := hP.rd.certs.is_slice
  subst evr evk evt
  have HP : Hid _ := hP
  clear hP
  have HI : Hid _ := In1.of w (.slice rr1 p.regions.length cc1) (.slice rr2 p.consts.length cc2) (.slice r3 p.funcs.length c3) (.slice rr4 p.certs.length cc4) 31
  generalize hM : p.funcs.length = m at *
  have HL : Hid (p.funcs.length = m) := hM
  clear hM
  have HP : Hid (Pg w (.slice rr1 p.regions.length cc1) (.slice rr2 p.consts.length cc2) (.slice r3 m c3) (.slice rr4 p.certs.length cc4) p xs ys) := HP
  go_enter Tryz.func59, Tryz.ntmps59
  go_wp2
  go_loopw [11] (fun i wr => ∃ k : Nat, k ≤ m ∧ i = .int .i64 k ∧ Hid (∀ j, j < k → ∀ f, p.funcs[j]? = some f → FuncCodeOk p f) ∧ Hid (In1 w wr (.slice rr1 p.regions.length cc1) (.slice rr2 p.consts.length cc2) (.slice r3 m c3) (.slice rr4 p.certs.length cc4))) (fun i _ => m - (intOf i).toNat)
  case atStart => exact ⟨0, by omega, rfl, fun j hj => by omega, HI⟩
  case round =>
    clear HI
    obtain ⟨k, hk, rfl, HT, HI⟩ := hrel
    by_cases hlt : k < m
    · obtain ⟨⟨f, v⟩, hx⟩ : ∃ x, ys[k]? = some x := ⟨_, List.getElem?_eq_getElem (by rw [HP.out.fl, HL.out]; exact hlt)⟩
      have e1 := fst_at HP.out.fm hx
      have HX : Hid (RdF w v f ∧ f.small ∧ p.funcs[k]? = some f ∧ f.wf ∧ FuncOk f) := ⟨HP.out.fe _ (List.mem_of_getElem? hx), HP.out.small.func _ (List.mem_of_getElem? e1), e1, HP.out.wf.funcs _ (List.mem_of_getElem? e1), HH.out.2.1.2.2.1 k (by rw [HL.out]; exact hlt) _ e1⟩
      clear e1
      rcases HP.out.fr.2 with ⟨e0, _⟩ | ⟨b, o, c, e1, hc1⟩
      · rw [HL.out] at e0
        omega
      rw [HL.out] at e1
      simp only [Value.slice.injEq, true_and] at e1
      obtain ⟨rfl, rfl⟩ := e1
      have i0 := Rd.elem fCells_length hc1 k _ hx 0 _ rfl
      have i1 := Rd.elem fCells_length hc1 k _ hx 1 _ rfl
      have i2 := Rd.elem fCells_length hc1 k _ hx 2 _ rfl
      have i3 := Rd.elem fCells_length hc1 k _ hx 3 _ rfl
      rw [← HI.out.bel.cell (block_lt_of_cell i0), Nat.add_zero] at i0
      rw [← HI.out.bel.cell (block_lt_of_cell i1)] at i1
      rw [← HI.out.bel.cell (block_lt_of_cell i2)] at i2
      rw [← HI.out.bel.cell (block_lt_of_cell i3)] at i3
      clear hc1 hx
      simp only [] at i0 i1 i2 i3
      obtain ⟨ap, cp, ep⟩ := HX.out.1.1.is_slice
      obtain ⟨al, cl, el⟩ := HX.out.1.2.1.is_slice
      obtain ⟨ac, cc, ec⟩ := HX.out.1.2.2.is_slice
      obtain ⟨vp, vl, vc⟩ := v
      simp only [] at ep el ec i0 i1 i2 i3
      subst ep el ec
      obtain ⟨p0, p1, p2, p3⟩ := HI.out.prog
      have nb : ¬ b = wr.heap.size := Nat.ne_of_lt (block_lt_of_cell i0)
      have mb : b < wr.heap.size := block_lt_of_cell i0
      have np : ¬ w.heap.size = wr.heap.size := Nat.ne_of_lt HI.out.prog.lt
      have mp : w.heap.size < wr.heap.size := HI.out.prog.lt
      have hz := HX.out.2.1.2.2
      have HS : Hid (In1 w ((wr.alloc (.cells #[.slice ap f.params.length cp, .int .i64 f.result, .slice al f.locals.length cl, .slice ac f.code.length cc] 86)).alloc (.cells #[(.slice rr1 p.regions.length cc1), (.slice rr2 p.consts.length cc2), .slice (some ⟨b, o, none⟩) m c3, (.slice rr4 p.certs.length cc4), .slice ap f.params.length cp, .int .i64 f.result, .slice al f.locals.length cl, .slice ac f.code.length cc] 144)) (.slice rr1 p.regions.length cc1) (.slice rr2 p.consts.length cc2) (.slice (some ⟨b, o, none⟩) m c3) (.slice rr4 p.certs.length cc4) ∧ At8 ((wr.alloc (.cells #[.slice ap f.params.length cp, .int .i64 f.result, .slice al f.locals.length cl, .slice ac f.code.length cc] 86)).alloc (.cells #[(.slice rr1 p.regions.length cc1), (.slice rr2 p.consts.length cc2), .slice (some ⟨b, o, none⟩) m c3, (.slice rr4 p.certs.length cc4), .slice ap f.params.length cp, .int .i64 f.result, .slice al f.locals.length cl, .slice ac f.code.length cc] 144)) (wr.heap.size + 1) (.slice rr1 p.regions.length cc1) (.slice rr2 p.consts.length cc2) (.slice (some ⟨b, o, none⟩) m c3) (.slice rr4 p.certs.length cc4) (.slice ap f.params.length cp) (.int .i64 f.result) (.slice al f.locals.length cl) (.slice ac f.code.length cc)) := by
        refine ⟨HI.out.keep (below_on (below_alloc _ _) (Nat.le_refl _) (below_alloc _ _)), ?_⟩
        have := At8.new (wr.alloc (.cells #[.slice ap f.params.length cp, .int .i64 f.result, .slice al f.locals.length cl, .slice ac f.code.length cc] 86)) (.slice rr1 p.regions.length cc1) (.slice rr2 p.consts.length cc2) (.slice (some ⟨b, o, none⟩) m c3) (.slice rr4 p.certs.length cc4) (.slice ap f.params.length cp) (.int .i64 f.result) (.slice al f.locals.length cl) (.slice ac f.code.length cc) 144
        simpa using this
      go_wp2
      clear p0 p1 p2 p3 i0 i1 i2 i3 nb mb np mp
      generalize hZ : f.code.length = z at *
      have HZ : Hid (f.code.length = z) := hZ
      clear hZ
      generalize wr.heap.size + 1 = SB at HS ⊢
      go_loopw [21] (fun i wr2 => ∃ q : Nat, q ≤ z ∧ i = .int .i64 q ∧ Hid (∀ j, j < q → ∀ x, f.code[j]? = some x → InstrOk p f x) ∧ Hid (In1 w wr2 (.slice rr1 p.regions.length cc1) (.slice rr2 p.consts.length cc2) (.slice (some ⟨b, o, none⟩) m c3) (.slice rr4 p.certs.length cc4) ∧ At8 wr2 SB (.slice rr1 p.regions.length cc1) (.slice rr2 p.consts.length cc2) (.slice (some ⟨b, o, none⟩) m c3) (.slice rr4 p.certs.length cc4) (.slice ap f.params.length cp) (.int .i64 f.result) (.slice al f.locals.length cl) (.slice ac z cc))) (fun i _ => z - (intOf i).toNat)
      case atStart => exact ⟨0, by omega, rfl, fun j hj => by omega, HS⟩
      case round =>
        clear HS
        obtain ⟨q, hq, rfl, HTT, HS⟩ := hrel
        by_cases hlq : q < z
        · obtain ⟨x, hx⟩ : ∃ x, f.code[q]? = some x := ⟨_, List.getElem?_eq_getElem (by rw [HZ.out]; exact hlq)⟩
          have hxw := HX.out.2.2.2.1.code x (List.mem_of_getElem? hx)
          rcases HX.out.1.2.2.2 with ⟨e0, _⟩ | ⟨b', o', c', e1, hc2⟩
          · rw [HZ.out] at e0
            omega
          rw [HZ.out] at e1
          simp only [Value.slice.injEq, true_and] at e1
          obtain ⟨rfl, rfl⟩ := e1
          have j0 := Rd.elem MI.cells_length hc2 q x hx 0 _ rfl
          have j1 := Rd.elem MI.cells_length hc2 q x hx 1 _ rfl
          have j2 := Rd.elem MI.cells_length hc2 q x hx 2 _ rfl
          have j3 := Rd.elem MI.cells_length hc2 q x hx 3 _ rfl
          rw [← HS.out.1.bel.cell (block_lt_of_cell j0), Nat.add_zero] at j0
          rw [← HS.out.1.bel.cell (block_lt_of_cell j1)] at j1
          rw [← HS.out.1.bel.cell (block_lt_of_cell j2)] at j2
          rw [← HS.out.1.bel.cell (block_lt_of_cell j3)] at j3
          have HXX : Hid (f.code[q]? = some x ∧ x.wf) := ⟨hx, hxw⟩
          clear hc2 hx hxw
          obtain ⟨xo, xa, xb, xc⟩ := x
          simp only [] at j0 j1 j2 j3
          obtain ⟨s0, s1, s2, s3, s4, s5, s6, s7⟩ := HS.out.2
          have nb : ¬ b' = wr.heap.size := Nat.ne_of_lt (block_lt_of_cell j0)
          have mb : b' < wr.heap.size := block_lt_of_cell j0
          have np : ¬ SB = wr.heap.size := Nat.ne_of_lt HS.out.2.lt
          have mp : SB < wr.heap.size := HS.out.2.lt
          go_wp2_with fail
          have bA := below_alloc wr (.cells #[.int .i64 xo, .int .i64 xa, .int .i64 xb, .int .i64 xc] 92)
          have bW := below_on HS.out.1.bel (Nat.le_refl _) bA
          refine (holds_any ⟨(.slice rr1 p.regions.length cc1), (.slice rr2 p.consts.length cc2), .slice (some ⟨b, o, none⟩) m c3, (.slice rr4 p.certs.length cc4)⟩ p ⟨.slice ap f.params.length cp, .slice al f.locals.length cl, .slice (some ⟨b', o', none⟩) z cc⟩ f xo xa xb xc _ HP.out.small HH.out.1 HX.out.2.2.2.2 HX.out.2.1 HXX.out.2.2.1 HXX.out.2.2.2.1 HXX.out.2.2.2.2 (HP.out.rd.keep bW (Nat.le_refl _)) (HH.out.2.2.keep bW (Nat.le_refl _)) (HX.out.1.keep bW (Nat.le_refl _))).mono ?_
          rintro e u4 ⟨⟨b4, rfl, hb4⟩, bl4⟩
          have bU := below_on bA (Nat.le_refl _) bl4
          have HS2 : Hid (In1 w u4 (.slice rr1 p.regions.length cc1) (.slice rr2 p.consts.length cc2) (.slice (some ⟨b, o, none⟩) m c3) (.slice rr4 p.certs.length cc4) ∧ At8 u4 SB (.slice rr1 p.regions.length cc1) (.slice rr2 p.consts.length cc2) (.slice (some ⟨b, o, none⟩) m c3) (.slice rr4 p.certs.length cc4) (.slice ap f.params.length cp) (.int .i64 f.result) (.slice al f.locals.length cl) (.slice (some ⟨b', o', none⟩) z cc)) := ⟨HS.out.1.keep bU, HS.out.2.keep bU⟩
          clear bA bW bl4 bU HS j0 j1 j2 j3 s0 s1 s2 s3 s4 s5 s6 s7 nb mb np mp
          cases b4
          · have HN : Hid (¬ CodeOk p) := fun e => by
              have := e k (by rw [HL.out]; exact hlt) f HX.out.2.2.1 q (by rw [HZ.out]; exact hlq) _ HXX.out.1
              simp [this] at hb4
            clear hb4
            go_wp2
            go_ret
            exact ⟨.no HN.out, HS2.out.1.bel⟩
          · have HOK : Hid (InstrOk p f ⟨xo, xa, xb, xc⟩) := hb4.1 rfl
            clear hb4
            go_wp2
            go_roundw
            case rel => exact ⟨q + 1, by omega, by go_num, upto_next HXX.out.1 HOK.out HTT.out, HS2⟩
            case measure => simp [intOf]; omega
        · have hqz : z = q := by omega
          subst hqz
          have HFC : Hid (FuncCodeOk p f) := fun j hj x hx => HTT.out j (by rw [← HZ.out]; exact hj) x hx
          go_wp2
          go_roundw
          case rel => exact ⟨k + 1, by omega, by go_num, upto_next HX.out.2.2.1 HFC.out HT.out, HS.out.1⟩
          case measure => simp [intOf]; omega
    · have hkn : m = k := by omega
      subst hkn
      have HCo : Hid (CodeOk p) := fun j hj f hf => HT.out j (by rw [← HL.out]; exact hj) f hf
      go_wp2
      go_ret
      exact ⟨.yes HCo.out, HI.out.bel⟩
end Go.Proofs.YtalkpddhpmjgcaaGreat
namespace Go.Proofs.YtalkpddhpmjgcaaGreat
open Go.ChangeShapes Go.WideShapes Go.ChangeAt Go.RowKit
set_option linter.unusedVariables false
/-- A slice that is nil, or has a place. -/
def Placed (v : Value) : Prop := v = .slice none 0 0 ∨ ∃ ad n c, v = .slice (some ad) n c
set_option maxHeartbeats 1000000 in
theorem rises_any (x y : MT) (w : World) :
    Calls Tryz.prog 86 #[.agg #[.int .i64 x.func, .int .i64 x.head, .int .i64 x.counter, .int .u32 x.init], .agg #[.int .i64 y.func, .int .i64 y.head, .int .i64 y.counter, .int .u32 y.init]] w fun e w' => SaysIff e (Rises x y) ∧ Below w.heap.size w w' := by
  have HB : Hid (Below w.heap.size w ((w.alloc (.cells #[.int .i64 x.func, .int .i64 x.head, .int .i64 x.counter, .int .u32 x.init] 112)).alloc (.cells #[.int .i64 y.func, .int .i64 y.head, .int .i64 y.counter, .int .u32 y.init] 112))) := below_on (below_alloc _ _) (Nat.le_refl _) (below_alloc _ _)
  go_enter Tryz.func86, Tryz.ntmps86
  go_wp2
  all_goals (go_ret; refine ⟨SaysIff.of ?_, by first | exact HB.out | (rw [‹x.func = y.func›] at HB; exact HB.out)⟩; go_light; unfold Rises; simp_all <;> omega)
end Go.Proofs.YtalkpddhpmjgcaaGreat
namespace Go.Proofs.YtalkpddhpmjgcaaGreat
open Go.ChangeShapes Go.WideShapes Go.ChangeAt Go.RowKit
set_option linter.unusedVariables false
/-- A slice, by its parts. -/
abbrev SL : Type := Option Addr × Nat × Nat
def slCell (x : SL) : List Value := [.slice x.1 x.2.1 x.2.2]
theorem slCell_length (x : SL) : (slCell x).length = 1 := rfl
theorem own_emptyS (w : World) (cur : Array Value) (e : TypeId) (G : Nat) (h : cur.size = G) (hG : G ≤ maxLen) : (w.alloc (.cells cur e)).drew.ownsRow w.heap.size e 1 (.slice (some ⟨w.heap.size, 0, none⟩) 0 G) 0 [] :=
  ⟨rfl, .inr ⟨w.heap.size, G, cur, rfl, Nat.le_refl _, Array.getElem?_push_size, Nat.zero_le _, hG, by omega, by simp⟩⟩
set_option maxHeartbeats 1000000 in
set_option maxRecDepth 100000 in
theorem growS_nil (n : Nat) (w : World) (hn : n ≤ 4194304) :
    Calls Tryz.prog 76 #[.slice none 0 0, .int .i64 n] w fun e w' => ∃ v, e = .returned v ∧ w'.ownsRow w.heap.size 33 1 v 0 [] ∧ Below w.heap.size w w' := by
  obtain ⟨i0, hi, hz0, hz1, hz2⟩ := info_parts infoL
  by_cases q0 : n = 0
  · subst q0
    go_enter Tryz.func76, Tryz.ntmps76
    go_wp2
    go_ret
    exact ⟨_, rfl, World.ownsRow_nil _ _ _ _, Below.refl _ _⟩
  · have q1 : (0 : Int) < (n : Int) := by omega
    have hold : (Builtin.firstCells i0.size 0 (.slice none 0 0)).run Tryz.prog w.drew = .ok (([] : List Value).toArray) w.drew := run_firstCells_none w.drew i0.size 0 0 0
    have hrz : ∀ ty, (Builtin.append_ #[35, 3] ty #[.slice none 0 0, .int .i64 n]).run Tryz.prog w = .ok (.slice (some ⟨w.heap.size, 0, none⟩) (0 + n) (grownCap w (0 + n) 0 33)) (w.drew.alloc (.cells (([] : List Value).toArray ++ Builtin.zeroCells (Value.slice none 0 0).cells n ++ Builtin.zeroCells (Value.slice none 0 0).cells (grownCap w (0 + n) 0 33 - (0 + n))) 33)) := fun ty =>
      Lib.run_append_grow_zeros w 35 3 ty 33 i0 (.slice none 0 0) .i64 .i64 Tryz.underlying35 Tryz.underlying3 hi hz0 none 0 0 [] hold n (by omega) (by rw [hz1]; omega) (by omega) (by omega) (by rw [hz2]; omega) (growslice_fits (by omega) (by rw [hz2]; omega))
    have hG1 := grownCap_ge w (0 + n) 0 33
    have hG2 := grownCap_le_maxLen w (0 + n) 0 33 (by unfold maxLen; omega)
    generalize grownCap w (0 + n) 0 33 = G at hrz hG1 hG2
    have HG : Hid (G ≤ maxLen) := hG2
    unfold maxLen at hG2
    go_enter Tryz.func76, Tryz.ntmps76
    go_wp2_with (at_builtin; refine Lib.wpList_append_run _ rfl _ _ _ _ rfl _ _ rfl rfl _ _ (hrz _) ?_)
    all_goals
      go_ret
      exact ⟨_, rfl, own_emptyS w _ _ G (by simp [Builtin.zeroCells]; omega) HG.out, below_on (below_alloc _ _) (Nat.le_refl _) (below_drew1 _)⟩
theorem Rd.placedS {w : World} {ad : Addr} {n c : Nat} {xs : List SL} (h : Rd w 1 (.slice (some ad) n c) n (xs.flatMap slCell)) : ∀ j u, (xs.flatMap slCell)[j]? = some u → w.cell? (ad.add j) = some u := by
  intro j u hj
  rcases h.2 with ⟨rfl, _⟩ | ⟨g, o, c', e, hc⟩
  · have := (List.getElem?_eq_some_iff.1 hj).1
    rw [h.1] at this
    omega
  · simp only [Value.slice.injEq, Option.some.injEq, true_and] at e
    obtain ⟨rfl, rfl⟩ := e
    rw [Addr.add_lit]
    exact hc j u hj
theorem at2_newS (w : World) (x y : Value) (ty : TypeId) : (w.alloc (.cells #[x, y] ty)).cell? ⟨w.heap.size, 0, none⟩ = some x ∧ (w.alloc (.cells #[x, y] ty)).cell? ⟨w.heap.size, 1, none⟩ = some y := by
  have h := World.ownsRow_lit (base := w.heap.size) (e := ty) (size := 2) w #[x, y] 1 (Nat.le_refl _) (by unfold maxLen; omega) (by simp)
  exact ⟨h.cellAt 0 (by omega), h.cellAt 1 (by omega)⟩
theorem sls_oneCell (xs : List SL) : ∀ u ∈ xs.flatMap slCell, u.oneCell' = true := by
  intro u hu
  obtain ⟨x, _, hx⟩ := List.mem_flatMap.1 hu
  simp [slCell] at hx
  subst hx
  rfl
theorem own_noneS {w : World} {base : Nat} {e : TypeId} {v : Value} {xs : List SL} {n : Nat} (h : w.ownsRow base e 1 v n (xs.flatMap slCell)) (ys : List SL) (hy : ys.length = 0) : w.ownsRow base e 1 v (n + ys.length) ((xs ++ ys).flatMap slCell) := by
  obtain rfl := List.eq_nil_of_length_eq_zero hy
  simpa using h
theorem below_rowS {B : Nat} {w u u' : World} {e : TypeId} {v : Value} {n : Nat} {xs : List Value} (h : Below B w u) (ho : u.ownsRow w.heap.size e 1 v n xs) (hB : B ≤ w.heap.size) (hg : u.grownBy u' v.ownBlock) : Below B w u' :=
  h.grown hg (Nat.le_trans hB h.size) (fun k hk => Nat.le_trans hB (ho.lt k hk).1)
set_option maxHeartbeats 2000000 in
set_option maxRecDepth 100000 in
theorem concat2_anyS (g : Nat) (s1 s2 : Value) (xs ys : List SL) (w : World) (hx : xs.length ≤ 1048576) (hy : ys.length ≤ 1048576) (h1 : Rd w 1 s1 xs.length (xs.flatMap slCell)) (h2 : Rd w 1 s2 ys.length (ys.flatMap slCell)) (k1 : Placed s1) (k2 : Placed s2)
    (g0 : w.cell? ⟨g, 0, none⟩ = some s1) (g1 : w.cell? ⟨g, 1, none⟩ = some s2) :
    Calls Tryz.prog 49 #[.slice (some ⟨g, 0, none⟩) 2 2] w fun e w' => ∃ v, e = .returned v ∧ w'.ownsRow w.heap.size 33 1 v (xs.length + ys.length) ((xs ++ ys).flatMap slCell) ∧ Below w.heap.size w w' := by
  have H : Hid (xs.length ≤ 1048576 ∧ ys.length ≤ 1048576 ∧ Rd w 1 s1 xs.length (xs.flatMap slCell) ∧ Rd w 1 s2 ys.length (ys.flatMap slCell) ∧ Placed s1 ∧ Placed s2) := ⟨hx, hy, h1, h2, k1, k2⟩
  obtain ⟨a1, c1, rfl⟩ := h1.is_slice
  obtain ⟨a2, c2, rfl⟩ := h2.is_slice
  clear h1 h2 k1 k2
  obtain ⟨i0, hi, hz0, hz1, hz2⟩ := info_parts infoL
  have HG : Hid (w.cell? ⟨g, 0, none⟩ = some (.slice a1 xs.length c1) ∧ w.cell? ⟨g, 1, none⟩ = some (.slice a2 ys.length c2)) := ⟨g0, g1⟩
  go_enter Tryz.func49, Tryz.ntmps49
  go_wp2
  go_loopw [3, 11] (fun s c wr => ((c = .int .i64 0 ∧ s = .int .i64 0) ∨ (c = .int .i64 1 ∧ s = .int .i64 (xs.length : Int)) ∨ (c = .int .i64 2 ∧ s = .int .i64 ((xs.length + ys.length : Nat) : Int))) ∧ wr = w) (fun _ c _ => 2 - (intOf c).toNat)
  case atStart => exact ⟨.inl ⟨rfl, rfl⟩, rfl⟩
  case round =>
    obtain ⟨hc, rfl⟩ := hrel
    rcases hc with ⟨rfl, rfl⟩ | ⟨rfl, rfl⟩ | ⟨rfl, rfl⟩
    · go_wp2
      go_roundw
      case rel => exact ⟨.inr (.inl ⟨rfl, by simp⟩), by trivial⟩
      case measure => simp [intOf]
    · go_wp2
      go_roundw
      case rel => exact ⟨.inr (.inr ⟨rfl, by simp⟩), by trivial⟩
      case measure => simp [intOf]
    · go_wp2_with fail
      refine (growS_nil (xs.length + ys.length) _ (by omega)).mono ?_
      rintro e u1 ⟨v0, rfl, own0, bl0⟩
      have HO : Hid (u1.ownsRow wr.heap.size 33 1 v0 0 [] ∧ Below wr.heap.size wr u1) := ⟨own0, bl0⟩
      clear own0 bl0 g0 g1
      obtain ⟨W, hWe⟩ : ∃ W, W = wr := ⟨_, rfl⟩
      subst hWe
      go_wp2
      go_loopw [6, 27] (fun v c wr => ((c = .int .i64 0 ∧ Hid (wr.ownsRow W.heap.size 33 1 v 0 ([] : List Value))) ∨ (c = .int .i64 1 ∧ Hid (wr.ownsRow W.heap.size 33 1 v (0 + xs.length) (([] ++ xs).flatMap slCell))) ∨ (c = .int .i64 2 ∧ Hid (wr.ownsRow W.heap.size 33 1 v (xs.length + ys.length) ((xs ++ ys).flatMap slCell)))) ∧ Hid (Below W.heap.size W wr)) (fun _ c _ => 2 - (intOf c).toNat)
      case atStart => exact ⟨.inl ⟨rfl, HO.out.1⟩, HO.out.2⟩
      case round =>
        clear HO
        obtain ⟨hc, HB⟩ := hrel
        have g0 := HG.out.1
        have g1 := HG.out.2
        rw [← HB.out.cell (block_lt_of_cell g0)] at g0
        rw [← HB.out.cell (block_lt_of_cell g1)] at g1
        rcases hc with ⟨rfl, HO⟩ | ⟨rfl, HO⟩ | ⟨rfl, HO⟩
        · rcases H.out.2.2.2.2.1 with e | ⟨ad, n', c', e⟩
          · simp only [Value.slice.injEq] at e
            obtain ⟨rfl, e2, rfl⟩ := e
            have hN : Hid (xs.length = 0) := e2
            rw [e2] at g0
            have hr : ∀ ty, (Builtin.append_ #[35, 35] ty #[u6, .slice none 0 0]).run Tryz.prog wr = .ok u6 wr := fun ty => run_append_owned_none (P := Tryz.prog) wr W.heap.size 35 ty 33 i0 1 Tryz.underlying35 hi u6 _ _ HO.out
            clear e2
            go_wp2_with (at_builtin; refine Lib.wpList_append_run _ rfl _ _ _ _ rfl _ _ rfl rfl _ _ (hr _) ?_)
            go_roundw
            case rel => exact ⟨.inr (.inl ⟨rfl, own_noneS (xs := []) HO.out xs hN.out⟩), HB⟩
            case measure => simp [intOf]
          · simp only [Value.slice.injEq] at e
            obtain ⟨rfl, e2, rfl⟩ := e
            have HR : Hid (Rd wr 1 (.slice (some ad) xs.length c1) xs.length (xs.flatMap slCell)) := H.out.2.2.1.keep HB.out (Nat.le_refl _)
            clear e2
            go_wp2_with (at_builtin; refine wpList_append_own _ rfl _ _ 35 rfl W.heap.size 33 i0 (.slice none 0 0) 1 24 Tryz.underlying35 hi hz0 hz1 hz2 rfl (by decide) _ _ _ rfl HO.out ad xs.length c1 (xs.flatMap slCell) rfl ?c1 ?c2 ?c3 ?c4 ?c5 ?c6 ?_)
            case c1 => rw [flat_length slCell 1 slCell_length]
            case c2 => exact HR.out.placedS
            case c3 => exact sls_oneCell _
            case c4 => unfold maxLen; omega
            case c5 => omega
            case c6 => exact HB.out.size
            intro v' w' hown' hgrow' hnil'
            have HO2 : Hid (w'.ownsRow W.heap.size 33 1 v' (0 + xs.length) (([] ++ xs).flatMap slCell)) := by show World.ownsRow _ _ _ _ _ _ _; simpa using hown'
            have HB2 : Hid (Below W.heap.size W w') := below_rowS HB.out HO.out (Nat.le_refl _) hgrow'
            clear hown' hgrow' hnil'
            go_wp2
            go_roundw
            case rel => exact ⟨.inr (.inl ⟨rfl, HO2⟩), HB2⟩
            case measure => simp [intOf]
        · rcases H.out.2.2.2.2.2 with e | ⟨ad, n', c', e⟩
          · simp only [Value.slice.injEq] at e
            obtain ⟨rfl, e2, rfl⟩ := e
            have hN : Hid (ys.length = 0) := e2
            rw [e2] at g1
            have hr : ∀ ty, (Builtin.append_ #[35, 35] ty #[u6, .slice none 0 0]).run Tryz.prog wr = .ok u6 wr := fun ty => run_append_owned_none (P := Tryz.prog) wr W.heap.size 35 ty 33 i0 1 Tryz.underlying35 hi u6 _ _ HO.out
            clear e2
            go_wp2_with (at_builtin; refine Lib.wpList_append_run _ rfl _ _ _ _ rfl _ _ rfl rfl _ _ (hr _) ?_)
            go_roundw
            case rel => exact ⟨.inr (.inr ⟨rfl, by have := own_noneS (xs := [] ++ xs) HO.out ys hN.out; simpa [Hid] using this⟩), HB⟩
            case measure => simp [intOf]
          · simp only [Value.slice.injEq] at e
            obtain ⟨rfl, e2, rfl⟩ := e
            have HR : Hid (Rd wr 1 (.slice (some ad) ys.length c2) ys.length (ys.flatMap slCell)) := H.out.2.2.2.1.keep HB.out (Nat.le_refl _)
            clear e2
            go_wp2_with (at_builtin; refine wpList_append_own _ rfl _ _ 35 rfl W.heap.size 33 i0 (.slice none 0 0) 1 24 Tryz.underlying35 hi hz0 hz1 hz2 rfl (by decide) _ _ _ rfl HO.out ad ys.length c2 (ys.flatMap slCell) rfl ?c1 ?c2 ?c3 ?c4 ?c5 ?c6 ?_)
            case c1 => rw [flat_length slCell 1 slCell_length]
            case c2 => exact HR.out.placedS
            case c3 => exact sls_oneCell _
            case c4 => unfold maxLen; omega
            case c5 => omega
            case c6 => exact HB.out.size
            intro v' w' hown' hgrow' hnil'
            have HO2 : Hid (w'.ownsRow W.heap.size 33 1 v' (xs.length + ys.length) ((xs ++ ys).flatMap slCell)) := by show World.ownsRow _ _ _ _ _ _ _; simpa using hown'
            have HB2 : Hid (Below W.heap.size W w') := below_rowS HB.out HO.out (Nat.le_refl _) hgrow'
            clear hown' hgrow' hnil'
            go_wp2
            go_roundw
            case rel => exact ⟨.inr (.inr ⟨rfl, HO2⟩), HB2⟩
            case measure => simp [intOf]
        · go_wp2
          go_ret
          exact ⟨_, rfl, HO.out, HB.out⟩
end Go.Proofs.YtalkpddhpmjgcaaGreat
