import Derived.Test.YtifpjgdnikkekaaGreatSh15
import Derived.Test.YtifpjgdnikkekaaGreatSh5
import Derived.Test.YtifpjgdnikkekaaGreatSh12
import Derived.Test.YtifpjgdnikkekaaGreatSh13
import Derived.Deep.AppendLies
import Derived.Deep.RegionLaw
import Derived.Maps.AppendAt
namespace Go.Proofs.YtifpjgdnikkekaaGreat
open Go.ChangeShapes Go.WideShapes Go.ChangeAt Go.RowKit
set_option linter.unusedVariables false
theorem Rd.placed {w : World} {ad : Addr} {n c : Nat} {xs : List Int} (h : Rd w 1 (.slice (some ad) n c) n (xs.flatMap intCell)) : ∀ j u, (xs.flatMap intCell)[j]? = some u → w.cell? (ad.add j) = some u := by
  intro j u hj
  rcases h.2 with ⟨rfl, _⟩ | ⟨g, o, c', e, hc⟩
  · have := (List.getElem?_eq_some_iff.1 hj).1
    rw [h.1] at this
    omega
  · simp only [Value.slice.injEq, Option.some.injEq, true_and] at e
    obtain ⟨rfl, rfl⟩ := e
    rw [Addr.add_lit]
    exact hc j u hj
theorem at2_new (w : World) (x y : Value) (ty : TypeId) : (w.alloc (.cells #[x, y] ty)).cell? ⟨w.heap.size, 0, none⟩ = some x ∧ (w.alloc (.cells #[x, y] ty)).cell? ⟨w.heap.size, 1, none⟩ = some y := by
  have h := World.ownsRow_lit (base := w.heap.size) (e := ty) (size := 2) w #[x, y] 1 (Nat.le_refl _) (by unfold maxLen; omega) (by simp)
  exact ⟨h.cellAt 0 (by omega), h.cellAt 1 (by omega)⟩
theorem ints_oneCell (xs : List Int) : ∀ u ∈ xs.flatMap intCell, u.oneCell' = true := by
  intro u hu
  obtain ⟨x, _, hx⟩ := List.mem_flatMap.1 hu
  simp [intCell] at hx
  subst hx
  rfl
theorem own_none {w : World} {base : Nat} {e : TypeId} {v : Value} {xs : List Int} {n : Nat} (h : w.ownsRow base e 1 v n (xs.flatMap intCell)) (ys : List Int) (hy : ys.length = 0) : w.ownsRow base e 1 v (n + ys.length) ((xs ++ ys).flatMap intCell) := by
  obtain rfl := List.eq_nil_of_length_eq_zero hy
  simpa using h
theorem below_row {B : Nat} {w u u' : World} {e : TypeId} {v : Value} {n : Nat} {xs : List Value} (h : Below B w u) (ho : u.ownsRow w.heap.size e 1 v n xs) (hB : B ≤ w.heap.size) (hg : u.grownBy u' v.ownBlock) : Below B w u' :=
  h.grown hg (Nat.le_trans hB h.size) (fun k hk => Nat.le_trans hB (ho.lt k hk).1)
set_option maxHeartbeats 2000000 in
set_option maxRecDepth 100000 in
theorem concat2_any (g : Nat) (s1 s2 : Value) (xs ys : List Int) (w : World) (hx : xs.length ≤ 1048576) (hy : ys.length ≤ 1048576) (h1 : Rd w 1 s1 xs.length (xs.flatMap intCell)) (h2 : Rd w 1 s2 ys.length (ys.flatMap intCell)) (k1 : Placed s1) (k2 : Placed s2)
    (g0 : w.cell? ⟨g, 0, none⟩ = some s1) (g1 : w.cell? ⟨g, 1, none⟩ = some s2) :
    Calls Tryz.prog 151 #[.slice (some ⟨g, 0, none⟩) 2 2] w fun e w' => ∃ v, e = .returned v ∧ w'.ownsRow w.heap.size 2 1 v (xs.length + ys.length) ((xs ++ ys).flatMap intCell) ∧ Below w.heap.size w w' := by
  have H : Hid (xs.length ≤ 1048576 ∧ ys.length ≤ 1048576 ∧ Rd w 1 s1 xs.length (xs.flatMap intCell) ∧ Rd w 1 s2 ys.length (ys.flatMap intCell) ∧ Placed s1 ∧ Placed s2) := ⟨hx, hy, h1, h2, k1, k2⟩
  obtain ⟨a1, c1, rfl⟩ := h1.is_slice
  obtain ⟨a2, c2, rfl⟩ := h2.is_slice
  clear h1 h2 k1 k2
  obtain ⟨i0, hi, hz0, hz1, hz2⟩ := info_parts info64
  have HG : Hid (w.cell? ⟨g, 0, none⟩ = some (.slice a1 xs.length c1) ∧ w.cell? ⟨g, 1, none⟩ = some (.slice a2 ys.length c2)) := ⟨g0, g1⟩
  go_enter Tryz.func151, Tryz.ntmps151
  go_wp2
  go_loopw [3, 11] (fun s c wr => ((c = .int .i64 0 ∧ s = .int .i64 0) ∨ (c = .int .i64 1 ∧ s = .int .i64 (xs.length : Int)) ∨ (c = .int .i64 2 ∧ s = .int .i64 ((xs.length + ys.length : Nat) : Int))) ∧ wr = w) (fun _ c _ => 2 - (intOf c).toNat)
  case atStart => exact ⟨.inl ⟨rfl, rfl⟩, rfl⟩
  case round =>
    obtain ⟨hc, rfl⟩ := hrel
    rcases hc with ⟨rfl, rfl⟩ | ⟨rfl, rfl⟩ | ⟨rfl, rfl⟩
    · go_wp2
      go_roundw
      case rel => exact ⟨.inr (.inl ⟨rfl, by simp⟩), by trivial⟩
      case measure => simp [intOf]
    · go_wp2
      go_roundw
      case rel => exact ⟨.inr (.inr ⟨rfl, by simp⟩), by trivial⟩
      case measure => simp [intOf]
    · go_wp2_with fail
      refine (grow_nil (xs.length + ys.length) _ (by omega)).mono ?_
      rintro e u1 ⟨v0, rfl, own0, bl0⟩
      have HO : Hid (u1.ownsRow wr.heap.size 2 1 v0 0 [] ∧ Below wr.heap.size wr u1) := ⟨own0, bl0⟩
      clear own0 bl0 g0 g1
      obtain ⟨W, hWe⟩ : ∃ W, W = wr := ⟨_, rfl⟩
      subst hWe
      go_wp2
      go_loopw [6, 27] (fun v c wr => ((c = .int .i64 0 ∧ Hid (wr.ownsRow W.heap.size 2 1 v 0 ([] : List Value))) ∨ (c = .int .i64 1 ∧ Hid (wr.ownsRow W.heap.size 2 1 v (0 + xs.length) (([] ++ xs).flatMap intCell))) ∨ (c = .int .i64 2 ∧ Hid (wr.ownsRow W.heap.size 2 1 v (xs.length + ys.length) ((xs ++ ys).flatMap intCell)))) ∧ Hid (Below W.heap.size W wr)) (fun _ c _ => 2 - (intOf c).toNat)
      case atStart => exact ⟨.inl ⟨rfl, HO.out.1⟩, HO.out.2⟩
      case round =>
        clear HO
        obtain ⟨hc, HB⟩ := hrel
        have g0 := HG.out.1
        have g1 := HG.out.2
        rw [← HB.out.cell (block_lt_of_cell g0)] at g0
        rw [← HB.out.cell (block_lt_of_cell g1)] at g1
        rcases hc with ⟨rfl, HO⟩ | ⟨rfl, HO⟩ | ⟨rfl, HO⟩
        · rcases H.out.2.2.2.2.1 with e | ⟨ad, n', c', e⟩
          · simp only [Value.slice.injEq] at e
            obtain ⟨rfl, e2, rfl⟩ := e
            have hN : Hid (xs.length = 0) := e2
            rw [e2] at g0
            have hr : ∀ ty, (Builtin.append_ #[48, 48] ty #[u6, .slice none 0 0]).run Tryz.prog wr = .ok u6 wr := fun ty => run_append_owned_none (P := Tryz.prog) wr W.heap.size 48 ty 2 i0 1 Tryz.underlying48 hi u6 _ _ HO.out
            clear e2
            go_wp2_with (at_builtin; refine Lib.wpList_append_run _ rfl _ _ _ _ rfl _ _ rfl rfl _ _ (hr _) ?_)
            go_roundw
            case rel => exact ⟨.inr (.inl ⟨rfl, own_none (xs := []) HO.out xs hN.out⟩), HB⟩
            case measure => simp [intOf]
          · simp only [Value.slice.injEq] at e
            obtain ⟨rfl, e2, rfl⟩ := e
            have HR : Hid (Rd wr 1 (.slice (some ad) xs.length c1) xs.length (xs.flatMap intCell)) := H.out.2.2.1.keep HB.out (Nat.le_refl _)
            clear e2
            go_wp2_with (at_builtin; refine wpList_append_own _ rfl _ _ 48 rfl W.heap.size 2 i0 (.int .i64 0) 1 8 Tryz.underlying48 hi hz0 hz1 hz2 rfl (by decide) _ _ _ rfl HO.out ad xs.length c1 (xs.flatMap intCell) rfl ?c1 ?c2 ?c3 ?c4 ?c5 ?c6 ?_)
            case c1 => rw [flat_length intCell 1 intCell_length]
            case c2 => exact HR.out.placed
            case c3 => exact ints_oneCell _
            case c4 => unfold maxLen; omega
            case c5 => omega
            case c6 => exact HB.out.size
            intro v' w' hown' hgrow' hnil'
            have HO2 : Hid (w'.ownsRow W.heap.size 2 1 v' (0 + xs.length) (([] ++ xs).flatMap intCell)) := by show World.ownsRow _ _ _ _ _ _ _; simpa using hown'
            have HB2 : Hid (Below W.heap.size W w') := below_row HB.out HO.out (Nat.le_refl _) hgrow'
            clear hown' hgrow' hnil'
            go_wp2
            go_roundw
            case rel => exact ⟨.inr (.inl ⟨rfl, HO2⟩), HB2⟩
            case measure => simp [intOf]
        · rcases H.out.2.2.2.2.2 with e | ⟨ad, n', c', e⟩
          · simp only [Value.slice.injEq] at e
            obtain ⟨rfl, e2, rfl⟩ := e
            have hN : Hid (ys.length = 0) := e2
            rw [e2] at g1
            have hr : ∀ ty, (Builtin.append_ #[48, 48] ty #[u6, .slice none 0 0]).run Tryz.prog wr = .ok u6 wr := fun ty => run_append_owned_none (P := Tryz.prog) wr W.heap.size 48 ty 2 i0 1 Tryz.underlying48 hi u6 _ _ HO.out
            clear e2
            go_wp2_with (at_builtin; refine Lib.wpList_append_run _ rfl _ _ _ _ rfl _ _ rfl rfl _ _ (hr _) ?_)
            go_roundw
            case rel => exact ⟨.inr (.inr ⟨rfl, by have := own_none (xs := [] ++ xs) HO.out ys hN.out; simpa [Hid] using this⟩), HB⟩
            case measure => simp [intOf]
          · simp only [Value.slice.injEq] at e
            obtain ⟨rfl, e2, rfl⟩ := e
            have HR : Hid (Rd wr 1 (.slice (some ad) ys.length c2) ys.length (ys.flatMap intCell)) := H.out.2.2.2.1.keep HB.out (Nat.le_refl _)
            clear e2
            go_wp2_with (at_builtin; refine wpList_append_own _ rfl _ _ 48 rfl W.heap.size 2 i0 (.int .i64 0) 1 8 Tryz.underlying48 hi hz0 hz1 hz2 rfl (by decide) _ _ _ rfl HO.out ad ys.length c2 (ys.flatMap intCell) rfl ?c1 ?c2 ?c3 ?c4 ?c5 ?c6 ?_)
            case c1 => rw [flat_length intCell 1 intCell_length]
            case c2 => exact HR.out.placed
            case c3 => exact ints_oneCell _
            case c4 => unfold maxLen; omega
            case c5 => omega
            case c6 => exact HB.out.size
            intro v' w' hown' hgrow' hnil'
            have HO2 : Hid (w'.ownsRow W.heap.size 2 1 v' (xs.length + ys.length) ((xs ++ ys).flatMap intCell)) := by show World.ownsRow _ _ _ _ _ _ _; simpa using hown'
            have HB2 : Hid (Below W.heap.size W w') := below_row HB.out HO.out (Nat.le_refl _) hgrow'
            clear hown' hgrow' hnil'
            go_wp2
            go_roundw
            case rel => exact ⟨.inr (.inr ⟨rfl, HO2⟩), HB2⟩
            case measure => simp [intOf]
        · go_wp2
          go_ret
          exact ⟨_, rfl, HO.out, HB.out⟩
end Go.Proofs.YtifpjgdnikkekaaGreat
namespace Go.Proofs.YtifpjgdnikkekaaGreat
open Go.ChangeShapes Go.WideShapes Go.ChangeAt Go.RowKit
set_option linter.unusedVariables false
theorem wp_world {P : Program} {c : Code} {Q : Exit → Act → World → Prop} {a : Act} {U : World} (R : World → Prop) (h : R U) (k : ∀ u, R u → Code.wp P c Q a u) : Code.wp P c Q a U := k U h
end Go.Proofs.YtifpjgdnikkekaaGreat
namespace Go.Proofs.YtifpjgdnikkekaaGreat
open Go.ChangeShapes Go.WideShapes Go.ChangeAt Go.RowKit
set_option linter.unusedVariables false
/-- The stack in block S, whose row is V's. -/
structure Stk (w : World) (S : Nat) (V : Value) (xs : List Int) : Prop where
  blk : Blk w S #[V] 207
  own : w.ownsRow (S + 1) 2 1 V xs.length (xs.flatMap intCell)
theorem Stk.keep {w w' : World} {S : Nat} {V : Value} {xs : List Int} (h : Stk w S V xs) (hb : Below w.heap.size w w') : Stk w' S V xs := ⟨h.blk.keep hb, own_keep h.own hb (Nat.le_refl _)⟩
theorem height_any (S : Nat) (V : Value) (xs : List Int) (w : World) (h : Stk w S V xs) : Calls Tryz.prog 121 #[.pointer (some ⟨S, 0, none⟩)] w fun e w' => e = .returned (.int .i64 (xs.length : Int)) ∧ w' = w := by
  obtain ⟨a1, c1, rfl⟩ := own_slice h.own
  have c0 := h.blk.cell 0
  simp only [List.getElem?_toArray, List.getElem?_cons_zero] at c0
  clear h
  go_enter Tryz.func121, Tryz.ntmps121
  go_wp2
  go_ret
  exact ⟨rfl, rfl⟩
set_option maxHeartbeats 1000000 in
theorem isJust_any (S : Nat) (V vs : Value) (xs ys : List Int) (w : World) (h : Stk w S V xs) (hv : Rd w 1 vs ys.length (ys.flatMap intCell)) (hx : xs.length ≤ 1048576) (hy : ys.length ≤ 1048576) : Calls Tryz.prog 126 #[.pointer (some ⟨S, 0, none⟩), vs] w fun e w' => SaysIff e (xs = ys) ∧ Below w.heap.size w w' := by
  have c0 := h.blk.cell 0
  simp only [List.getElem?_toArray, List.getElem?_cons_zero] at c0
  have H : Hid (Stk w S V xs ∧ Rd w 1 vs ys.length (ys.flatMap intCell) ∧ xs.length ≤ 1048576 ∧ ys.length ≤ 1048576) := ⟨h, hv, hx, hy⟩
  obtain ⟨a1, c1, rfl⟩ := own_slice h.own
  obtain ⟨a2, c2, rfl⟩ := hv.is_slice
  clear h hv hx hy
  go_enter Tryz.func126, Tryz.ntmps126
  go_wp2_with fail
  refine (slicesEq64_any _ _ xs ys w H.out.2.2.1 H.out.2.2.2 (Rd.of_own H.out.1.own) H.out.2.1).mono ?_
  rintro e u ⟨⟨b, rfl, hb⟩, m, rfl⟩
  have HB : Hid (b = true ↔ xs = ys) := hb
  clear hb
  go_wp2
  go_ret
  exact ⟨⟨b, rfl, HB.out⟩, below_drewN _ _ _⟩
/-- What push leaves. -/
def PushT (w : World) (S : Nat) (V : Value) (zs : List Int) (w' : World) : Prop := ∃ V', Stk w' S V' zs ∧ Chg (fun j => j = S ∨ V.ownBlock = some j) w w' ∧ (V'.ownBlock = V.ownBlock ∨ ∀ g, V'.ownBlock = some g → w.heap.size ≤ g)
theorem Stk.lt {w : World} {S : Nat} {V : Value} {xs : List Int} (h : Stk w S V xs) : ∀ g, V.ownBlock = some g → S < g ∧ g < w.heap.size := fun g hg => by have := h.own.lt g hg; omega
theorem append_nothing {P : Program} {w : World} (base : Nat) (t ty e : TypeId) (i : TypeInfo) (size : Nat) (ht : P.underlying t = some (.slice e)) (hi : P.info? e = some i) (v : Value) (n : Nat) (xs : List Value) (hown : w.ownsRow base e size v n xs) (c : Nat) : (Builtin.append_ #[t, t] ty #[v, .slice none 0 c]).run P w = .ok v w := by
  rcases hown.2 with ⟨rfl, rfl⟩ | ⟨g, cap, cur, rfl, _, _, hnc, _⟩
  · simp [Builtin.append_, run_underlying ht, sizeOf, typeInfo, hi, Builtin.lenOf, Builtin.firstCells]
  · simp [Builtin.append_, run_underlying ht, sizeOf, typeInfo, hi, Builtin.lenOf, Builtin.firstCells, hnc, storeCells]
theorem PushT.of {w w5 : World} {S : Nat} {V V' : Value} {xs ys : List Int} (h : Stk w S V xs) (hown : w5.ownsRow (S + 1) 2 1 V' (xs.length + ys.length) (xs.flatMap intCell ++ ys.flatMap intCell)) (hgrow : w.grownBy w5 V.ownBlock) (hat : V'.ownBlock = V.ownBlock ∨ V'.ownBlock = some w.heap.size) : PushT w S V (xs ++ ys) (w5.setCell ⟨S, 0, none⟩ V') := by
  have hb := h.blk.grown hgrow h.own (by decide)
  have hl : (xs ++ ys).length = xs.length + ys.length := List.length_append
  refine ⟨V', ⟨by have := hb.set 0 V'; simpa using this, ?_⟩, ?_, ?_⟩
  · rw [hl, List.flatMap_append]
    exact ownsRow_setCell_below hown (by simp only []; omega) _
  · exact (Chg.grown (R := fun j => j = S ∨ V.ownBlock = some j) (Chg.refl _ _) hgrow (fun k hk e => .inr e.symm)).setCell (.inl (.inl rfl)) _
  · exact hat.imp_right fun e g hg => by rw [e] at hg; cases hg; exact Nat.le_refl _
set_option maxHeartbeats 2000000 in
set_option maxRecDepth 100000 in
theorem pushT_any (S : Nat) (V vs : Value) (xs ys : List Int) (w : World) (h : Stk w S V xs) (hv : Rd w 1 vs ys.length (ys.flatMap intCell)) (hx : xs.length ≤ 1048576) (hy : ys.length ≤ 1048576) : Calls Tryz.prog 146 #[.pointer (some ⟨S, 0, none⟩), vs] w fun e w' => e = .returned (.tuple #[]) ∧ PushT w S V (xs ++ ys) w' := by
  obtain ⟨i0, hi, hz0, hz1, hz2⟩ := info_parts info64
  obtain ⟨a1, c1, rfl⟩ := own_slice h.own
  have HS : Hid (Stk w S (.slice a1 xs.length c1) xs) := h
  have c0 := h.blk.cell 0
  have f0 := h.blk.frozen 0
  have hS : S + 1 ≤ w.heap.size := h.blk.lt
  simp only [List.getElem?_toArray, List.getElem?_cons_zero] at c0
  obtain ⟨a2, c2, rfl⟩ := hv.is_slice
  cases a2 with
  | none =>
    have hz : ys.length = 0 := by
      rcases hv.2 with ⟨e0, _⟩ | ⟨g, o, c, e1, _⟩
      · exact e0
      · cases e1
    have hy0 : ys = [] := List.eq_nil_of_length_eq_zero hz
    subst hy0
    have hr : ∀ ty, (Builtin.append_ #[48, 48] ty #[.slice a1 xs.length c1, .slice none 0 c2]).run Tryz.prog w = .ok (.slice a1 xs.length c1) w := fun ty => append_nothing (P := Tryz.prog) (S + 1) 48 ty 2 i0 1 Tryz.underlying48 hi _ _ _ h.own c2
    have HP : Hid (PushT w S (.slice a1 xs.length c1) (xs ++ []) (w.setCell ⟨S, 0, none⟩ (.slice a1 xs.length c1))) := PushT.of h (by simpa using h.own) ⟨rfl, rfl, rfl, Nat.le_refl _, fun _ _ _ => rfl⟩ (.inl rfl)
    clear h hv hy hz
    rw [List.length_nil]
    go_enter Tryz.func146, Tryz.ntmps146
    go_wp2_with (at_builtin; refine Lib.wpList_append_run _ rfl _ _ _ _ rfl _ _ rfl rfl _ _ (hr _) ?_)
    refine bodyPost_end (v := .tuple #[]) (by kernel_rfl) rfl ?_
    exact ⟨rfl, HP.out⟩
  | some ad =>
    have HN : Hid (∀ j u, (ys.flatMap intCell)[j]? = some u → w.cell? (ad.add j) = some u) := fun j u hj => by
      rcases hv.2 with ⟨e0, _⟩ | ⟨g, o, c, e1, hc⟩
      · have : ys = [] := List.eq_nil_of_length_eq_zero e0
        subst this
        simp at hj
      · simp only [Value.slice.injEq, Option.some.injEq] at e1
        obtain ⟨rfl, _⟩ := e1
        rw [add_at]
        exact hc j u hj
    clear h hv
    generalize hyl : ys.length = m at hy ⊢
    have HM : Hid (ys.length = m) := hyl
    clear hyl
    go_enter Tryz.func146, Tryz.ntmps146
    go_wp2_with (at_builtin; refine wpList_append_own_at _ rfl _ _ 48 rfl (S + 1) 2 i0 (.int .i64 0) 1 8 Tryz.underlying48 hi hz0 hz1 hz2 rfl (by decide) _ xs.length (xs.flatMap intCell) rfl HS.out.own ad m c2 (ys.flatMap intCell) rfl (by rw [flat_length intCell 1 intCell_length, HM.out]) HN.out (ints_oneCell _) (by simp [maxLen]; omega) (by omega) hS ?_; intro v5 w5 hown hgrow hnil hat; have HP : Hid (PushT w S (.slice a1 xs.length c1) (xs ++ ys) (w5.setCell ⟨S, 0, none⟩ v5)) := PushT.of HS.out (by rw [HM.out]; exact hown) hgrow hat; have hb5 := HS.out.blk.grown hgrow HS.out.own (by decide); have k0 := hb5.cell 0; have k1 := hb5.frozen 0; simp only [List.getElem?_toArray, List.getElem?_cons_zero] at k0; obtain ⟨a5, c5, e5⟩ := own_slice hown; subst e5; clear hown hgrow hnil hat hb5)
    refine bodyPost_end (v := .tuple #[]) (by kernel_rfl) rfl ?_
    exact ⟨rfl, HP.out⟩
set_option maxHeartbeats 2000000 in
set_option maxRecDepth 100000 in
theorem stackOf_any (vs : Value) (ys : List Int) (w : World) (hv : Rd w 1 vs ys.length (ys.flatMap intCell)) (hy : ys.length ≤ 1048576) : Calls Tryz.prog 118 #[vs] w fun e w' => e = .returned (.pointer (some ⟨w.heap.size, 0, none⟩)) ∧ (∃ V, Stk w' w.heap.size V ys) ∧ Below w.heap.size w w' := by
  have E0 : Hid (Stk (w.alloc (.cells #[.slice none 0 0] 207)) w.heap.size (.slice none 0 0) [] ∧ Below w.heap.size w (w.alloc (.cells #[.slice none 0 0] 207))) := ⟨⟨Blk.new _ _ _, World.ownsRow_nil _ _ _ _⟩, below_alloc _ _⟩
  have H : Hid (Rd w 1 vs ys.length (ys.flatMap intCell) ∧ ys.length ≤ 1048576) := ⟨hv, hy⟩
  clear hv hy
  go_enter Tryz.func118, Tryz.ntmps118
  go_wp2_with fail
  refine (pushT_any w.heap.size (.slice none 0 0) vs [] ys _ E0.out.1 (H.out.1.keep E0.out.2 (Nat.le_refl _)) (by simp) H.out.2).mono ?_
  rintro e u ⟨rfl, V', hs, hc, _⟩
  have E1 : Hid (Stk u w.heap.size V' ys ∧ Below w.heap.size w u) := ⟨hs, E0.out.2.trans (hc.below E0.out.2.size (fun k hk e => by
    rcases e with e | e
    · omega
    · cases e))⟩
  clear hs hc E0
  go_wp2_with fail
  go_ret
  exact ⟨rfl, ⟨V', E1.out.1⟩, E1.out.2⟩
end Go.Proofs.YtifpjgdnikkekaaGreat
