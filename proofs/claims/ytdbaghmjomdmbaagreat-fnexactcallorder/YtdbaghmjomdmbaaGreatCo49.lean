import Derived.Test.YtdbaghmjomdmbaaGreatCo44
import Derived.Test.YtdbaghmjomdmbaaGreatCo34
import Derived.Test.YtdbaghmjomdmbaaGreatCo45
import Derived.Test.YtdbaghmjomdmbaaGreatCo46
import Derived.Test.YtdbaghmjomdmbaaGreatCo48
import Derived.Deep.RegionHeld3
namespace Go.Proofs.YtdbaghmjomdmbaaGreat
open Go.ChangeShapes Go.WideShapes Go.ChangeAt Go.RowKit
set_option linter.unusedVariables false
theorem OrderIs.one {p : MP} {a b : List Int} (h : OrderIs p a) (h' : OrderIs p b) : a = b := by
  rcases h with ⟨h1, rfl⟩ | ⟨h1, rfl⟩ <;> rcases h' with ⟨h2, rfl⟩ | ⟨h2, rfl⟩
  · rfl
  · exact absurd h1 h2
  · exact absurd h2 h1
  · rfl
theorem orderN_length (fs : List MF) : ∀ (k : Nat) (done : List Int), (orderN fs k done).length ≤ done.length + k
  | 0, done => by simp [orderN]
  | k + 1, done => by
    simp only [orderN]
    cases leastR fs done with
    | none => simp
    | some i =>
      have := orderN_length fs k (done ++ [(i : Int)])
      simp only [List.length_append, List.length_singleton] at this
      simp only []
      omega
theorem OrderIs.small {p : MP} {zs : List Int} (h : OrderIs p zs) : zs.length ≤ 32 := by
  rcases h with ⟨h1, rfl⟩ | ⟨h1, rfl⟩
  · have := (fault_ok h1).1.2.1
    have h2 := orderN_length p.funcs p.funcs.length []
    unfold orderL
    simp only [List.length_nil, Nat.zero_add] at h2
    exact Nat.le_trans h2 this
  · simp
theorem At4.all {w : World} {b : Nat} {x0 x1 x2 x3 : Value} (h : At4 w b x0 x1 x2 x3) : w.cell? ⟨b, 0, none⟩ = some x0 ∧ w.cell? ⟨b, 1, none⟩ = some x1 ∧ w.cell? ⟨b, 2, none⟩ = some x2 ∧ w.cell? ⟨b, 3, none⟩ = some x3 := ⟨h.c0, h.c1, h.c2, h.c3⟩
set_option maxRecDepth 100000 in
set_option maxHeartbeats 8000000 in
theorem order_walk (v0 : VP) (p0 : MP) (w : World) (h0 : RdP w v0 p0) (b0 : p0.fits) (f0 : p0.wf) :
    Calls Tryz.prog 3 #[.agg #[v0.r, v0.k, v0.f, v0.t]] w fun e w' => e = .returned (.bool true) ∧ Below w.heap.size w w' := by
  have B0 : Below w.heap.size w (w.alloc (.cells #[v0.r, v0.k, v0.f, v0.t] 27)) := below_alloc _ _
  have A0 : At4 (w.alloc (.cells #[v0.r, v0.k, v0.f, v0.t] 27)) w.heap.size v0.r v0.k v0.f v0.t := At4.new w _ _ _ _ _
  have HF : Hid (p0.fits ∧ p0.wf ∧ RdP w v0 p0 ∧ True) := ⟨b0, f0, h0, trivial⟩
  clear b0 f0 h0
  go_enter Tryz.func3, Tryz.ntmps3
  go_wp2_with fail
  refine (szProgram_any v0 p0 1048576 _ HF.out.1 (HF.out.2.2.1.keep B0 (Nat.le_refl _)) (by omega) (by omega)).mono ?_
  rintro e u1 ⟨r1, rfl, hr1, bl1⟩
  have B1 : Hid (Below w.heap.size w u1) := below_on B0 (Nat.le_refl _) bl1
  have Q1 : Hid (At4 u1 w.heap.size v0.r v0.k v0.f v0.t) := A0.keep bl1
  clear B0 A0 bl1
  rcases hr1 with rfl | ⟨hr0, hr1, hs0⟩
  · go_wp2
    go_ret
    exact ⟨rfl, B1.out⟩
  have S0 : Hid p0.small := hs0
  clear hs0
  have hrn : ¬ r1 < 0 := by omega
  obtain ⟨i0, i1, i2, i3⟩ := Q1.out
  go_wp2_with fail
  refine (toProgram_any v0 p0 _ S0.out (HF.out.2.2.1.keep B1.out (Nat.le_refl _))).mono ?_
  rintro e u2 ⟨y1, f1, y2, f2, y3, f3, y4, f4, rfl, own2, bl2⟩
  have B2 : Hid (Below w.heap.size w u2) := below_on B1.out (Nat.le_refl _) bl2
  have Q2 : Hid (At4 u2 w.heap.size v0.r v0.k v0.f v0.t) := Q1.out.keep bl2
  have Y2 : Hid (OwnP u2 u1.heap.size ⟨.slice y1 p0.regions.length f1, .slice y2 p0.consts.length f2, .slice y3 p0.funcs.length f3, .slice y4 p0.certs.length f4⟩ p0 ∧ u1.heap.size ≤ u2.heap.size) := ⟨own2, bl2.size⟩
  clear own2 bl2 B1 Q1 i0 i1 i2 i3
  go_wp2_with fail
  refine (specOrder_any ⟨.slice y1 p0.regions.length f1, .slice y2 p0.consts.length f2, .slice y3 p0.funcs.length f3, .slice y4 p0.certs.length f4⟩ p0 _ S0.out HF.out.2.1 Y2.out.1.rd).mono ?_
  rintro e u3 ⟨rW, zs, rfl, hrW, hbs, bl3⟩
  have B3 : Hid (Below w.heap.size w u3) := below_on B2.out (Nat.le_refl _) bl3
  have Q3 : Hid (At4 u3 w.heap.size v0.r v0.k v0.f v0.t) := Q2.out.keep bl3
  have hlen := hbs.small
  have HE : Hid (OrderIs p0 zs) := hbs
  have RW : Hid (Rd u3 1 rW zs.length (zs.flatMap intCell)) := hrW
  have hLW : w.heap.size < u3.heap.size := Q3.out.lt
  have HLW : Hid (w.heap.size < u3.heap.size) := hLW
  clear bl3 hbs hrW B2 Q2 Y2
  obtain ⟨i0, i1, i2, i3⟩ := Q3.out
  go_wp2_with fail
  refine (toProgram_any v0 p0 _ S0.out (HF.out.2.2.1.keep B3.out (Nat.le_refl _))).mono ?_
  rintro e u4 ⟨x1, e1, x2, e2, x3, e3, x4, e4, rfl, own4, bl4⟩
  have B4 : Hid (Below w.heap.size w u4) := below_on B3.out (Nat.le_refl _) bl4
  have Q4 : Hid (At4 u4 w.heap.size v0.r v0.k v0.f v0.t) := Q3.out.keep bl4
  have X4 : Hid (OwnP u4 u3.heap.size ⟨.slice x1 p0.regions.length e1, .slice x2 p0.consts.length e2, .slice x3 p0.funcs.length e3, .slice x4 p0.certs.length e4⟩ p0) := own4
  have HB34 : Hid (Below u3.heap.size u3 u4) := bl4
  clear own4 bl4 B3 Q3 i0 i1 i2 i3
  go_wp2_with fail
  have bA := below_alloc u4 (.cells #[.slice x1 p0.regions.length e1, .slice x2 p0.consts.length e2, .slice x3 p0.funcs.length e3, .slice x4 p0.certs.length e4] 35)
  have hsz : (u4.alloc (.cells #[.slice x1 p0.regions.length e1, .slice x2 p0.consts.length e2, .slice x3 p0.funcs.length e3, .slice x4 p0.certs.length e4] 35)).heap.size = u4.heap.size + 1 := by simp
  refine (implOrder_any ⟨.slice x1 p0.regions.length e1, .slice x2 p0.consts.length e2, .slice x3 p0.funcs.length e3, .slice x4 p0.certs.length e4⟩ p0 _ S0.out HF.out.2.1 (X4.out.keep bA (Nat.le_refl _)).rd (X4.out.keep bA (Nat.le_refl _)).regions.rdc (X4.out.keep bA (Nat.le_refl _)).funcs.rdp).mono ?_
  rintro e u5 ⟨rG, zs', rfl, hoG, hbs', bl5⟩
  obtain rfl := OrderIs.one hbs' HE.out
  rw [hsz] at hoG
  have bB : Below u4.heap.size u4 u5 := below_on bA (Nat.le_refl _) bl5
  have B5 : Hid (Below w.heap.size w u5) := below_on B4.out (Nat.le_refl _) bB
  have Q5 : Hid (At4 u5 w.heap.size v0.r v0.k v0.f v0.t) := Q4.out.keep bB
  have QX5 : Hid (At4 u5 u4.heap.size (.slice x1 p0.regions.length e1) (.slice x2 p0.consts.length e2) (.slice x3 p0.funcs.length e3) (.slice x4 p0.certs.length e4)) := (At4.new u4 _ _ _ _ _).keep bl5
  have HB45 : Hid (Below u4.heap.size u4 u5) := bB
  have G5 : Hid (u5.ownsRow (u4.heap.size + 1) 2 1 rG zs'.length (zs'.flatMap intCell)) := hoG
  have HL5 : Hid (u4.heap.size < u5.heap.size) := QX5.out.lt
  clear bl5 bA hsz hbs' hoG bB B4 Q4
  go_wp2_with fail
  have R5 : Hid (Rd u5 1 rW zs'.length (zs'.flatMap intCell)) := RW.out.keep (below_on HB34.out (Nat.le_refl _) HB45.out) (Nat.le_refl _)
  refine (eqInt64S_same rG rW zs' u5 (by omega) (Rd.of_own G5.out) R5.out).mono ?_
  rintro e u6 ⟨rfl, bl⟩
  have B6 : Hid (Below w.heap.size w u6) := below_on B5.out (Nat.le_refl _) bl
  have Q6 : Hid (At4 u6 w.heap.size v0.r v0.k v0.f v0.t) := Q5.out.keep bl
  have QX6 : Hid (At4 u6 u4.heap.size (.slice x1 p0.regions.length e1) (.slice x2 p0.consts.length e2) (.slice x3 p0.funcs.length e3) (.slice x4 p0.certs.length e4)) := QX5.out.keep bl
  have HB46 : Hid (Below u4.heap.size u4 u6) := below_on HB45.out (Nat.le_refl _) bl
  have G6 : Hid (u6.ownsRow (u4.heap.size + 1) 2 1 rG zs'.length (zs'.flatMap intCell)) := own_keep G5.out bl (Nat.le_refl _)
  have X6 : Hid (RdP u6 ⟨.slice x1 p0.regions.length e1, .slice x2 p0.consts.length e2, .slice x3 p0.funcs.length e3, .slice x4 p0.certs.length e4⟩ p0) := X4.out.rd.keep HB46.out (Nat.le_refl _)
  have RP6 : Hid (RdP u6 v0 p0) := HF.out.2.2.1.keep B6.out (Nat.le_refl _)
  clear bl B5 Q5 QX5 HB45 G5 R5
  go_wp2_with fail
  have KX := (QX6.out.keep (below_drew1 _)).all
  have KV := (Q6.out.keep (below_drew1 _)).all
  go_region_held3 (fun w' => (w'.cell? ⟨u4.heap.size, 0, none⟩ = some (.slice x1 p0.regions.length e1) ∧ w'.cell? ⟨u4.heap.size, 1, none⟩ = some (.slice x2 p0.consts.length e2) ∧ w'.cell? ⟨u4.heap.size, 2, none⟩ = some (.slice x3 p0.funcs.length e3) ∧ w'.cell? ⟨u4.heap.size, 3, none⟩ = some (.slice x4 p0.certs.length e4)) ∧ (w'.cell? ⟨w.heap.size, 0, none⟩ = some v0.r ∧ w'.cell? ⟨w.heap.size, 1, none⟩ = some v0.k ∧ w'.cell? ⟨w.heap.size, 2, none⟩ = some v0.f ∧ w'.cell? ⟨w.heap.size, 3, none⟩ = some v0.t)) (first | exact ⟨KX, KV⟩ | go_keep) (first
    | (go_at_call 6; refine (toProgram_any v0 p0 _ S0.out ?_).mono ?_; exact RP6.out.keep (below_drew1 _) (Nat.le_refl _); rintro e u7 ⟨a1, c1, a2, c2, a3, c3, a4, c4, rfl, own7, bl7⟩; have B7 : Hid (Below u6.heap.size u6 u7) := below_drew_trans bl7 (Nat.le_refl _); have O7 : Hid (RdP u7 ⟨.slice a1 p0.regions.length c1, .slice a2 p0.consts.length c2, .slice a3 p0.funcs.length c3, .slice a4 p0.certs.length c4⟩ p0) := own7.rd; have KX := (QX6.out.keep B7.out).all; have KV := (Q6.out.keep B7.out).all; clear own7 bl7)
    | (go_at_call 9; refine (eqProgram_same ⟨.slice x1 p0.regions.length e1, .slice x2 p0.consts.length e2, .slice x3 p0.funcs.length e3, .slice x4 p0.certs.length e4⟩ ⟨.slice a1 p0.regions.length c1, .slice a2 p0.consts.length c2, .slice a3 p0.funcs.length c3, .slice a4 p0.certs.length c4⟩ p0 _ S0.out ?_ ?_).mono ?_; exact X6.out.keep B7.out (Nat.le_refl _); exact O7.out; rintro e u8 ⟨rfl, bl8⟩; have B8 : Hid (Below u6.heap.size u6 u8) := below_on B7.out (Nat.le_refl _) bl8; have KX := (QX6.out.keep B8.out).all; have KV := (Q6.out.keep B8.out).all; clear bl8))
  have B9 : Hid (Below w.heap.size w u8) := below_on B6.out (Nat.le_refl _) B8.out
  have Q9 : Hid (At4 u8 w.heap.size v0.r v0.k v0.f v0.t) := Q6.out.keep B8.out
  have QX9 : Hid (At4 u8 u4.heap.size (.slice x1 p0.regions.length e1) (.slice x2 p0.consts.length e2) (.slice x3 p0.funcs.length e3) (.slice x4 p0.certs.length e4)) := QX6.out.keep B8.out
  have G9 : Hid (u8.ownsRow (u4.heap.size + 1) 2 1 rG zs'.length (zs'.flatMap intCell)) := own_keep G6.out B8.out (Nat.le_refl _)
  have HB49 : Hid (Below u4.heap.size u4 u8) := below_on HB46.out (Nat.le_refl _) B8.out
  clear B6 Q6 QX6 HB46 G6 X6 RP6 B7 B8 O7 KX KV
  obtain ⟨j0, j1, j2, j3⟩ := QX9.out
  go_wp2_with fail
  refine (markProgram_any u4 u3.heap.size ⟨.slice x1 p0.regions.length e1, .slice x2 p0.consts.length e2, .slice x3 p0.funcs.length e3, .slice x4 p0.certs.length e4⟩ p0 u8 S0.out X4.out HB49.out).mono ?_
  rintro e u9 ⟨⟨k1, rfl, hk1, _⟩, mg⟩
  have hs34 := HB34.out.size
  have hs48 := HB49.out.size
  have hBm : Below u3.heap.size u8 u9 := mg.below (by omega)
  have H38 : Below u3.heap.size u3 u8 := below_on HB34.out (Nat.le_refl _) HB49.out
  have B10 : Hid (Below w.heap.size w u9) := B9.out.trans (hBm.mono (Nat.le_of_lt HLW.out))
  have HB39 : Hid (Below u3.heap.size u3 u9) := H38.trans hBm
  have G10 : Hid (u9.ownsRow (u4.heap.size + 1) 2 1 rG zs'.length (zs'.flatMap intCell)) := mg.own G9.out (by omega)
  have lo3 : ∀ (i : Nat) x, u8.cell? ⟨w.heap.size, i, none⟩ = some x → u9.cell? ⟨w.heap.size, i, none⟩ = some x := fun i x hx => mg.cell hx (.inl HLW.out)
  have Q10 : Hid (At4 u9 w.heap.size v0.r v0.k v0.f v0.t) := ⟨lo3 _ _ Q9.out.c0, lo3 _ _ Q9.out.c1, lo3 _ _ Q9.out.c2, lo3 _ _ Q9.out.c3⟩
  have hsz9 : u4.heap.size + 1 ≤ u9.heap.size := by have := QX9.out.lt; have := mg.size; omega
  clear mg hBm H38 lo3 B9 Q9 QX9 G9 HB49 X4 j0 j1 j2 j3 hs34
  have hk1' : ¬ k1 < 0 := by omega
  have hkd : decide (k1 < 0) = false := by simp; omega
  go_wp2_with fail
  refine (eqInt64S_same rG rW zs' u9 (by omega) (Rd.of_own G10.out) (RW.out.keep HB39.out (Nat.le_refl _))).mono ?_
  rintro e u10 ⟨rfl, bl⟩
  have B11 : Hid (Below w.heap.size w u10) := below_on B10.out (Nat.le_refl _) bl
  have Q11 : Hid (At4 u10 w.heap.size v0.r v0.k v0.f v0.t) := Q10.out.keep bl
  have HB310 : Hid (Below u3.heap.size u3 u10) := below_on HB39.out (Nat.le_refl _) bl
  have G11 : Hid (u10.ownsRow (u4.heap.size + 1) 2 1 rG zs'.length (zs'.flatMap intCell)) := own_keep G10.out bl (Nat.le_refl _)
  have hsz10 : u4.heap.size + 1 ≤ u10.heap.size := by have := bl.size; omega
  clear bl B10 Q10 HB39 G10
  go_wp2_with fail
  refine (markInt64S_ex (u4.heap.size + 1) rG zs' 1 u10 (by omega) (by omega) (by omega) G11.out).mono ?_
  rintro e u11 ⟨rfl, own11, gr11⟩
  have bl : Below (u4.heap.size + 1) u10 u11 := ⟨gr11.os, gr11.tape, gr11.output, gr11.size, fun k hk => gr11.block k (by omega) (fun e => by have := (G11.out.lt k e.symm).1; omega)⟩
  have hs34 := HB34.out.size
  have B12 : Hid (Below w.heap.size w u11) := B11.out.trans (bl.mono (by have := HLW.out; omega))
  have HB311 : Hid (Below u3.heap.size u3 u11) := HB310.out.trans (bl.mono (by omega))
  have Q12 : Hid (At4 u11 w.heap.size v0.r v0.k v0.f v0.t) := by
    have hw : w.heap.size < u4.heap.size + 1 := by have := HLW.out; omega
    exact ⟨by rw [bl.cell hw]; exact Q11.out.c0, by rw [bl.cell hw]; exact Q11.out.c1, by rw [bl.cell hw]; exact Q11.out.c2, by rw [bl.cell hw]; exact Q11.out.c3⟩
  have G12 : Hid (Rd u11 1 rG zs'.length ((markIs 1 zs'.length).flatMap intCell)) := Rd.of_own own11
  clear bl own11 gr11 B11 Q11 HB310 G11 hs34 hsz10 hsz9
  go_wp2_with fail
  refine (heldInt64S_ex rG zs'.length 1 u11 (by omega) (by omega) (by omega) G12.out).mono ?_
  rintro e u12 ⟨rfl, rfl⟩
  obtain ⟨i0, i1, i2, i3⟩ := Q12.out
  go_wp2_with fail
  refine (toProgram_any v0 p0 _ S0.out (HF.out.2.2.1.keep B12.out (Nat.le_refl _))).mono ?_
  rintro e u13 ⟨d1, g1, d2, g2, d3, g3, d4, g4, rfl, own13, bl⟩
  have B13 : Hid (Below w.heap.size w u13) := below_on B12.out (Nat.le_refl _) bl
  have HB313 : Hid (Below u3.heap.size u3 u13) := below_on HB311.out (Nat.le_refl _) bl
  have G13 : Hid (Rd u13 1 rG zs'.length ((markIs 1 zs'.length).flatMap intCell)) := G12.out.keep bl (Nat.le_refl _)
  have D13 : Hid (OwnP u13 u12.heap.size ⟨.slice d1 p0.regions.length g1, .slice d2 p0.consts.length g2, .slice d3 p0.funcs.length g3, .slice d4 p0.certs.length g4⟩ p0 ∧ u12.heap.size ≤ u13.heap.size) := ⟨own13, bl.size⟩
  clear own13 bl B12 HB311 Q12 G12 i0 i1 i2 i3
  go_wp2_with fail
  refine (implOrder_any ⟨.slice d1 p0.regions.length g1, .slice d2 p0.consts.length g2, .slice d3 p0.funcs.length g3, .slice d4 p0.certs.length g4⟩ p0 _ S0.out HF.out.2.1 D13.out.1.rd D13.out.1.regions.rdc D13.out.1.funcs.rdp).mono ?_
  rintro e u14 ⟨rH, zs2, rfl, hoH, hbs2, bl14⟩
  obtain rfl := OrderIs.one hbs2 HE.out
  have B14 : Hid (Below w.heap.size w u14) := below_on B13.out (Nat.le_refl _) bl14
  have HB314 : Hid (Below u3.heap.size u3 u14) := below_on HB313.out (Nat.le_refl _) bl14
  have G14 : Hid (Rd u14 1 rG zs2.length ((markIs 1 zs2.length).flatMap intCell)) := G13.out.keep bl14 (Nat.le_refl _)
  have H14 : Hid (Rd u14 1 rH zs2.length (zs2.flatMap intCell)) := Rd.of_own hoH
  clear bl14 hbs2 hoH B13 HB313 G13 D13
  go_wp2_with fail
  refine (eqInt64S_same rH rW zs2 u14 (by omega) H14.out (RW.out.keep HB314.out (Nat.le_refl _))).mono ?_
  rintro e u15 ⟨rfl, bl⟩
  have B15 : Hid (Below w.heap.size w u15) := below_on B14.out (Nat.le_refl _) bl
  have G15 : Hid (Rd u15 1 rG zs2.length ((markIs 1 zs2.length).flatMap intCell)) := G14.out.keep bl (Nat.le_refl _)
  clear bl B14 HB314 G14 H14
  go_wp2_with fail
  refine (heldInt64S_ex rG zs2.length 1 u15 (by omega) (by omega) (by omega) G15.out).mono ?_
  rintro e u16 ⟨rfl, rfl⟩
  go_wp2
  go_ret
  exact ⟨rfl, B15.out⟩
end Go.Proofs.YtdbaghmjomdmbaaGreat
