import Derived.Test.YtnemieeeappgnaaGreatDoorDc20
import Derived.Test.YtnemieeeappgnaaGreatDoorDc34
import Derived.Laws.IdiomStrings
import Derived.Test.YtnemieeeappgnaaGreatDoorDc13
import Derived.Test.YtnemieeeappgnaaGreatDoorDc10
import Derived.Test.YtnemieeeappgnaaGreatDoorDc5
import Derived.Deep.DeepCutAuto
namespace Go.Proofs.YtnemieeeappgnaaGreatDoor
open Go.ChangeShapes Go.WideShapes Go.ChangeAt Go.RowKit
set_option linter.unusedVariables false
def bodyZ (zs : List Int) : List Int := zs.take (zs.length - 4)
def Start (zs : List Int) : Prop := 10 ≤ zs.length ∧ zs.take 4 = [80, 76, 67, 49]
def Sum4 (zs : List Int) : Prop := wrap64 (getAcc zs (zs.length - 4) 4) = toI (~~~(crcTo (bodyZ zs) (zs.length - 4)))
def Vers (zs : List Int) : Prop := wrap64 (getAcc zs 4 2) = 1
def noP : MP := ⟨[], [], [], []⟩
/-- What Decode tells of bytes: a code and a program. -/
def DecIs (zs : List Int) (c : Int) (p : MP) : Prop :=
  (¬ Start zs ∧ c = 1 ∧ p = noP) ∨ (Start zs ∧ ¬ Sum4 zs ∧ c = 2 ∧ p = noP) ∨ (Start zs ∧ Sum4 zs ∧ ¬ Vers zs ∧ c = 3 ∧ p = noP) ∨
  (Start zs ∧ Sum4 zs ∧ Vers zs ∧ progR (bodyZ zs) 6 = none ∧ c = 4 ∧ p = noP) ∨
  (∃ q k, Start zs ∧ Sum4 zs ∧ Vers zs ∧ progR (bodyZ zs) 6 = some (q, k) ∧ k ≠ zs.length - 4 ∧ c = 5 ∧ p = noP) ∨
  (∃ q n, Start zs ∧ Sum4 zs ∧ Vers zs ∧ progR (bodyZ zs) 6 = some (q, zs.length - 4) ∧ FaultIs q n ∧ n ≠ 0 ∧ c = 6 ∧ p = noP) ∨
  (Start zs ∧ Sum4 zs ∧ Vers zs ∧ progR (bodyZ zs) 6 = some (p, zs.length - 4) ∧ FaultIs p 0 ∧ c = 0)
theorem DecIs.one {zs : List Int} {c c' : Int} {p p' : MP} (h : DecIs zs c p) (h' : DecIs zs c' p') : c = c' ∧ p = p' := by
  unfold DecIs at h h'
  by_cases s1 : Start zs <;> by_cases s2 : Sum4 zs <;> by_cases s3 : Vers zs <;> simp only [s1, s2, s3, not_true_eq_false, not_false_eq_true, true_and, false_and, false_or, or_false, and_false, exists_false] at h h'
  · cases e : progR (bodyZ zs) 6 with
    | none =>
      simp only [e] at h h'
      simp at h h'
      exact ⟨h.1.trans h'.1.symm, h.2.trans h'.2.symm⟩
    | some y =>
      obtain ⟨q, k⟩ := y
      simp only [e, Option.some.injEq, Prod.mk.injEq] at h h'
      simp only [reduceCtorEq, false_and, false_or] at h h'
      rcases h with ⟨_, _, ⟨rfl, rfl⟩, hk, rfl, rfl⟩ | ⟨_, n, ⟨rfl, hk⟩, hf, hn, rfl, rfl⟩ | ⟨⟨rfl, hk⟩, hf, rfl⟩ <;> rcases h' with ⟨_, _, ⟨rfl, rfl⟩, hk', rfl, rfl⟩ | ⟨_, n', ⟨rfl, hk'⟩, hf', hn', rfl, rfl⟩ | ⟨⟨rfl, hk'⟩, hf', rfl⟩
      all_goals first
        | exact ⟨rfl, rfl⟩
        | (exfalso; omega)
        | (exfalso; exact hk hk')
        | (exfalso; exact hk' hk)
        | (exfalso; exact hn (hf.one hf'))
        | (exfalso; exact hn' (hf'.one hf))
  all_goals exact ⟨h.1.trans h'.1.symm, h.2.trans h'.2.symm⟩
end Go.Proofs.YtnemieeeappgnaaGreatDoor
namespace Go.Proofs.YtnemieeeappgnaaGreatDoor
open Go.ChangeShapes Go.WideShapes Go.ChangeAt Go.RowKit
set_option linter.unusedVariables false
theorem blk5 {u : World} {X : Nat} {x0 x1 x2 x3 x4 : Value} {t : TypeId} (h : Blk u X #[x0, x1, x2, x3, x4] t) : u.cell? ⟨X, 0, none⟩ = some x0 ∧ u.cell? ⟨X, 1, none⟩ = some x1 ∧ u.cell? ⟨X, 2, none⟩ = some x2 ∧ u.cell? ⟨X, 3, none⟩ = some x3 ∧ u.cell? ⟨X, 4, none⟩ = some x4 := ⟨h.cell 0, h.cell 1, h.cell 2, h.cell 3, h.cell 4⟩
theorem pItems_slices {w : World} {base : Nat} {v : VP} {F : List (List Int × Value)} {cs : List MC} {G : List (MF × VF)} {ts : List MT} {B : List RowI} (h : Sep w base (pItems v F cs G ts B)) : ∃ a1 c1 a2 c2 a3 c3 a4 c4, v = ⟨.slice a1 F.length c1, .slice a2 cs.length c2, .slice a3 G.length c3, .slice a4 ts.length c4⟩ := by
  obtain ⟨vr, vk, vf, vt⟩ := v
  obtain ⟨a1, c1, e1⟩ : ∃ a c, vr = .slice a F.length c := own_sl (h.own (rHead vr F) (by simp [pItems]))
  obtain ⟨a2, c2, e2⟩ : ∃ a c, vk = .slice a cs.length c := own_sl (h.own (cRow vk cs) (by simp [pItems]))
  obtain ⟨a3, c3, e3⟩ : ∃ a c, vf = .slice a G.length c := own_sl (h.own (fHead vf G) (by simp [pItems]))
  obtain ⟨a4, c4, e4⟩ : ∃ a c, vt = .slice a ts.length c := own_sl (h.own (tRow vt ts) (by simp [pItems]))
  exact ⟨a1, c1, a2, c2, a3, c3, a4, c4, by rw [e1, e2, e3, e4]⟩
set_option maxHeartbeats 1000000 in
set_option maxRecDepth 100000 in
theorem markResult_sep (base : Nat) (code : Int) (v : VP) (F : List (List Int × Value)) (cs : List MC) (G : List (MF × VF)) (ts : List MT) (B : List RowI) (w : World) (hB : base ≤ w.heap.size) (hs : PSmall F cs G ts) (h : Sep w base (pItems v F cs G ts B)) :
    Calls Tryz.prog 10 #[.agg #[.int .i64 code, v.r, v.k, v.f, v.t], .int .i64 1] w fun e w' => e = .returned (.int .i64 (endF (endR 1 F + 2 * (cs.length : Int)) G + 4 * (ts.length : Int))) ∧ Sep w' base (pItems v (markRs 1 F) (mkRow mkC 2 (endR 1 F) cs.length) (markFs (endR 1 F + 2 * (cs.length : Int)) G) (mkRow mkT 4 (endF (endR 1 F + 2 * (cs.length : Int)) G) ts.length) B) ∧ Below base w w' := by
  obtain ⟨a1, c1, a2, c2, a3, c3, a4, c4, rfl⟩ := pItems_slices h
  have bA := below_alloc w (.cells #[.int .i64 code, .slice a1 F.length c1, .slice a2 cs.length c2, .slice a3 G.length c3, .slice a4 ts.length c4] 30)
  obtain ⟨q0, q1, q2, q3, q4⟩ := blk5 (Blk.new w #[.int .i64 code, .slice a1 F.length c1, .slice a2 cs.length c2, .slice a3 G.length c3, .slice a4 ts.length c4] 30)
  have H : Hid (Sep w base (pItems ⟨.slice a1 F.length c1, .slice a2 cs.length c2, .slice a3 G.length c3, .slice a4 ts.length c4⟩ F cs G ts B) ∧ PSmall F cs G ts ∧ Below w.heap.size w (w.alloc (.cells #[.int .i64 code, .slice a1 F.length c1, .slice a2 cs.length c2, .slice a3 G.length c3, .slice a4 ts.length c4] 30))) := ⟨h, hs, bA⟩
  clear h hs bA
  go_enter Tryz.func10, Tryz.ntmps10
  go_wp2_with fail
  refine (markProgram_sep base ⟨.slice a1 F.length c1, .slice a2 cs.length c2, .slice a3 G.length c3, .slice a4 ts.length c4⟩ F cs G ts B _ (Nat.le_trans hB H.out.2.2.size) H.out.2.1 (H.out.1.keep H.out.2.2)).mono ?_
  rintro e u ⟨rfl, hs, hb⟩
  have HE : Hid (Sep u base (pItems ⟨.slice a1 F.length c1, .slice a2 cs.length c2, .slice a3 G.length c3, .slice a4 ts.length c4⟩ (markRs 1 F) (mkRow mkC 2 (endR 1 F) cs.length) (markFs (endR 1 F + 2 * (cs.length : Int)) G) (mkRow mkT 4 (endF (endR 1 F + 2 * (cs.length : Int)) G) ts.length) B) ∧ Below base w u) := ⟨hs, (H.out.2.2.mono hB).trans hb⟩
  clear hs hb q0 q1 q2 q3 q4
  generalize hKK : endF (endR 1 F + 2 * (cs.length : Int)) G + 4 * (ts.length : Int) = KK
  have HKK : Hid (endF (endR 1 F + 2 * (cs.length : Int)) G + 4 * (ts.length : Int) = KK) := hKK
  clear hKK
  go_wp2
  go_ret
  exact ⟨by rw [HKK.out]; rfl, HE.out⟩
set_option maxHeartbeats 1000000 in
set_option maxRecDepth 100000 in
theorem heldResult_sep (base : Nat) (code : Int) (v : VP) (F : List (List Int × Value)) (cs : List MC) (G : List (MF × VF)) (ts : List MT) (B : List RowI) (w : World) (hs : PSmall F cs G ts) (h : Sep w base (pItems v (markRs 1 F) (mkRow mkC 2 (endR 1 F) cs.length) (markFs (endR 1 F + 2 * (cs.length : Int)) G) (mkRow mkT 4 (endF (endR 1 F + 2 * (cs.length : Int)) G) ts.length) B)) :
    Calls Tryz.prog 11 #[.agg #[.int .i64 code, v.r, v.k, v.f, v.t], .int .i64 1] w fun e w' => e = .returned (.int .i64 (endF (endR 1 F + 2 * (cs.length : Int)) G + 4 * (ts.length : Int))) ∧ Below w.heap.size w w' := by
  have hR := endR_le 1 F hs.f
  have hG := endF_le (endR 1 F + 2 * (cs.length : Int)) G hs.g
  obtain ⟨a1, c1, a2, c2, a3, c3, a4, c4, rfl⟩ := pItems_slices h
  rw [markRs_length, mkRow_length, markFs_length, mkRow_length] at h ⊢
  have bA := below_alloc w (.cells #[.int .i64 code, .slice a1 F.length c1, .slice a2 cs.length c2, .slice a3 G.length c3, .slice a4 ts.length c4] 30)
  obtain ⟨q0, q1, q2, q3, q4⟩ := blk5 (Blk.new w #[.int .i64 code, .slice a1 F.length c1, .slice a2 cs.length c2, .slice a3 G.length c3, .slice a4 ts.length c4] 30)
  have HI : Hid (Calls Tryz.prog 20 #[.agg #[.slice a1 F.length c1, .slice a2 cs.length c2, .slice a3 G.length c3, .slice a4 ts.length c4], .int .i64 1] (w.alloc (.cells #[.int .i64 code, .slice a1 F.length c1, .slice a2 cs.length c2, .slice a3 G.length c3, .slice a4 ts.length c4] 30)) fun e w' => e = .returned (.int .i64 (endF (endR 1 F + 2 * (cs.length : Int)) G + 4 * (ts.length : Int))) ∧ Below (w.alloc (.cells #[.int .i64 code, .slice a1 F.length c1, .slice a2 cs.length c2, .slice a3 G.length c3, .slice a4 ts.length c4] 30)).heap.size (w.alloc (.cells #[.int .i64 code, .slice a1 F.length c1, .slice a2 cs.length c2, .slice a3 G.length c3, .slice a4 ts.length c4] 30)) w') := heldProgram_sep base ⟨.slice a1 F.length c1, .slice a2 cs.length c2, .slice a3 G.length c3, .slice a4 ts.length c4⟩ F cs G ts B _ hs (h.keep bA)
  have HB : Hid (Below w.heap.size w (w.alloc (.cells #[.int .i64 code, .slice a1 F.length c1, .slice a2 cs.length c2, .slice a3 G.length c3, .slice a4 ts.length c4] 30))) := bA
  clear h hs bA
  have hn : ¬ endF (endR 1 F + 2 * (cs.length : Int)) G + 4 * (ts.length : Int) < 0 := by omega
  generalize endF (endR 1 F + 2 * (cs.length : Int)) G + 4 * (ts.length : Int) = KK at *
  go_enter Tryz.func11, Tryz.ntmps11
  go_wp2_with fail
  refine HI.out.mono ?_
  rintro e u ⟨rfl, hb⟩
  have HE : Hid (Below w.heap.size w u) := below_on HB.out (Nat.le_refl _) hb
  clear hb q0 q1 q2 q3 q4
  go_wp2
  go_ret
  exact ⟨rfl, HE.out⟩
theorem rdp_slices {w : World} {v : VP} {p : MP} (h : RdP w v p) : ∃ a1 c1 a2 c2 a3 c3 a4 c4, v = ⟨.slice a1 p.regions.length c1, .slice a2 p.consts.length c2, .slice a3 p.funcs.length c3, .slice a4 p.certs.length c4⟩ := by
  obtain ⟨vr, vk, vf, vt⟩ := v
  obtain ⟨a1, c1, e1⟩ : ∃ a c, vr = .slice a p.regions.length c := by obtain ⟨xs, _, h2, _⟩ := h.regions; exact h2.is_slice
  obtain ⟨a2, c2, e2⟩ : ∃ a c, vk = .slice a p.consts.length c := h.consts.is_slice
  obtain ⟨a3, c3, e3⟩ : ∃ a c, vf = .slice a p.funcs.length c := by obtain ⟨xs, _, h2, _⟩ := h.funcs; exact h2.is_slice
  obtain ⟨a4, c4, e4⟩ : ∃ a c, vt = .slice a p.certs.length c := h.certs.is_slice
  exact ⟨a1, c1, a2, c2, a3, c3, a4, c4, by rw [e1, e2, e3, e4]⟩
set_option maxHeartbeats 1000000 in
set_option maxRecDepth 100000 in
theorem eqResult_same (code : Int) (v v' : VP) (p : MP) (w : World) (hs : p.small) (h : RdP w v p) (h' : RdP w v' p) :
    Calls Tryz.prog 7 #[.agg #[.int .i64 code, v.r, v.k, v.f, v.t], .agg #[.int .i64 code, v'.r, v'.k, v'.f, v'.t]] w fun e w' => e = .returned (.bool true) ∧ Below w.heap.size w w' := by
  obtain ⟨a1, c1, a2, c2, a3, c3, a4, c4, rfl⟩ := rdp_slices h
  obtain ⟨b1, d1, b2, d2, b3, d3, b4, d4, rfl⟩ := rdp_slices h'
  simp only []
  have hb1 := below_alloc w (.cells #[.int .i64 code, .slice a1 p.regions.length c1, .slice a2 p.consts.length c2, .slice a3 p.funcs.length c3, .slice a4 p.certs.length c4] 30)
  have hb2 := below_alloc (w.alloc (.cells #[.int .i64 code, .slice a1 p.regions.length c1, .slice a2 p.consts.length c2, .slice a3 p.funcs.length c3, .slice a4 p.certs.length c4] 30)) (.cells #[.int .i64 code, .slice b1 p.regions.length d1, .slice b2 p.consts.length d2, .slice b3 p.funcs.length d3, .slice b4 p.certs.length d4] 30)
  have HX : Hid (∃ _ : Unit, True) := ⟨(), trivial⟩
  go_enter Tryz.func7, Tryz.ntmps7
  go_upto_region 1 with fail
  refine wp_world (fun u => Below w.heap.size w u ∧ Blk u w.heap.size #[.int .i64 code, .slice a1 p.regions.length c1, .slice a2 p.consts.length c2, .slice a3 p.funcs.length c3, .slice a4 p.certs.length c4] 30 ∧ Blk u (w.heap.size + 1) #[.int .i64 code, .slice b1 p.regions.length d1, .slice b2 p.consts.length d2, .slice b3 p.funcs.length d3, .slice b4 p.certs.length d4] 30) ⟨below_on hb1 (Nat.le_refl _) hb2, (Blk.new _ _ _).keep hb2, by have := Blk.new (w.alloc (.cells #[.int .i64 code, .slice a1 p.regions.length c1, .slice a2 p.consts.length c2, .slice a3 p.funcs.length c3, .slice a4 p.certs.length c4] 30)) #[.int .i64 code, .slice b1 p.regions.length d1, .slice b2 p.consts.length d2, .slice b3 p.funcs.length d3, .slice b4 p.certs.length d4] 30; simpa using this⟩ ?_
  rintro U ⟨hU, hk1, hk2⟩
  have HU : Hid (Below w.heap.size w U ∧ RdP U ⟨.slice a1 p.regions.length c1, .slice a2 p.consts.length c2, .slice a3 p.funcs.length c3, .slice a4 p.certs.length c4⟩ p ∧ RdP U ⟨.slice b1 p.regions.length d1, .slice b2 p.consts.length d2, .slice b3 p.funcs.length d3, .slice b4 p.certs.length d4⟩ p ∧ p.small) := ⟨hU, h.keep hU (Nat.le_refl _), h'.keep hU (Nat.le_refl _), hs⟩
  obtain ⟨q0, q1, q2, q3, q4⟩ := blk5 hk1
  obtain ⟨r0, r1, r2, r3, r4⟩ := blk5 hk2
  clear hb1 hb2 hU hk1 hk2 h h' hs HX
  go_wp2_with fail
  refine (eqProgram_same ⟨.slice a1 p.regions.length c1, .slice a2 p.consts.length c2, .slice a3 p.funcs.length c3, .slice a4 p.certs.length c4⟩ ⟨.slice b1 p.regions.length d1, .slice b2 p.consts.length d2, .slice b3 p.funcs.length d3, .slice b4 p.certs.length d4⟩ p _ HU.out.2.2.2 HU.out.2.1 HU.out.2.2.1).mono ?_
  rintro e u2 ⟨rfl, hb⟩
  have HE : Hid (Below w.heap.size w u2) := below_on HU.out.1 (Nat.le_refl _) hb
  clear hb q0 q1 q2 q3 q4 r0 r1 r2 r3 r4
  go_wp2
  go_ret
  exact ⟨rfl, HE.out⟩
end Go.Proofs.YtnemieeeappgnaaGreatDoor
