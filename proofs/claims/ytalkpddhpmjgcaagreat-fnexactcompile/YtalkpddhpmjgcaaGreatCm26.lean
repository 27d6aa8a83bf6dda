import Derived.Test.YtalkpddhpmjgcaaGreatCm25
import Derived.Shelf.Bits.Mul64
import Derived.Shelf.Lay
import Derived.Laws.CopyOwn
import Derived.Ground.NamesProg
import Derived.BigRegion
namespace Go.Proofs.YtalkpddhpmjgcaaGreat
open Go.ChangeShapes Go.WideShapes Go.ChangeAt Go.RowKit
set_option linter.unusedVariables false
theorem meth_assignment (v : Value) (w : World) : Sem.run Tryz.prog (method 297 156 v "loop.example/s02548/impl.makeCode") w = .ok (149, v) w := by kernel_rfl
theorem meth_choice (v : Value) (w : World) : Sem.run Tryz.prog (method 297 135 v "loop.example/s02548/impl.makeCode") w = .ok (147, v) w := by kernel_rfl
theorem meth_repetition (v : Value) (w : World) : Sem.run Tryz.prog (method 297 133 v "loop.example/s02548/impl.makeCode") w = .ok (142, v) w := by kernel_rfl
theorem meth_helperCall (v : Value) (w : World) : Sem.run Tryz.prog (method 297 131 v "loop.example/s02548/impl.makeCode") w = .ok (141, v) w := by kernel_rfl
set_option maxHeartbeats 8000000 in
set_option maxRecDepth 100000 in
theorem putAll_step (n : Nat) (ih : n = 0 ∨ PaIs (n - 1)) (w u : World) (v : VP) (F : List (List Int × Value)) (G : List (MF × VF)) (C : Nat) (vc : Value) (lev : Nat) (g : Gn) (D : List RowI) (V : Value) (t : TL n) (A : Nat → Prop) (h : IG w u v F G C vc lev g D) (hr : RdI w A n V t) (hok : allOkT n t) (hty : ∀ x ∈ g.consts, x.type = 3) (h1 : g.code.length + 5 * sizeT n t ≤ 100000) (h2 : g.consts.length + sizeT n t ≤ 100000) (h3 : g.certs.length + sizeT n t ≤ 100000) (h4 : lev + sizeT n t ≤ 100000) (h5 : G.length ≤ 100) : Calls Tryz.prog 53 #[.pointer (some ⟨C, 0, none⟩), V] u (PaRes w F G C lev (genT n (G.length : Int) t lev g) D) := by
  have HI : Hid (n = 0 ∨ PaIs (n - 1)) := ih
  obtain ⟨a1, c1, e1⟩ := hr.is_slice
  subst e1
  have H : Hid (RdI w A n (.slice a1 (lenT n t) c1) t ∧ allOkT n t ∧ (∀ x ∈ g.consts, x.type = 3) ∧ g.code.length + 5 * sizeT n t ≤ 100000 ∧ g.consts.length + sizeT n t ≤ 100000 ∧ g.certs.length + sizeT n t ≤ 100000 ∧ lev + sizeT n t ≤ 100000 ∧ G.length ≤ 100) := ⟨hr, hok, hty, h1, h2, h3, h4, h5⟩
  have H0 : Hid (IG w u v F G C vc lev g D) := h
  have hL : lenT n t ≤ 1048576 := by have := len_le_size n t; omega
  clear h hr ih hok hty h1 h2 h3 h4 h5
  generalize hLL : lenT n t = L at H hL ⊢
  have HL : Hid (lenT n t = L) := hLL
  clear hLL
  go_enter Tryz.func53, Tryz.ntmps53
  go_wp2_with fail
  go_loopw [5, 8] (fun _ i wr => ∃ (k : Nat) (v' : VP) (vc' : Value), k ≤ L ∧ i = .int .i64 k ∧ Hid (IG w wr v' F G C vc' lev (genN (n - 1) (G.length : Int) (itemsT n t) lev k g) D)) (fun _ i _ => L - (intOf i).toNat)
  case atStart => exact ⟨0, v, vc, by omega, rfl, H0.out⟩
  case round =>
    clear H0
    clear v vc
    obtain ⟨k, v, vc, hk, rfl, HK⟩ := hrel
    by_cases hlt : k < L
    · obtain ⟨x, hx⟩ : ∃ x, (itemsT n t)[k]? = some x := ⟨_, List.getElem?_eq_getElem (by rw [items_len, HL.out]; exact hlt)⟩
      obtain ⟨gl, ol, cl, vb, ve, e1, i0, r2, r3⟩ := H.out.1.item hx
      rw [HL.out] at e1
      simp only [Value.slice.injEq, true_and] at e1
      obtain ⟨rfl, rfl⟩ := e1
      rw [← HK.out.bl.bel.cell (block_lt_of_cell i0)] at i0
      have hso := (items_ok n t).1 H.out.2.1 x (List.mem_of_getElem? hx)
      have hIH : PaIs (n - 1) := by
        rcases HI.out with e | e
        · subst e; cases hx
        · exact e
      have hgl := genN_le (G.length : Int) (genT_le (n - 1) (G.length : Int)) (itemsT n t) lev g k (by rw [items_len, HL.out]; omega)
      have hgt := genN_ty (genT_ty (n - 1) (G.length : Int)) (itemsT n t) lev g H.out.2.2.1 k
      have hsn := sumT_next hx
      have hsl : L + sumT (n - 1) (itemsT n t) (k + 1) ≤ sizeT n t := by
        have e0 := HL.out
        cases n with
        | zero => cases hx
        | succ n =>
          have := sumT_le (n := n) (l := t) (k + 1)
          have e : lenT (n + 1) t = List.length t := rfl
          have e2 : itemsT (n + 1) t = t := rfl
          rw [e2]
          rw [e] at e0
          rw [← e0]
          exact this
      have HGN : Hid (genN (n - 1) (G.length : Int) (itemsT n t) lev (k + 1) g = genS (n - 1) (G.length : Int) (genT (n - 1) (G.length : Int)) x lev (genN (n - 1) (G.length : Int) (itemsT n t) lev k g)) := genN_next hx
      generalize genN (n - 1) (G.length : Int) (itemsT n t) lev k g = g0 at HK hgl hgt HGN
      have HSZ : Hid ((∀ x ∈ g0.consts, x.type = 3) ∧ g0.code.length + 5 * (1 + sizeT (n - 1) x.body + sizeT (n - 1) x.els) ≤ 100000 ∧ g0.consts.length + (1 + sizeT (n - 1) x.body + sizeT (n - 1) x.els) ≤ 100000 ∧ g0.certs.length + (1 + sizeT (n - 1) x.body + sizeT (n - 1) x.els) ≤ 100000 ∧ lev + (1 + sizeT (n - 1) x.body + sizeT (n - 1) x.els) ≤ 100000) := by
        have a1 := hgl.code
        have a2 := hgl.consts
        have a3 := hgl.certs
        have b := H.out.2.2.2
        refine ⟨hgt, ?_, ?_, ?_, ?_⟩ <;> omega
      have HX : Hid (okS x.k x.a x.b (lenT (n - 1) x.body) (lenT (n - 1) x.els) ∧ allOkT (n - 1) x.body ∧ allOkT (n - 1) x.els ∧ PaIs (n - 1) ∧ (x.k = 2 → RdI w A (n - 1) vb x.body ∧ RdI w A (n - 1) ve x.els) ∧ (x.k = 3 → RdI w A (n - 1) vb x.body)) := ⟨hso.1, hso.2.1, hso.2.2, hIH, r2, r3⟩
      clear hso hIH hgl hgt hsn hsl hx r2 r3
      have hcase : x.k = 1 ∨ x.k = 2 ∨ (x.k = 3 ∧ 0 ≤ x.b ∧ x.b < 256) ∨ (x.k = 4 ∧ 0 ≤ x.a ∧ x.a < 8) := by
        have hK := HX.out.1
        unfold okS at hK
        omega
      rcases hcase with hk1 | hk2 | ⟨hk3, hb0, hb1⟩ | ⟨hk4, ha0, ha1⟩
      · rw [iVal_1 hk1] at i0
        have KK : Hid (x.k = 1) := hk1
        have mt := meth_assignment
        clear hk1
        go_wp2_with fail
        refine (mkA_any w wr v F G C vc lev g0 D x.a x.b HK.out (by have := HSZ.out; omega)).mono ?_
        rintro e U1 ⟨rfl, v1, vc1, hh⟩
        have HF : Hid (IG w U1 v1 F G C vc1 lev (genN (n - 1) (G.length : Int) (itemsT n t) lev (k + 1) g) D) := by
          show IG w U1 v1 F G C vc1 lev (genN (n - 1) (G.length : Int) (itemsT n t) lev (k + 1) g) D
          rw [HGN.out]
          unfold genS
          rw [if_pos KK.out]
          exact hh
        clear hh HK mt i0
        go_wp2_with fail
        go_roundw
        case rel => exact ⟨k + 1, _, _, by omega, by go_num, HF⟩
        case measure => simp [intOf]; omega
      · rw [iVal_2 hk2] at i0
        have HR : Hid (RdI w A (n - 1) vb x.body ∧ RdI w A (n - 1) ve x.els) := HX.out.2.2.2.2.1 hk2
        have KK : Hid (x.k = 2) := hk2
        have mt := meth_choice
        obtain ⟨ab, cb, eb⟩ := HR.out.1.is_slice
        obtain ⟨ae, ce, ee⟩ := HR.out.2.is_slice
        subst eb ee
        generalize lenT (n - 1) x.body = lb at HR i0
        generalize lenT (n - 1) x.els = le at HR i0
        clear hk2
        go_wp2_with fail
        refine (mkC_any (n - 1) HX.out.2.2.2.1 w wr v F G C vc lev g0 D A x KK.out (.slice ab lb cb) (.slice ae le ce) HK.out HR.out.1 HR.out.2 HX.out.2.1 HX.out.2.2.1 HSZ.out.1 HSZ.out.2.1 HSZ.out.2.2.1 HSZ.out.2.2.2.1 HSZ.out.2.2.2.2 H.out.2.2.2.2.2.2.2).mono ?_
        rintro e U1 ⟨rfl, v1, vc1, hh⟩
        have HF : Hid (IG w U1 v1 F G C vc1 lev (genN (n - 1) (G.length : Int) (itemsT n t) lev (k + 1) g) D) := by
          show IG w U1 v1 F G C vc1 lev (genN (n - 1) (G.length : Int) (itemsT n t) lev (k + 1) g) D
          rw [HGN.out]
          exact hh
        clear hh HK mt i0
        go_wp2_with fail
        go_roundw
        case rel => exact ⟨k + 1, _, _, by omega, by go_num, HF⟩
        case measure => simp [intOf]; omega
      · rw [iVal_3 hk3] at i0
        have HR : Hid (RdI w A (n - 1) vb x.body) := HX.out.2.2.2.2.2 hk3
        have KK : Hid (x.k = 3) := hk3
        have mt := meth_repetition
        obtain ⟨ab, cb, eb⟩ := HR.out.is_slice
        subst eb
        generalize lenT (n - 1) x.body = lb at HR i0
        clear hk3
        go_wp2_with fail
        refine (mkR_any (n - 1) HX.out.2.2.2.1 w wr v F G C vc lev g0 D A x KK.out ⟨hb0, hb1⟩ (.slice ab lb cb) HK.out HR.out HX.out.2.1 HSZ.out.1 HSZ.out.2.1 HSZ.out.2.2.1 HSZ.out.2.2.2.1 HSZ.out.2.2.2.2 H.out.2.2.2.2.2.2.2).mono ?_
        rintro e U1 ⟨rfl, v1, vc1, hh⟩
        have HF : Hid (IG w U1 v1 F G C vc1 lev (genN (n - 1) (G.length : Int) (itemsT n t) lev (k + 1) g) D) := by
          show IG w U1 v1 F G C vc1 lev (genN (n - 1) (G.length : Int) (itemsT n t) lev (k + 1) g) D
          rw [HGN.out]
          exact hh
        clear hh HK mt i0
        go_wp2_with fail
        go_roundw
        case rel => exact ⟨k + 1, _, _, by omega, by go_num, HF⟩
        case measure => simp [intOf]; omega
      · rw [iVal_4 hk4] at i0
        have KK : Hid (x.k = 4) := hk4
        have mt := meth_helperCall
        clear hk4
        go_wp2_with fail
        refine (mkH_any w wr v F G C vc lev g0 D x.a ⟨ha0, ha1⟩ HK.out (by have := HSZ.out; omega)).mono ?_
        rintro e U1 ⟨rfl, v1, vc1, hh⟩
        have HF : Hid (IG w U1 v1 F G C vc1 lev (genN (n - 1) (G.length : Int) (itemsT n t) lev (k + 1) g) D) := by
          show IG w U1 v1 F G C vc1 lev (genN (n - 1) (G.length : Int) (itemsT n t) lev (k + 1) g) D
          rw [HGN.out]
          unfold genS
          rw [if_neg (by rw [KK.out]; omega), if_neg (by rw [KK.out]; omega), if_neg (by rw [KK.out]; omega), if_pos KK.out]
          exact hh
        clear hh HK mt i0
        go_wp2_with fail
        go_roundw
        case rel => exact ⟨k + 1, _, _, by omega, by go_num, HF⟩
        case measure => simp [intOf]; omega
    · have hkn : k = L := by omega
      subst hkn
      have HY : Hid (genT n (G.length : Int) t lev g = genN (n - 1) (G.length : Int) (itemsT n t) lev k g) := by show genT n (G.length : Int) t lev g = _; rw [gen_items, HL.out]
      go_wp2_with fail
      refine bodyPost_end (v := .tuple #[]) (by kernel_rfl) rfl ?_
      exact ⟨rfl, _, _, by rw [HY.out]; exact HK.out⟩
theorem putAll_any (n : Nat) : PaIs n := by
  induction n with
  | zero => exact fun w u v F G C vc lev g D V t A h hr hok hty h1 h2 h3 h4 h5 => putAll_step 0 (.inl rfl) w u v F G C vc lev g D V t A h hr hok hty h1 h2 h3 h4 h5
  | succ n ih => exact fun w u v F G C vc lev g D V t A h hr hok hty h1 h2 h3 h4 h5 => putAll_step (n + 1) (.inr ih) w u v F G C vc lev g D V t A h hr hok hty h1 h2 h3 h4 h5
end Go.Proofs.YtalkpddhpmjgcaaGreat
namespace Go.Proofs
open Go.Shelf
def Tryz.lMul_ren : Go.Shelf.Ren := ⟨fun | 212 => 80 | 263 => 91 | 264 => 92 | n => n, fun | 46 => 136 | 51 => 106 | 146 => 157 | 53 => 159 | 148 => 160 | n => n, fun | n => n⟩
theorem Tryz.lMul : Go.Proofs.Lays.n212 Tryz.prog Tryz.lMul_ren := {
  mixed := by kernel_rfl
  f212 := Tryz.func80.trans (congrArg some (by kernel_rfl))
  f263 := Tryz.func91.trans (congrArg some (by kernel_rfl))
  f264 := Tryz.func92.trans (congrArg some (by kernel_rfl))
  t46 := Tryz.underlying136
  a46 := Tryz.isAgg136
  z46 := Tryz.sizeOf136
  v46 := Tryz.zeroValue136
  t51 := Tryz.underlying106
  a51 := Tryz.isAgg106
  z51 := Tryz.sizeOf106
  v51 := Tryz.zeroValue106
  t53 := Tryz.underlying159
  a53 := Tryz.isAgg159
  z53 := Tryz.sizeOf159
  v53 := Tryz.zeroValue159
  t146 := Tryz.underlying157
  a146 := Tryz.isAgg157
  z146 := Tryz.sizeOf157
  v146 := Tryz.zeroValue157
  t148 := Tryz.underlying160
  a148 := Tryz.isAgg160
  z148 := Tryz.sizeOf160
  v148 := Tryz.zeroValue160 }
end Go.Proofs
namespace Go.Proofs.YtalkpddhpmjgcaaGreat
open Go.ChangeShapes Go.WideShapes Go.ChangeAt Go.RowKit
set_option linter.unusedVariables false
theorem with_world {Q : Exit → Act → World → Prop} {a : Act} {U : World} (P : World → Prop) (h : P U) (k : ∀ u, P u → Q .normal a u) : Q .normal a U := k U h
theorem mul_any (x y : Nat) (hx : x < 18446744073709551616) (hy : y < 18446744073709551616) (w : World) :
    Calls Tryz.prog 80 #[.int .u64 x, .int .u64 y] w fun e w' => e = .returned (.tuple #[.int .u64 ((x * y / 18446744073709551616 : Nat) : Int), .int .u64 ((x * y % 18446744073709551616 : Nat) : Int)]) ∧ w' = w := by
  have h := Any.bits_Mul Tryz.lMul x y hx hy w
  exact h
/-- 3 at the first k places. -/
def repV (k n : Nat) : List Value := List.replicate k (.int .i64 3) ++ List.replicate (n - k) (.int .i64 0)
theorem repV_length (k n : Nat) (h : k ≤ n) : (repV k n).length = n := by simp [repV]; omega
theorem repV_splice (k c n : Nat) (h : k + c ≤ n) : splice (repV k n) k (List.replicate c (.int .i64 3)) = repV (k + c) n := by
  unfold splice repV
  rw [List.take_left' (by simp), List.length_replicate, List.drop_append, List.drop_of_length_le (by simp), List.nil_append, List.length_replicate, List.drop_replicate, ← List.append_assoc, List.replicate_append_replicate]
  congr 2
  omega
theorem copy_rep (W : World) (G k n dl dc sl sc c : Nat) (ad : Addr) (hg : Blk W G (repV k n).toArray 2) (hc : c = Nat.min sl dl) (hsrc : ∀ j, j < c → W.cell? (ad.add j) = some (.int .i64 3)) (hkc : k + c ≤ n) :
    (Builtin.copy_ #[49, 49] 3 #[.slice (some ⟨G, k, none⟩) dl dc, .slice (some ad) sl sc]).run Tryz.prog W = .ok (.int .i64 (c : Int)) (W.setRow G (repV (k + c) n).toArray) := by
  obtain ⟨k0, hk, hx0, hx1, hx2⟩ := info_parts info64
  have h := run_copy_row (P := Tryz.prog) W 49 49 3 2 G k dl dc ad sl sc (repV k n).toArray 2 (List.replicate c (.int .i64 3)) Tryz.underlying49 (by rw [hk]; simp [hx1]) hg (by rw [List.length_replicate]; exact hc) (fun j v hj => by
    obtain ⟨h1, h2⟩ := List.getElem?_eq_some_iff.1 hj
    rw [List.length_replicate] at h1
    rw [hsrc j h1, ← h2]
    simp) (by rw [List.length_replicate, List.size_toArray, repV_length k n (by omega)]; exact hkc) (fun v hv => by rw [(List.mem_replicate.1 hv).2]; rfl)
  rw [h]
  have e := repV_splice k c n hkc
  unfold splice at e
  simp only [List.length_replicate] at e ⊢
  rw [List.append_assoc, e]
  rfl
theorem rep_at (k n i : Nat) (h : i < k) (hk : k ≤ n) : (repV k n).toArray[i]? = some (.int .i64 3) := by
  rw [List.getElem?_toArray]
  unfold repV
  rw [List.getElem?_append_left (by simpa using h)]
  simp [h]
theorem made_rep {W : World} {B G n : Nat} (h : W.ownsRow B 2 1 (.slice (some ⟨G, 0, none⟩) n n) n (madeCells (Value.int .i64 0).cells (n * 1)).toList) : Blk W G (repV 0 n).toArray 2 := by
  rcases h.2 with ⟨h', _⟩ | ⟨g', cap', cur, h', hb, hg, h3, h4, h5, h6⟩
  · cases h'
  · cases h'
    have e : cur = (repV 0 n).toArray := by
      have e0 : (madeCells (Value.int .i64 0).cells (n * 1)).toList = newTo intCell [.int .i64 0] [] n := newTo_zero intCell [.int .i64 0] n (.int .i64 0) 1 rfl rfl (by omega)
      rw [e0] at h6
      rw [List.take_of_length_le (by simp [h5])] at h6
      apply Array.toList_inj.1
      rw [h6]
      simp [newTo, repV, List.flatten_replicate_singleton]
    rw [← e]
    exact hg
theorem setRow_blk {W : World} {G : Nat} {cur new : Array Value} {t : TypeId} (h : Blk W G cur t) : Blk (W.setRow G new) G new t := setRow_heap W G _ _ t _ h
set_option maxHeartbeats 4000000 in
set_option maxRecDepth 100000 in
theorem repeat_any (g n : Nat) (w : World) (hn : n ≤ 1024) (h : w.cell? ⟨g, 0, none⟩ = some (.int .i64 3)) :
    Calls Tryz.prog 52 #[.slice (some ⟨g, 0, none⟩) 1 1, .int .i64 (n : Int)] w fun e w' => ∃ g', e = .returned (.slice (some ⟨g', 0, none⟩) n n) ∧ w'.ownsRow w.heap.size 2 1 (.slice (some ⟨g', 0, none⟩) n n) n (List.replicate n (.int .i64 3)) ∧ Below w.heap.size w w' := by
  obtain ⟨k0, hk, hx0, hx1, hx2⟩ := info_parts info64
  have hnI : ¬ (n : Int) < 0 := by omega
  have hn2 : (n : Int) ≤ 1024 := by omega
  have hm1 : 1 * n / 18446744073709551616 = 0 := by omega
  have hm2 : 1 * n % 18446744073709551616 = n := by omega
  have HM : Hid (∀ U : World, Calls Tryz.prog 80 #[.int .u64 1, .int .u64 (n : Int)] U fun e w' => e = .returned (.tuple #[.int .u64 0, .int .u64 (n : Int)]) ∧ w' = U) := fun U => by
    have := mul_any 1 n (by omega) (by omega) U
    rw [hm1, hm2] at this
    exact this
  clear hm1 hm2
  go_enter Tryz.func52, Tryz.ntmps52
  go_wp2_with fail
  refine (HM.out w).mono ?_
  rintro e u ⟨rfl, rfl⟩
  have hgt : g < u.heap.size := block_lt_of_cell h
  have HOC : Hid (u.cell? ⟨g, 0, none⟩ = some (.int .i64 3)) := h
  clear h
  go_upto_region 7 with (at_make; refine wpList_make_full _ rfl _ _ 49 rfl u.heap.size 2 k0 (.int .i64 0) 1 Tryz.underlying49 hk hx0 hx1 .i64 .i64 _ _ n rfl rfl rfl rfl (by rw [hx2]; omega) (by unfold maxLen; omega) (Nat.le_refl _) ?_; intro w3 hown hgrow)
  have hb3 : Below u.heap.size u w3 := (Below.refl _ _).grown hgrow (Nat.le_refl _) (fun k hk => by cases hk)
  have k3 : Blk w3 u.heap.size (repV 0 n).toArray 2 := made_rep hown
  obtain ⟨c0, hc0⟩ : ∃ c0, c0 = Nat.min 1 n := ⟨_, rfl⟩
  have hc1 : c0 ≤ n ∧ c0 ≤ 1 ∧ (n = 0 ∨ c0 = 1) := by have e : c0 = min 1 n := hc0; omega
  have hcp := copy_rep w3 u.heap.size 0 n n n 1 1 c0 ⟨g, 0, none⟩ k3 hc0 (fun j hj => by
    obtain rfl : j = 0 := by omega
    rw [add_at]
    exact bcell_lt hb3 HOC.out) (by omega)
  have HB4 : Hid (Blk (w3.setRow u.heap.size (repV (0 + c0) n).toArray) u.heap.size (repV (0 + c0) n).toArray 2 ∧ Below u.heap.size u (w3.setRow u.heap.size (repV (0 + c0) n).toArray)) := ⟨setRow_blk k3, below_setRow hb3 (Nat.le_refl _) _⟩
  clear hown hgrow hb3 k3 hc0
  rw [Nat.zero_add] at hcp HB4
  obtain ⟨W4, hW4⟩ : ∃ W, W = w3.setRow u.heap.size (repV c0 n).toArray := ⟨_, rfl⟩
  rw [← hW4] at hcp HB4
  clear hW4
  obtain ⟨G, hG⟩ : ∃ G, G = u.heap.size := ⟨_, rfl⟩
  rw [← hG] at hcp HB4 ⊢
  have HGG : Hid (G = u.heap.size) := hG
  clear hG
  go_wp2
  go_loopw [8] (fun i wr => ∃ k : Nat, (n = 0 ∨ 1 ≤ k) ∧ k ≤ n ∧ i = .int .i64 (k : Int) ∧ Hid (Blk wr G (repV k n).toArray 2 ∧ Below u.heap.size u wr)) (fun i _ => n - (intOf i).toNat)
  case atStart => exact ⟨c0, by omega, hc1.1, rfl, by rw [← HGG.out]; exact HB4⟩
  case round =>
    clear HB4 hcp
    obtain ⟨k, hk1, hkn, rfl, HL⟩ := hrel
    clear hc1
    by_cases hlt : k < n
    · have hltI : (k : Int) < (n : Int) := by omega
      have kD := HL.out.1.keep (below_drew1 wr)
      have bD := below_on HL.out.2 (Nat.le_refl _) (below_drew1 wr)
      obtain ⟨c, hc⟩ : ∃ c, c = Nat.min k (n - k) := ⟨_, rfl⟩
      have hcl : 1 ≤ c ∧ c ≤ k ∧ k + c ≤ n := by
        have e : c = min k (n - k) := hc
        omega
      have hcp := copy_rep wr.drew G k n (n - k) (n - k) k n c ⟨G, 0, none⟩ kD hc (fun j hj => by
        rw [add_at, Nat.zero_add, kD.cell j]
        exact rep_at k n j (by omega) (by omega)) (by omega)
      have HN : Hid (Blk (wr.drew.setRow G (repV (k + c) n).toArray) G (repV (k + c) n).toArray 2 ∧ Below u.heap.size u (wr.drew.setRow G (repV (k + c) n).toArray)) := ⟨setRow_blk kD, below_setRow bD (by rw [HGG.out]; exact Nat.le_refl _) _⟩
      clear kD bD hc
      go_wp2
      go_region
      refine with_world (fun x => Hid (Blk x G (repV (k + c) n).toArray 2 ∧ Below u.heap.size u x)) HN ?_
      intro U HU
      clear HN hcp
      go_wp2
      go_roundw
      case rel => exact ⟨k + c, by omega, by omega, by go_num, HU⟩
      case measure => simp [intOf]; omega
    · obtain rfl : k = n := by omega
      have HE : Hid (wr.ownsRow u.heap.size 2 1 (.slice (some ⟨G, 0, none⟩) k k) k (List.replicate k (.int .i64 3))) := by
        refine ⟨by simp, .inr ⟨G, k, (repV k k).toArray, rfl, by rw [HGG.out]; exact Nat.le_refl _, HL.out.1, Nat.le_refl _, by unfold maxLen; omega, by simp [repV], by simp [repV]⟩⟩
      go_wp2
      go_ret
      exact ⟨G, rfl, HE.out, HL.out.2⟩
/-- What uints gives. -/
theorem rep_int (n : Nat) : List.replicate n (Value.int .i64 3) = (List.replicate n (3 : Int)).flatMap intCell := by
  induction n with
  | zero => rfl
  | succ n ih => rw [List.replicate_succ, List.replicate_succ, List.flatMap_cons, ih]; rfl
set_option maxHeartbeats 2000000 in
set_option maxRecDepth 100000 in
theorem uints_any (n : Nat) (w : World) (hn : n ≤ 1024) : Calls Tryz.prog 24 #[.int .i64 (n : Int)] w fun e w' => ∃ V, e = .returned V ∧ (iRow V (List.replicate n 3)).own w' w.heap.size ∧ Below w.heap.size w w' := by
  have hc : (w.alloc (.cells #[.int .i64 3] 2)).cell? ⟨w.heap.size, 0, none⟩ = some (.int .i64 3) := (Blk.new w #[.int .i64 3] 2).cell 0
  have HC : Hid ((w.alloc (.cells #[.int .i64 3] 2)).cell? ⟨w.heap.size, 0, none⟩ = some (.int .i64 3) ∧ Below w.heap.size w (w.alloc (.cells #[.int .i64 3] 2))) := ⟨hc, below_alloc _ _⟩
  clear hc
  go_enter Tryz.func24, Tryz.ntmps24
  go_wp2_with fail
  refine (repeat_any w.heap.size n _ hn HC.out.1).mono ?_
  rintro e u ⟨g', rfl, ho, hb⟩
  have HO : Hid ((iRow (.slice (some ⟨g', 0, none⟩) n n) (List.replicate n 3)).own u w.heap.size ∧ Below w.heap.size w u) := by
    refine ⟨?_, below_on HC.out.2 (Nat.le_refl _) hb⟩
    have := own_base ho HC.out.2.size
    rw [rep_int] at this
    show u.ownsRow w.heap.size 2 1 (.slice (some ⟨g', 0, none⟩) n n) (List.replicate n (3 : Int)).length ((List.replicate n (3 : Int)).flatMap intCell)
    rw [List.length_replicate]
    exact this
  clear ho hb HC
  go_wp2_with fail
  go_ret
  exact ⟨_, rfl, HO.out.1, HO.out.2⟩
end Go.Proofs.YtalkpddhpmjgcaaGreat
