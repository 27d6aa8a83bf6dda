import Derived.Test.YtdfmdgbolmbffaaGreatLf18
import Derived.Test.YtdfmdgbolmbffaaGreatLf10
import Derived.Test.YtdfmdgbolmbffaaGreatLf17
import Derived.Shelf.SlicesG.Reverse
import Derived.Shelf.Bits.Mul64
import Derived.Shelf.Lay
import Derived.Laws.CopyOwn
import Derived.Ground.NamesProg
import Derived.Test.YtdfmdgbolmbffaaGreatLf16
import Derived.Deep.LoopGhost
namespace Go.Proofs.YtdfmdgbolmbffaaGreat
open Go.ChangeShapes Go.WideShapes Go.ChangeAt Go.RowKit
set_option linter.unusedVariables false
theorem run_store_func (P : Program) (w : World) (a : Addr) (m : Mode) (f : Fn) (x y : Array Value) : (store a (.func f x y) m).run P w = stored P w a (.func f x y) m := run_store P w a _ m rfl
set_option maxHeartbeats 8000000 in
set_option maxRecDepth 100000 in
theorem postorder_any (g o c n : Nat) (E : Nat → List Nat) (sv : Value) (T : List Nat) (bv_ : Value) (S0 : List Nat) (w : World) (hn : n ≤ 1024) (hE : ∀ b, b < n → ∀ x ∈ E b, x < n) (hsz : ∀ b, (E b).length ≤ 2048) (h : EdAt w g o n E) (hT : ∀ x ∈ T, x < n) (hTl : T.length ≤ 4096) (hs : RdN w sv T) (hS : (bv_ = .slice none 0 0 ∧ S0 = []) ∨ ∃ x gx cx : Nat, S0 = [x] ∧ x < n ∧ bv_ = .slice (some ⟨gx, 0, none⟩) 1 cx ∧ w.cell? ⟨gx, 0, none⟩ = some (.int .i64 (x : Int))) :
    Calls Tryz.prog 139 #[.slice (some ⟨g, o, none⟩) n c, sv, bv_] w fun e w' => ∃ V S O, e = .returned V ∧ Vs E S0 [] T S O ∧ OwN w' w.heap.size V O ∧ Below w.heap.size w w' := by
  have H : Hid (EdAt w g o n E ∧ (∀ b, b < n → ∀ x ∈ E b, x < n) ∧ (∀ b, (E b).length ≤ 2048) ∧ (∀ x ∈ T, x < n) ∧ RdN w sv T) := ⟨h, hE, hsz, hT, hs⟩
  obtain ⟨at_, ct, rfl⟩ := Rd.is_slice hs
  clear h hE hsz hT hs
  have hmm := @run_makeMap Tryz.prog
  have hmf : ∀ (fn : Fn) (first cap : Array Value) (w : World), (Instr.makeFunc fn first cap).run Tryz.prog w = .ok (.func fn first cap) w := fun _ _ _ _ => rfl
  go_enter Tryz.func139, Tryz.ntmps139
  go_upto_region 3 with fail
  refine wp_world (fun u => Hid (Blk u w.heap.size #[.slice (some ⟨g, o, none⟩) n c] 22 ∧ Blk u (w.heap.size + 1) #[.slice none 0 0] 48 ∧ SetAt u (w.heap.size + 1 + 1) 0 (.map []) ∧ Blk u (w.heap.size + 1 + 1 + 1) #[.map (some (w.heap.size + 1 + 1))] 142 ∧ Below w.heap.size w u)) ?_ ?_
  · have b1 := below_alloc w (.cells #[.slice (some ⟨g, o, none⟩) n c] 22)
    have k1 := Blk.new w #[.slice (some ⟨g, o, none⟩) n c] 22
    have z1 : (w.alloc (.cells #[.slice (some ⟨g, o, none⟩) n c] 22)).heap.size = w.heap.size + 1 := by simp
    generalize w.alloc (.cells #[.slice (some ⟨g, o, none⟩) n c] 22) = W1 at b1 k1 z1 ⊢
    have b2 := below_alloc W1 (.cells #[.slice none 0 0] 48)
    have k2 := Blk.new W1 #[.slice none 0 0] 48
    have z2 : (W1.alloc (.cells #[.slice none 0 0] 48)).heap.size = w.heap.size + 1 + 1 := by simp [z1]
    rw [z1] at k2
    generalize W1.alloc (.cells #[.slice none 0 0] 48) = W2 at b2 k2 z2 ⊢
    have b3 := below_alloc W2 (.map #[] 0)
    have k3 : SetAt (W2.alloc (.map #[] 0)) W2.heap.size 0 (.map []) := World.ownsMap_made _ _ _ _
    have z3 : (W2.alloc (.map #[] 0)).heap.size = w.heap.size + 1 + 1 + 1 := by simp [z2]
    rw [z2] at k3
    generalize W2.alloc (.map #[] 0) = W3 at b3 k3 z3 ⊢
    have b4 := below_alloc W3 (.cells #[.map (some (w.heap.size + 1 + 1))] 142)
    have k4 := Blk.new W3 #[.map (some (w.heap.size + 1 + 1))] 142
    rw [z3] at k4
    exact ⟨((k1.keep b2).keep b3).keep b4, (k2.keep b3).keep b4, k3.keep b4, k4, below_on (below_on (below_on b1 (Nat.le_refl _) b2) (Nat.le_refl _) b3) (Nat.le_refl _) b4⟩
  intro U0 HU0
  have s0 : U0.cell? ⟨w.heap.size + 1 + 1 + 1, 0, none⟩ = some (.map (some (w.heap.size + 1 + 1))) := HU0.out.2.2.2.1.cell 0
  have HAD : Hid (Calls Tryz.prog 117 #[.map (some (w.heap.size + 1 + 1)), bv_] U0 fun e u' => e = .returned (.tuple #[]) ∧ (∃ cnt D, SetAt u' (w.heap.size + 1 + 1) cnt D ∧ cnt + unseen S0 n ≤ n + 1 ∧ ∀ x : Nat, Go.Maps.has D (.int .i64 (x : Int)) = S0.contains x) ∧ U0.grownBy u' (some (w.heap.size + 1 + 1))) := by
    rcases hS with ⟨rfl, rfl⟩ | ⟨x, gx, cx, rfl, hx, rfl, hc⟩
    · refine (add_none _ U0).mono ?_
      rintro e u' ⟨rfl, rfl⟩
      exact ⟨rfl, ⟨0, .map [], HU0.out.2.2.1, by rw [unseen_nil]; omega, fun x => rfl⟩, ⟨rfl, rfl, rfl, Nat.le_refl _, fun _ _ _ => rfl⟩⟩
    · refine (add_one _ 0 gx cx _ (x : Int) U0 (w64_nat (by omega)) (by omega) (bcell_keep HU0.out.2.2.2.2 hc) (by have := block_lt_of_cell hc; simp only [] at this; omega) HU0.out.2.2.1).mono ?_
      rintro e u' ⟨rfl, h1, h2⟩
      refine ⟨rfl, ⟨_, _, h1, ?_, fun y => ?_⟩, h2⟩
      · have := unseen_cons [] n x hx (by simp)
        rw [unseen_nil] at this
        omega
      · rw [has_put _ (World.ownsMap.isMap HU0.out.2.2.1)]
        by_cases e : y = x
        · subst e; simp
        · have : ¬ (y : Int) = (x : Int) := by omega
          simp [e, this]
          rfl
  clear hS
  go_wp2_with fail
  refine HAD.out.mono ?_
  rintro e u1 ⟨rfl, hset, hg1⟩
  have HU1 : Hid (Blk u1 w.heap.size #[.slice (some ⟨g, o, none⟩) n c] 22 ∧ Blk u1 (w.heap.size + 1) #[.slice none 0 0] 48 ∧ (∃ cnt D, SetAt u1 (w.heap.size + 1 + 1) cnt D ∧ cnt + unseen S0 n ≤ n + 1 ∧ ∀ x : Nat, Go.Maps.has D (.int .i64 (x : Int)) = S0.contains x) ∧ Blk u1 (w.heap.size + 1 + 1 + 1) #[.map (some (w.heap.size + 1 + 1))] 142 ∧ Below w.heap.size w u1) := ⟨HU0.out.1.gb hg1 (by simp; omega), HU0.out.2.1.gb hg1 (by simp), hset, HU0.out.2.2.2.1.gb hg1 (by simp), HU0.out.2.2.2.2.grown hg1 HU0.out.2.2.2.2.size (fun j hj => by cases hj; omega)⟩
  clear hset hg1 HAD HU0 s0
  have hsf := @run_store_func Tryz.prog
  have kF := Blk.new u1 #[.nilFunc] 214
  have c9 : (u1.alloc (.cells #[.nilFunc] 214)).cell? ⟨u1.heap.size, 0, none⟩ = some .nilFunc := kF.cell 0
  have f9 := kF.frozen 0
  have HPO : Hid (PO w (u1.alloc (.cells #[.func (.func 164) #[] #[.pointer (some ⟨w.heap.size + 1 + 1 + 1, 0, none⟩), .pointer (some ⟨w.heap.size, 0, none⟩), .pointer (some ⟨u1.heap.size, 0, none⟩), .pointer (some ⟨w.heap.size + 1, 0, none⟩)]] 214)) n (w.heap.size + 1 + 1) (w.heap.size + 1 + 1 + 1) w.heap.size u1.heap.size (w.heap.size + 1) (.slice (some ⟨g, o, none⟩) n c) (.slice none 0 0) S0 []) := by
    have bA := below_alloc u1 (.cells #[walkV (w.heap.size + 1 + 1 + 1) w.heap.size u1.heap.size (w.heap.size + 1)] 214)
    obtain ⟨cnt, D, h1, h2, h3⟩ := HU1.out.2.2.1
    refine ⟨⟨cnt, D, h1.keep bA, h2, h3⟩, HU1.out.2.2.2.1.keep bA, HU1.out.1.keep bA, Blk.new u1 _ _, HU1.out.2.1.keep bA, World.ownsRow_nil _ _ _ _, below_on HU1.out.2.2.2.2 (Nat.le_refl _) bA, ⟨by omega, by omega⟩, ?_⟩
    have := unseen_mono n (S := []) (S' := S0) (fun x hx => by cases hx)
    rw [unseen_nil] at this
    simpa using this
  go_upto_region 6 with fail
  refine wp_world (fun u => Hid (PO w u n (w.heap.size + 1 + 1) (w.heap.size + 1 + 1 + 1) w.heap.size u1.heap.size (w.heap.size + 1) (.slice (some ⟨g, o, none⟩) n c) (.slice none 0 0) S0 [])) HPO ?_
  intro U2 HU2
  clear HPO kF c9 f9 HU1
  obtain ⟨bw, hbw⟩ : ∃ bw, bw = u1.heap.size := ⟨_, rfl⟩
  rw [← hbw] at HU2 ⊢
  clear hbw
  go_wp2
  go_loopw [19] (fun i wr => ∃ (k : Nat) (V : Value) (S O : List Nat), k ≤ T.length ∧ i = .int .i64 k ∧ Hid (Vs E S0 [] (T.take k) S O ∧ PO w wr n (w.heap.size + 1 + 1) (w.heap.size + 1 + 1 + 1) w.heap.size bw (w.heap.size + 1) (.slice (some ⟨g, o, none⟩) n c) V S O)) (fun i _ => T.length - (intOf i).toNat)
  case atStart => exact ⟨0, _, S0, [], by omega, rfl, by simpa using Vs.nil S0 [], HU2.out⟩
  case round =>
    clear HU2
    obtain ⟨k, V, S, O, hk, rfl, HL⟩ := hrel
    by_cases hlt : k < T.length
    · have hltI : (k : Int) < (T.length : Int) := by omega
      obtain ⟨y, hy⟩ : ∃ y, T[k]? = some y := ⟨_, List.getElem?_eq_getElem hlt⟩
      have hyn : y < n := H.out.2.2.2.1 y (List.mem_of_getElem? hy)
      obtain ⟨ga, oa, rfl, _, y0⟩ := H.out.2.2.2.2.at_ hy
      replace y0 := bcell_keep HL.out.2.bel y0
      have f0 : wr.cell? ⟨bw, 0, none⟩ = some (.func (.func 164) #[] #[.pointer (some ⟨w.heap.size + 1 + 1 + 1, 0, none⟩), .pointer (some ⟨w.heap.size, 0, none⟩), .pointer (some ⟨bw, 0, none⟩), .pointer (some ⟨w.heap.size + 1, 0, none⟩)]) := HL.out.2.wb.cell 0
      have HT : Hid (T.take (k + 1) = T.take k ++ [y]) := by
        obtain ⟨hl, rfl⟩ := List.getElem?_eq_some_iff.1 hy
        exact List.take_succ_eq_append_getElem hl
      clear hy
      go_wp2_with fail
      refine (walk_any w g o c n (w.heap.size + 1 + 1) (w.heap.size + 1 + 1 + 1) w.heap.size bw (w.heap.size + 1) E hn H.out.2.1 H.out.2.2.1 H.out.1 _ S O y V wr rfl hyn HL.out.2 (fun _ => HL.out.2.len)).mono ?_
      rintro e u3 ⟨rfl, V3, S3, O3, hv3, hp3, hl3⟩
      have HN : Hid (Vs E S0 [] (T.take (k + 1)) S3 O3 ∧ PO w u3 n (w.heap.size + 1 + 1) (w.heap.size + 1 + 1 + 1) w.heap.size bw (w.heap.size + 1) (.slice (some ⟨g, o, none⟩) n c) V3 S3 O3) := by
        refine ⟨?_, hp3⟩
        rw [HT.out]
        exact HL.out.1.app hv3
      clear hv3 hp3 hl3 y0 f0
      go_wp2
      go_roundw
      case rel => exact ⟨k + 1, V3, S3, O3, by omega, by go_num, HN⟩
      case measure => simp [intOf]; omega
    · obtain rfl : k = T.length := by omega
      have l0 : wr.cell? ⟨w.heap.size + 1, 0, none⟩ = some V := HL.out.2.lb.cell 0
      have HF : Hid (Vs E S0 [] T S O) := by
        have := HL.out.1
        rw [List.take_of_length_le (Nat.le_refl _)] at this
        exact this
      go_wp2
      go_ret
      exact ⟨V, S, O, rfl, HF.out, HL.out.2.list, HL.out.2.bel⟩
end Go.Proofs.YtdfmdgbolmbffaaGreat
namespace Go.Proofs
open Go.Shelf
def Tryz.lReverse_ren : Go.Shelf.Ren := ⟨fun | 35 => 140 | n => n, fun | 22 => 48 | 23 => 2 | 3 => 3 | 4 => 4 | 0 => 0 | n => n, fun | n => n⟩
theorem Tryz.lReverse : Go.Proofs.SlLaysN.n35 Tryz.prog Tryz.lReverse_ren := {
  mixed := by kernel_rfl
  f35 := ⟨Tryz.f140.name, by decide, Tryz.func140.trans (congrArg some (by kernel_rfl))⟩
  t0 := Tryz.underlying0
  a0 := Tryz.isAgg0
  z0 := Tryz.sizeOf0
  v0 := Tryz.zeroValue0
  t3 := Tryz.underlying3
  a3 := Tryz.isAgg3
  z3 := Tryz.sizeOf3
  v3 := Tryz.zeroValue3
  t4 := Tryz.underlying4
  a4 := Tryz.isAgg4
  z4 := Tryz.sizeOf4
  v4 := Tryz.zeroValue4
  t22 := Tryz.underlying48
  a22 := Tryz.isAgg48
  z22 := Tryz.sizeOf48
  v22 := Tryz.zeroValue48
  t23 := Tryz.underlying2
  a23 := Tryz.isAgg2
  z23 := Tryz.sizeOf2
  v23 := Tryz.zeroValue2 }
def Tryz.lMul_ren : Go.Shelf.Ren := ⟨fun | 212 => 165 | 263 => 176 | 264 => 177 | n => n, fun | 46 => 213 | 51 => 98 | 146 => 226 | 53 => 228 | 148 => 229 | n => n, fun | n => n⟩
theorem Tryz.lMul : Go.Proofs.Lays.n212 Tryz.prog Tryz.lMul_ren := {
  mixed := by kernel_rfl
  f212 := Tryz.func165.trans (congrArg some (by kernel_rfl))
  f263 := Tryz.func176.trans (congrArg some (by kernel_rfl))
  f264 := Tryz.func177.trans (congrArg some (by kernel_rfl))
  t46 := Tryz.underlying213
  a46 := Tryz.isAgg213
  z46 := Tryz.sizeOf213
  v46 := Tryz.zeroValue213
  t51 := Tryz.underlying98
  a51 := Tryz.isAgg98
  z51 := Tryz.sizeOf98
  v51 := Tryz.zeroValue98
  t53 := Tryz.underlying228
  a53 := Tryz.isAgg228
  z53 := Tryz.sizeOf228
  v53 := Tryz.zeroValue228
  t146 := Tryz.underlying226
  a146 := Tryz.isAgg226
  z146 := Tryz.sizeOf226
  v146 := Tryz.zeroValue226
  t148 := Tryz.underlying229
  a148 := Tryz.isAgg229
  z148 := Tryz.sizeOf229
  v148 := Tryz.zeroValue229 }
end Go.Proofs
namespace Go.Proofs.YtdfmdgbolmbffaaGreat
open Go.ChangeShapes Go.WideShapes Go.ChangeAt Go.RowKit
set_option linter.unusedVariables false
theorem mul_any (x y : Nat) (hx : x < 18446744073709551616) (hy : y < 18446744073709551616) (w : World) :
    Calls Tryz.prog 165 #[.int .u64 x, .int .u64 y] w fun e w' => e = .returned (.tuple #[.int .u64 ((x * y / 18446744073709551616 : Nat) : Int), .int .u64 ((x * y % 18446744073709551616 : Nat) : Int)]) ∧ w' = w := by
  have h := Any.bits_Mul Tryz.lMul x y hx hy w
  exact h
theorem reverse_any (g cap : Nat) (zs : List Int) (w : World) (hH : Go.Sort.Holds (Value.int .i64) w g 0 zs.toArray) (hsz : zs.length ≤ 9223372036854775807) :
    Calls Tryz.prog 140 #[.slice (some ⟨g, 0, none⟩) zs.length cap] w fun e w' => e = .returned (.tuple #[]) ∧ ∃ n, w' = Go.Sort.putRow (Value.int .i64) (Go.Sort.ahead w n) g 0 zs.reverse.toArray := by
  have h := AnyG.slices_Reverse_int Tryz.lReverse g 0 cap zs w hH hsz
  exact h

/-- -1 at the first k places. -/
def repV (k n : Nat) : List Value := List.replicate k (.int .i64 (-1)) ++ List.replicate (n - k) (.int .i64 0)
theorem repV_length (k n : Nat) (h : k ≤ n) : (repV k n).length = n := by simp [repV]; omega
theorem repV_splice (k c n : Nat) (h : k + c ≤ n) : splice (repV k n) k (List.replicate c (.int .i64 (-1))) = repV (k + c) n := by
  unfold splice repV
  rw [List.take_left' (by simp), List.length_replicate, List.drop_append, List.drop_of_length_le (by simp), List.nil_append, List.length_replicate, List.drop_replicate, ← List.append_assoc, List.replicate_append_replicate]
  congr 2
  omega
theorem copy_rep (W : World) (G k n dl dc sl sc c : Nat) (ad : Addr) (hg : Blk W G (repV k n).toArray 2) (hc : c = Nat.min sl dl) (hsrc : ∀ j, j < c → W.cell? (ad.add j) = some (.int .i64 (-1))) (hkc : k + c ≤ n) :
    (Builtin.copy_ #[48, 48] 3 #[.slice (some ⟨G, k, none⟩) dl dc, .slice (some ad) sl sc]).run Tryz.prog W = .ok (.int .i64 (c : Int)) (W.setRow G (repV (k + c) n).toArray) := by
  obtain ⟨k0, hk, hx0, hx1, hx2⟩ := info_parts info64
  have h := run_copy_row (P := Tryz.prog) W 48 48 3 2 G k dl dc ad sl sc (repV k n).toArray 2 (List.replicate c (.int .i64 (-1))) Tryz.underlying48 (by rw [hk]; simp [hx1]) hg (by rw [List.length_replicate]; exact hc) (fun j v hj => by
    obtain ⟨h1, h2⟩ := List.getElem?_eq_some_iff.1 hj
    rw [List.length_replicate] at h1
    rw [hsrc j h1, ← h2]
    simp) (by rw [List.length_replicate, List.size_toArray, repV_length k n (by omega)]; exact hkc) (fun v hv => by rw [(List.mem_replicate.1 hv).2]; rfl)
  rw [h]
  have e := repV_splice k c n hkc
  unfold splice at e
  simp only [List.length_replicate] at e ⊢
  rw [List.append_assoc, e]
  rfl
theorem rep_at (k n i : Nat) (h : i < k) (hk : k ≤ n) : (repV k n).toArray[i]? = some (.int .i64 (-1)) := by
  rw [List.getElem?_toArray]
  unfold repV
  rw [List.getElem?_append_left (by simpa using h)]
  simp [h]
theorem made_rep {W : World} {B G n : Nat} (h : W.ownsRow B 2 1 (.slice (some ⟨G, 0, none⟩) n n) n (madeCells (Value.int .i64 0).cells (n * 1)).toList) : Blk W G (repV 0 n).toArray 2 := by
  rcases h.2 with ⟨h', _⟩ | ⟨g', cap', cur, h', hb, hg, h3, h4, h5, h6⟩
  · cases h'
  · cases h'
    have e : cur = (repV 0 n).toArray := by
      rw [made_int n (fun _ => []) []] at h6
      rw [List.take_of_length_le (by simp [h5])] at h6
      apply Array.toList_inj.1
      rw [h6]
      simp [flatTo, repV, List.flatten_replicate_singleton]
    rw [← e]
    exact hg
theorem setRow_blk {W : World} {G : Nat} {cur new : Array Value} {t : TypeId} (h : Blk W G cur t) : Blk (W.setRow G new) G new t := setRow_heap W G _ _ t _ h
set_option maxHeartbeats 4000000 in
set_option maxRecDepth 100000 in
theorem repeat_any (g n : Nat) (w : World) (h1 : 1 ≤ n) (hn : n ≤ 1024) (h : w.cell? ⟨g, 0, none⟩ = some (.int .i64 (-1))) :
    Calls Tryz.prog 142 #[.slice (some ⟨g, 0, none⟩) 1 1, .int .i64 (n : Int)] w fun e w' => ∃ g', e = .returned (.slice (some ⟨g', 0, none⟩) n n) ∧ w'.ownsRow w.heap.size 2 1 (.slice (some ⟨g', 0, none⟩) n n) n (List.replicate n (.int .i64 (-1))) ∧ Below w.heap.size w w' := by
  obtain ⟨k0, hk, hx0, hx1, hx2⟩ := info_parts info64
  have hnI : ¬ (n : Int) < 0 := by omega
  have hn2 : (n : Int) ≤ 1024 := by omega
  have hm1 : 1 * n / 18446744073709551616 = 0 := by omega
  have hm2 : 1 * n % 18446744073709551616 = n := by omega
  have HM : Hid (∀ U : World, Calls Tryz.prog 165 #[.int .u64 1, .int .u64 (n : Int)] U fun e w' => e = .returned (.tuple #[.int .u64 0, .int .u64 (n : Int)]) ∧ w' = U) := fun U => by
    have := mul_any 1 n (by omega) (by omega) U
    rw [hm1, hm2] at this
    exact this
  clear hm1 hm2
  go_enter Tryz.func142, Tryz.ntmps142
  go_wp2_with fail
  refine (HM.out w).mono ?_
  rintro e u ⟨rfl, rfl⟩
  have hgt : g < u.heap.size := block_lt_of_cell h
  have HOC : Hid (u.cell? ⟨g, 0, none⟩ = some (.int .i64 (-1))) := h
  clear h
  go_upto_region 7 with (at_make; refine wpList_make_full _ rfl _ _ 48 rfl u.heap.size 2 k0 (.int .i64 0) 1 Tryz.underlying48 hk hx0 hx1 .i64 .i64 _ _ n rfl rfl rfl rfl (by rw [hx2]; omega) (by unfold maxLen; omega) (Nat.le_refl _) ?_; intro w3 hown hgrow)
  have hb3 : Below u.heap.size u w3 := (Below.refl _ _).grown hgrow (Nat.le_refl _) (fun k hk => by cases hk)
  have k3 : Blk w3 u.heap.size (repV 0 n).toArray 2 := made_rep hown
  have hcp := copy_rep w3 u.heap.size 0 n n n 1 1 1 ⟨g, 0, none⟩ k3 (by simp [Nat.min_def]; omega) (fun j hj => by
    obtain rfl : j = 0 := by omega
    rw [add_at]
    exact bcell_keep hb3 HOC.out) (by omega)
  have HB4 : Hid (Blk (w3.setRow u.heap.size (repV (0 + 1) n).toArray) u.heap.size (repV (0 + 1) n).toArray 2 ∧ Below u.heap.size u (w3.setRow u.heap.size (repV (0 + 1) n).toArray)) := ⟨setRow_blk k3, below_setRow hb3 (Nat.le_refl _) _⟩
  clear hown hgrow hb3 k3
  rw [Nat.zero_add] at hcp HB4
  obtain ⟨W4, hW4⟩ : ∃ W, W = w3.setRow u.heap.size (repV 1 n).toArray := ⟨_, rfl⟩
  rw [← hW4] at hcp HB4
  clear hW4
  obtain ⟨G, hG⟩ : ∃ G, G = u.heap.size := ⟨_, rfl⟩
  rw [← hG] at hcp HB4 ⊢
  have HGG : Hid (G = u.heap.size) := hG
  clear hG
  go_wp2
  go_loopw [8] (fun i wr => ∃ k : Nat, 1 ≤ k ∧ k ≤ n ∧ i = .int .i64 (k : Int) ∧ Hid (Blk wr G (repV k n).toArray 2 ∧ Below u.heap.size u wr)) (fun i _ => n - (intOf i).toNat)
  case atStart => exact ⟨1, by omega, h1, rfl, by rw [← HGG.out]; exact HB4⟩
  case round =>
    clear HB4 hcp
    obtain ⟨k, hk1, hkn, rfl, HL⟩ := hrel
    by_cases hlt : k < n
    · have hltI : (k : Int) < (n : Int) := by omega
      have kD := HL.out.1.keep (below_drew1 wr)
      have bD := below_on HL.out.2 (Nat.le_refl _) (below_drew1 wr)
      obtain ⟨c, hc⟩ : ∃ c, c = Nat.min k (n - k) := ⟨_, rfl⟩
      have hcl : 1 ≤ c ∧ c ≤ k ∧ k + c ≤ n := by
        have e : c = min k (n - k) := hc
        omega
      have hcp := copy_rep wr.drew G k n (n - k) (n - k) k n c ⟨G, 0, none⟩ kD hc (fun j hj => by
        rw [add_at, Nat.zero_add, kD.cell j]
        exact rep_at k n j (by omega) (by omega)) (by omega)
      have HN : Hid (Blk (wr.drew.setRow G (repV (k + c) n).toArray) G (repV (k + c) n).toArray 2 ∧ Below u.heap.size u (wr.drew.setRow G (repV (k + c) n).toArray)) := ⟨setRow_blk kD, below_setRow bD (by rw [HGG.out]; exact Nat.le_refl _) _⟩
      clear kD bD hc
      go_wp2
      go_region
      refine with_world (fun x => Hid (Blk x G (repV (k + c) n).toArray 2 ∧ Below u.heap.size u x)) HN ?_
      intro U HU
      clear HN hcp
      go_wp2
      go_roundw
      case rel => exact ⟨k + c, by omega, by omega, by go_num, HU⟩
      case measure => simp [intOf]; omega
    · obtain rfl : k = n := by omega
      have HE : Hid (wr.ownsRow u.heap.size 2 1 (.slice (some ⟨G, 0, none⟩) k k) k (List.replicate k (.int .i64 (-1)))) := by
        refine ⟨by simp, .inr ⟨G, k, (repV k k).toArray, rfl, by rw [HGG.out]; exact Nat.le_refl _, HL.out.1, Nat.le_refl _, by unfold maxLen; omega, by simp [repV], by simp [repV]⟩⟩
      go_wp2
      go_ret
      exact ⟨G, rfl, HE.out, HL.out.2⟩
end Go.Proofs.YtdfmdgbolmbffaaGreat
namespace Go.Proofs.YtdfmdgbolmbffaaGreat
open Go.ChangeShapes Go.WideShapes Go.ChangeAt Go.RowKit
set_option linter.unusedVariables false
def zv (I : Nat → Int) (n : Nat) : List Value := (List.range n).map fun i => Value.int .i64 (I i)
theorem zv_length (I : Nat → Int) (n : Nat) : (zv I n).length = n := by simp [zv]
theorem zv_at (I : Nat → Int) (n i : Nat) (h : i < n) : (zv I n)[i]? = some (.int .i64 (I i)) := by simp [zv, h]
theorem zv_set {I J : Nat → Int} {n i : Nat} {x : Int} (h : ∀ j, J j = if j = i then x else I j) : (zv I n).set i (.int .i64 x) = zv J n := by
  apply List.ext_getElem?
  intro j
  by_cases hj : j < n
  · rw [zv_at _ _ _ hj, h j]
    by_cases e : j = i
    · subst e
      rw [List.getElem?_set_self (by rw [zv_length]; exact hj), if_pos rfl]
    · rw [List.getElem?_set_ne (by omega), zv_at _ _ _ hj, if_neg e]
  · rw [List.getElem?_eq_none (by simp [zv_length]; omega), List.getElem?_eq_none (by rw [zv_length]; omega)]
theorem zv_rep (n : Nat) : List.replicate n (Value.int .i64 (-1)) = zv (fun _ => -1) n := by
  apply List.ext_getElem?
  intro j
  by_cases hj : j < n
  · rw [zv_at _ _ _ hj]
    simp [hj]
  · rw [List.getElem?_eq_none (by simp; omega), List.getElem?_eq_none (by rw [zv_length]; omega)]
theorem zv_flat (I : Nat → Int) (n : Nat) : zv I n = ((List.range n).map I).flatMap intCell := by
  unfold zv
  rw [List.flatMap_map]
  induction List.range n with
  | nil => rfl
  | cons x r ih => simp [intCell, ih]
/-- A graph whose idom turns: but for its own block, all that was there is as it was. -/
structure DW (w u : World) (G n : Nat) (A : Array Value) (gi : Nat) (I : Nat → Int) : Prop where
  blk : ∃ x0 x1 x2 x3, A = #[x0, x1, x2, x3] ∧ Blk u G #[x0, x1, x2, x3, .slice (some ⟨gi, 0, none⟩) n n] 176
  row : u.ownsRow w.heap.size 2 1 (.slice (some ⟨gi, 0, none⟩) n n) n (zv I n)
  fx : ∀ k, k < w.heap.size → k ≠ G → u.heap[k]? = w.heap[k]?
  bel : Below G w u
  size : w.heap.size ≤ u.heap.size
  lt : G < w.heap.size
theorem DW.keep {w u u' : World} {G n gi : Nat} {A : Array Value} {I : Nat → Int} (h : DW w u G n A gi I) (hb : Below u.heap.size u u') : DW w u' G n A gi I := by
  obtain ⟨x0, x1, x2, x3, e, k⟩ := h.blk
  exact ⟨⟨x0, x1, x2, x3, e, k.keep hb⟩, own_keep h.row hb (Nat.le_refl _), fun k hk hne => by rw [hb.block k (Nat.lt_of_lt_of_le hk h.size)]; exact h.fx k hk hne, h.bel.trans (hb.mono (by have := h.lt; have := h.size; omega)), Nat.le_trans h.size hb.size, h.lt⟩
theorem DW.cell {w u : World} {G n gi : Nat} {A : Array Value} {I : Nat → Int} (h : DW w u G n A gi I) {a : Addr} {x : Value} (hb : w.cell? a = some x) (hne : a.block ≠ G) : u.cell? a = some x := by
  have := h.fx a.block (block_lt_of_cell hb) hne
  unfold World.cell? at *
  rw [this]
  exact hb
theorem DW.set {w u : World} {G n gi : Nat} {A : Array Value} {I J : Nat → Int} (h : DW w u G n A gi I) (b : Nat) (x : Int) (hJ : ∀ j, J j = if j = b then x else I j) : DW w (u.setCell ⟨gi, b, none⟩ (.int .i64 x)) G n A gi J := by
  obtain ⟨x0, x1, x2, x3, e, k⟩ := h.blk
  have hge := (own_blk h.row).1
  have hlt := h.lt
  refine ⟨⟨x0, x1, x2, x3, e, k.other (by simp only []; omega) _⟩, ?_, fun k hk hne => ?_, h.bel.setCell (by simp only []; omega) _, by rw [World.size_setCell]; exact h.size, h.lt⟩
  · have := (h.row.stored b (.int .i64 x)).1
    rw [zv_set hJ] at this
    exact this
  · rw [heap_setCell_other u _ k _ (by simp only []; omega)]
    exact h.fx k hk hne
/-- What a pass over the order holds. -/
structure PassI (E : Nat → List Nat) (n : Nat) (pl : Nat → Nat) (k j : Nat) (I : Nat → Int) : Prop where
  dinv : DInv E n pl I
  uinv : UInv E n pl I k j
  kn : ∀ x, x < n → pl x < j → Kn I x
  all : k = 0 ∨ ∀ x, x < n → Kn I x
  z : I 0 = -1
theorem PassI.step {E : Nat → List Nat} {n : Nat} {pl : Nat → Nat} {k j b : Nat} {I J : Nat → Int} {z : Int} (hP : Place E n pl) (h : PassI E n pl k j I) (hb : b < n) (hb0 : b ≠ 0) (hj : pl b = j) (hc : CommonIs n I (fromL E n b) z) (hJ : ∀ y, J y = if y = b then z else I y) : PassI E n pl k (j + 1) J := by
  subst hj
  have hps := fromL_preds E n b
  obtain ⟨m, h1, h2, h3, h4, h5⟩ := common_up hP h.dinv hb hb0 hps h.kn hc
  have hJ1 : ∀ y, y ≠ b → I y = J y := fun y hy => by rw [hJ y, if_neg hy]
  have hJb : J b = (m : Int) := by rw [hJ b, if_pos rfl, h1]
  obtain ⟨d1, d2, d3, d4⟩ := h.dinv.set hP hb hb0 hps h.kn h2 h3 h4 h5 hJ1 hJb
  refine ⟨d1, h.uinv.set hP h.dinv hb hb0 hps h.kn h.all h2 h3 h4 h5 hJ1 hJb, fun x hx hl => ?_, h.all.imp id fun q x hx => d2 x (q x hx), ?_⟩
  · by_cases e : x = b
    · subst e; exact .inr (by rw [hJb]; omega)
    · refine d2 x (h.kn x hx ?_)
      have := hP.inj x b hx hb
      omega
  · rw [hJ 0, if_neg (Ne.symm hb0)]
    exact h.z
/-- What holds where nothing turns any more. -/
structure DoneI (E : Nat → List Nat) (n : Nat) (pl : Nat → Nat) (I : Nat → Int) : Prop where
  dinv : DInv E n pl I
  all : ∀ x, x < n → Kn I x
  dom : ∀ d x, x < n → (Anc I d x ↔ Dom E d x)
  z : I 0 = -1
end Go.Proofs.YtdfmdgbolmbffaaGreat
