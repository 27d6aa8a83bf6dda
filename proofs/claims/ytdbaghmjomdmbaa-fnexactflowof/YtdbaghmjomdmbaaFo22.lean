import Derived.Test.YtdbaghmjomdmbaaFo21
namespace Go.Proofs.Ytdbaghmjomdmbaa
open Go.ChangeShapes Go.WideShapes Go.ChangeAt Go.RowKit
set_option linter.unusedVariables false
theorem run_store_func (P : Program) (w : World) (a : Addr) (m : Mode) (f : Fn) (x y : Array Value) : (store a (.func f x y) m).run P w = stored P w a (.func f x y) m := run_store P w a _ m rfl
set_option maxHeartbeats 8000000 in
set_option maxRecDepth 100000 in
theorem postorder_any (g o c n : Nat) (E : Nat → List Nat) (sv : Value) (T : List Nat) (bv_ : Value) (S0 : List Nat) (w : World) (hn : n ≤ 1024) (hE : ∀ b, b < n → ∀ x ∈ E b, x < n) (hsz : ∀ b, (E b).length ≤ 2048) (h : EdAt w g o n E) (hT : ∀ x ∈ T, x < n) (hTl : T.length ≤ 4096) (hs : RdN w sv T) (hS : (bv_ = .slice none 0 0 ∧ S0 = []) ∨ ∃ x gx cx : Nat, S0 = [x] ∧ x < n ∧ bv_ = .slice (some ⟨gx, 0, none⟩) 1 cx ∧ w.cell? ⟨gx, 0, none⟩ = some (.int .i64 (x : Int))) :
    Calls Try.prog 52 #[.slice (some ⟨g, o, none⟩) n c, sv, bv_] w fun e w' => ∃ V S O, e = .returned V ∧ Vs E S0 [] T S O ∧ OwN w' w.heap.size V O ∧ Below w.heap.size w w' := by
  have H : Hid (EdAt w g o n E ∧ (∀ b, b < n → ∀ x ∈ E b, x < n) ∧ (∀ b, (E b).length ≤ 2048) ∧ (∀ x ∈ T, x < n) ∧ RdN w sv T) := ⟨h, hE, hsz, hT, hs⟩
  obtain ⟨at_, ct, rfl⟩ := Rd.is_slice hs
  clear h hE hsz hT hs
  have hmm := @run_makeMap Try.prog
  have hmf : ∀ (fn : Fn) (first cap : Array Value) (w : World), (Instr.makeFunc fn first cap).run Try.prog w = .ok (.func fn first cap) w := fun _ _ _ _ => rfl
  go_enter Try.func52, Try.ntmps52
  go_upto_region 3 with fail
  refine wp_world (fun u => Hid (Blk u w.heap.size #[.slice (some ⟨g, o, none⟩) n c] 68 ∧ Blk u (w.heap.size + 1) #[.slice none 0 0] 33 ∧ SetAt u (w.heap.size + 1 + 1) 0 (.map []) ∧ Blk u (w.heap.size + 1 + 1 + 1) #[.map (some (w.heap.size + 1 + 1))] 79 ∧ Below w.heap.size w u)) ?_ ?_
  · have b1 := below_alloc w (.cells #[.slice (some ⟨g, o, none⟩) n c] 68)
    have k1 := Blk.new w #[.slice (some ⟨g, o, none⟩) n c] 68
    have z1 : (w.alloc (.cells #[.slice (some ⟨g, o, none⟩) n c] 68)).heap.size = w.heap.size + 1 := by simp
    generalize w.alloc (.cells #[.slice (some ⟨g, o, none⟩) n c] 68) = W1 at b1 k1 z1 ⊢
    have b2 := below_alloc W1 (.cells #[.slice none 0 0] 33)
    have k2 := Blk.new W1 #[.slice none 0 0] 33
    have z2 : (W1.alloc (.cells #[.slice none 0 0] 33)).heap.size = w.heap.size + 1 + 1 := by simp [z1]
    rw [z1] at k2
    generalize W1.alloc (.cells #[.slice none 0 0] 33) = W2 at b2 k2 z2 ⊢
    have b3 := below_alloc W2 (.map #[] 0)
    have k3 : SetAt (W2.alloc (.map #[] 0)) W2.heap.size 0 (.map []) := World.ownsMap_made _ _ _ _
    have z3 : (W2.alloc (.map #[] 0)).heap.size = w.heap.size + 1 + 1 + 1 := by simp [z2]
    rw [z2] at k3
    generalize W2.alloc (.map #[] 0) = W3 at b3 k3 z3 ⊢
    have b4 := below_alloc W3 (.cells #[.map (some (w.heap.size + 1 + 1))] 79)
    have k4 := Blk.new W3 #[.map (some (w.heap.size + 1 + 1))] 79
    rw [z3] at k4
    exact ⟨((k1.keep b2).keep b3).keep b4, (k2.keep b3).keep b4, k3.keep b4, k4, below_on (below_on (below_on b1 (Nat.le_refl _) b2) (Nat.le_refl _) b3) (Nat.le_refl _) b4⟩
  intro U0 HU0
  have s0 : U0.cell? ⟨w.heap.size + 1 + 1 + 1, 0, none⟩ = some (.map (some (w.heap.size + 1 + 1))) := HU0.out.2.2.2.1.cell 0
  have HAD : Hid (Calls Try.prog 46 #[.map (some (w.heap.size + 1 + 1)), bv_] U0 fun e u' => e = .returned (.tuple #[]) ∧ (∃ cnt D, SetAt u' (w.heap.size + 1 + 1) cnt D ∧ cnt + unseen S0 n ≤ n + 1 ∧ ∀ x : Nat, Go.Maps.has D (.int .i64 (x : Int)) = S0.contains x) ∧ U0.grownBy u' (some (w.heap.size + 1 + 1))) := by
    rcases hS with ⟨rfl, rfl⟩ | ⟨x, gx, cx, rfl, hx, rfl, hc⟩
    · refine (add_none _ U0).mono ?_
      rintro e u' ⟨rfl, rfl⟩
      exact ⟨rfl, ⟨0, .map [], HU0.out.2.2.1, by rw [unseen_nil]; omega, fun x => rfl⟩, ⟨rfl, rfl, rfl, Nat.le_refl _, fun _ _ _ => rfl⟩⟩
    · refine (add_one _ 0 gx cx _ (x : Int) U0 (w64_nat (by omega)) (by omega) (bcell_keep HU0.out.2.2.2.2 hc) (by have := block_lt_of_cell hc; simp only [] at this; omega) HU0.out.2.2.1).mono ?_
      rintro e u' ⟨rfl, h1, h2⟩
      refine ⟨rfl, ⟨_, _, h1, ?_, fun y => ?_⟩, h2⟩
      · have := unseen_cons [] n x hx (by simp)
        rw [unseen_nil] at this
        omega
      · rw [has_put _ (World.ownsMap.isMap HU0.out.2.2.1)]
        by_cases e : y = x
        · subst e; simp
        · have : ¬ (y : Int) = (x : Int) := by omega
          simp [e, this]
          rfl
  clear hS
  go_wp2_with fail
  refine HAD.out.mono ?_
  rintro e u1 ⟨rfl, hset, hg1⟩
  have HU1 : Hid (Blk u1 w.heap.size #[.slice (some ⟨g, o, none⟩) n c] 68 ∧ Blk u1 (w.heap.size + 1) #[.slice none 0 0] 33 ∧ (∃ cnt D, SetAt u1 (w.heap.size + 1 + 1) cnt D ∧ cnt + unseen S0 n ≤ n + 1 ∧ ∀ x : Nat, Go.Maps.has D (.int .i64 (x : Int)) = S0.contains x) ∧ Blk u1 (w.heap.size + 1 + 1 + 1) #[.map (some (w.heap.size + 1 + 1))] 79 ∧ Below w.heap.size w u1) := ⟨HU0.out.1.gb hg1 (by simp; omega), HU0.out.2.1.gb hg1 (by simp), hset, HU0.out.2.2.2.1.gb hg1 (by simp), HU0.out.2.2.2.2.grown hg1 HU0.out.2.2.2.2.size (fun j hj => by cases hj; omega)⟩
  clear hset hg1 HAD HU0 s0
  have hsf := @run_store_func Try.prog
  have kF := Blk.new u1 #[.nilFunc] 93
  have c9 : (u1.alloc (.cells #[.nilFunc] 93)).cell? ⟨u1.heap.size, 0, none⟩ = some .nilFunc := kF.cell 0
  have f9 := kF.frozen 0
  have HPO : Hid (PO w (u1.alloc (.cells #[.func (.func 61) #[] #[.pointer (some ⟨w.heap.size + 1 + 1 + 1, 0, none⟩), .pointer (some ⟨w.heap.size, 0, none⟩), .pointer (some ⟨u1.heap.size, 0, none⟩), .pointer (some ⟨w.heap.size + 1, 0, none⟩)]] 93)) n (w.heap.size + 1 + 1) (w.heap.size + 1 + 1 + 1) w.heap.size u1.heap.size (w.heap.size + 1) (.slice (some ⟨g, o, none⟩) n c) (.slice none 0 0) S0 []) := by
    have bA := below_alloc u1 (.cells #[walkV (w.heap.size + 1 + 1 + 1) w.heap.size u1.heap.size (w.heap.size + 1)] 93)
    obtain ⟨cnt, D, h1, h2, h3⟩ := HU1.out.2.2.1
    refine ⟨⟨cnt, D, h1.keep bA, h2, h3⟩, HU1.out.2.2.2.1.keep bA, HU1.out.1.keep bA, Blk.new u1 _ _, HU1.out.2.1.keep bA, World.ownsRow_nil _ _ _ _, below_on HU1.out.2.2.2.2 (Nat.le_refl _) bA, ⟨by omega, by omega⟩, ?_⟩
    have := unseen_mono n (S := []) (S' := S0) (fun x hx => by cases hx)
    rw [unseen_nil] at this
    simpa using this
  go_upto_region 6 with fail
  refine wp_world (fun u => Hid (PO w u n (w.heap.size + 1 + 1) (w.heap.size + 1 + 1 + 1) w.heap.size u1.heap.size (w.heap.size + 1) (.slice (some ⟨g, o, none⟩) n c) (.slice none 0 0) S0 [])) HPO ?_
  intro U2 HU2
  clear HPO kF c9 f9 HU1
  obtain ⟨bw, hbw⟩ : ∃ bw, bw = u1.heap.size := ⟨_, rfl⟩
  rw [← hbw] at HU2 ⊢
  clear hbw
  go_wp2
  go_loopw [19] (fun i wr => ∃ (k : Nat) (V : Value) (S O : List Nat), k ≤ T.length ∧ i = .int .i64 k ∧ Hid (Vs E S0 [] (T.take k) S O ∧ PO w wr n (w.heap.size + 1 + 1) (w.heap.size + 1 + 1 + 1) w.heap.size bw (w.heap.size + 1) (.slice (some ⟨g, o, none⟩) n c) V S O)) (fun i _ => T.length - (intOf i).toNat)
  case atStart => exact ⟨0, _, S0, [], by omega, rfl, by simpa using Vs.nil S0 [], HU2.out⟩
  case round =>
    clear HU2
    obtain ⟨k, V, S, O, hk, rfl, HL⟩ := hrel
    by_cases hlt : k < T.length
    · have hltI : (k : Int) < (T.length : Int) := by omega
      obtain ⟨y, hy⟩ : ∃ y, T[k]? = some y := ⟨_, List.getElem?_eq_getElem hlt⟩
      have hyn : y < n := H.out.2.2.2.1 y (List.mem_of_getElem? hy)
      obtain ⟨ga, oa, rfl, _, y0⟩ := H.out.2.2.2.2.at_ hy
      replace y0 := bcell_keep HL.out.2.bel y0
      have f0 : wr.cell? ⟨bw, 0, none⟩ = some (.func (.func 61) #[] #[.pointer (some ⟨w.heap.size + 1 + 1 + 1, 0, none⟩), .pointer (some ⟨w.heap.size, 0, none⟩), .pointer (some ⟨bw, 0, none⟩), .pointer (some ⟨w.heap.size + 1, 0, none⟩)]) := HL.out.2.wb.cell 0
      have HT : Hid (T.take (k + 1) = T.take k ++ [y]) := by
        obtain ⟨hl, rfl⟩ := List.getElem?_eq_some_iff.1 hy
        exact List.take_succ_eq_append_getElem hl
      clear hy
      go_wp2_with fail
      refine (walk_any w g o c n (w.heap.size + 1 + 1) (w.heap.size + 1 + 1 + 1) w.heap.size bw (w.heap.size + 1) E hn H.out.2.1 H.out.2.2.1 H.out.1 _ S O y V wr rfl hyn HL.out.2 (fun _ => HL.out.2.len)).mono ?_
      rintro e u3 ⟨rfl, V3, S3, O3, hv3, hp3, hl3⟩
      have HN : Hid (Vs E S0 [] (T.take (k + 1)) S3 O3 ∧ PO w u3 n (w.heap.size + 1 + 1) (w.heap.size + 1 + 1 + 1) w.heap.size bw (w.heap.size + 1) (.slice (some ⟨g, o, none⟩) n c) V3 S3 O3) := by
        refine ⟨?_, hp3⟩
        rw [HT.out]
        exact HL.out.1.app hv3
      clear hv3 hp3 hl3 y0 f0
      go_wp2
      go_roundw
      case rel => exact ⟨k + 1, V3, S3, O3, by omega, by go_num, HN⟩
      case measure => simp [intOf]; omega
    · obtain rfl : k = T.length := by omega
      have l0 : wr.cell? ⟨w.heap.size + 1, 0, none⟩ = some V := HL.out.2.lb.cell 0
      have HF : Hid (Vs E S0 [] T S O) := by
        have := HL.out.1
        rw [List.take_of_length_le (Nat.le_refl _)] at this
        exact this
      go_wp2
      go_ret
      exact ⟨V, S, O, rfl, HF.out, HL.out.2.list, HL.out.2.bel⟩
end Go.Proofs.Ytdbaghmjomdmbaa
