import Derived.Test.YtnemieeeappgnaaGreatDoorDc6
import Derived.Test.YtnemieeeappgnaaGreatDoorDc10
import Derived.Deep.DeepCutAuto
import Derived.Deep.RegionHeld
import Derived.Laws.AppendOwn
namespace Go.Proofs.YtnemieeeappgnaaGreatDoor
open Go.ChangeShapes Go.WideShapes Go.ChangeAt Go.RowKit
set_option linter.unusedVariables false
/-- The reader: its bytes, where it stands, whether it is spoilt; its bytes lie below B. -/
structure InAt (w : World) (B I L : Nat) (a : Option Addr) (c : Nat) (zs : List Int) (k : Nat) (bad : Bool) : Prop where
  blk : Blk w I #[.slice a L c, .int .i64 (k : Int), .bool bad] 45
  rd : ∀ u, Below B w u → Reads u (.slice a L c) L (zs.map (Value.int .u8))
  big : L ≤ 1048576
  at_ : k ≤ L
  hB : B ≤ I
  hz : AllB zs
theorem InAt.len {w : World} {B I L : Nat} {a : Option Addr} {c : Nat} {zs : List Int} {k : Nat} {bad : Bool} (h : InAt w B I L a c zs k bad) : zs.length = L := by
  have := (h.rd w (Below.refl _ _)).1
  simpa using this
theorem InAt.lt {w : World} {B I L : Nat} {a : Option Addr} {c : Nat} {zs : List Int} {k : Nat} {bad : Bool} (h : InAt w B I L a c zs k bad) : I < w.heap.size := h.blk.lt
theorem InAt.low {w u : World} {B I L : Nat} {a : Option Addr} {c : Nat} {zs : List Int} {k : Nat} {bad : Bool} (h : InAt w B I L a c zs k bad) (hb : Below B w u) {k' : Nat} {bad' : Bool} (hk : k' ≤ L) (hblk : Blk u I #[.slice a L c, .int .i64 (k' : Int), .bool bad'] 45) : InAt u B I L a c zs k' bad' := ⟨hblk, fun v hv => h.rd v (hb.trans hv), h.big, hk, h.hB, h.hz⟩
theorem InAt.keep {w u : World} {B I L : Nat} {a : Option Addr} {c : Nat} {zs : List Int} {k : Nat} {bad : Bool} (h : InAt w B I L a c zs k bad) (hb : Below w.heap.size w u) : InAt u B I L a c zs k bad := h.low (hb.mono (by have := h.hB; have := h.lt; omega)) h.at_ (h.blk.keep hb)
/-- What a call that reads leaves: the reader has gone on, or is spoilt; all else is as it was. -/
structure GotAt (w u : World) (B I L : Nat) (a : Option Addr) (c : Nat) (zs : List Int) (k : Nat) (bad : Bool) : Prop where
  at_ : InAt u B I L a c zs k bad
  chg : Chg (fun j => j = I) w u
theorem GotAt.below {w u : World} {B I L : Nat} {a : Option Addr} {c : Nat} {zs : List Int} {k k' : Nat} {bad bad' : Bool} (h : GotAt w u B I L a c zs k bad) (h0 : InAt w B I L a c zs k' bad') : Below B w u := h.chg.below (by have := h0.hB; have := h0.lt; omega) (fun j hj e => by have := h0.hB; omega)
theorem three_cells {u : World} {X : Nat} {x0 x1 x2 : Value} {t : TypeId} (h : Blk u X #[x0, x1, x2] t) : u.cell? ⟨X, 0, none⟩ = some x0 ∧ u.cell? ⟨X, 1, none⟩ = some x1 ∧ u.cell? ⟨X, 2, none⟩ = some x2 := ⟨h.cell 0, h.cell 1, h.cell 2⟩
/-- What GetNumber tells at a place. -/
def NumIs (zs : List Int) (n k : Nat) (g : Bool) (x : Int) : Prop := (g = true ∧ numR zs n k = some (x, k + n)) ∨ (g = false ∧ numR zs n k = none ∧ x = 0)
theorem getNum_any {w : World} {B I L : Nat} {a : Option Addr} {c : Nat} {zs : List Int} {k : Nat} {bad : Bool} (h : InAt w B I L a c zs k bad) (n : Nat) (h1 : 1 ≤ n) (h8 : n ≤ 8) : ∃ g x, NumIs zs n k g x ∧ ∀ u, Below B w u → Calls Tryz.prog 12 #[.slice a L c, .int .i64 (k : Int), .int .i64 (n : Int)] u fun e u' => e = .returned (.agg #[.bool g, .int .i64 x]) ∧ Below u.heap.size u u' := by
  have hl := h.len
  by_cases hin : k + n ≤ L
  · exact ⟨true, wrap64 (getAcc zs k n), .inl ⟨rfl, by unfold numR; rw [if_pos (by omega)]⟩, fun u hu => SGetNumber_in (.slice a L c) L zs k n u h.big (h.rd u hu) h1 h8 hin⟩
  · exact ⟨false, 0, .inr ⟨rfl, by unfold numR; rw [if_neg (by omega)], rfl⟩, fun u hu => SGetNumber_bad a L c k n u h.big (by omega)⟩
set_option maxHeartbeats 4000000 in
set_option maxRecDepth 100000 in
theorem l3Get_any (B I L : Nat) (a : Option Addr) (c : Nat) (zs : List Int) (n k : Nat) (bad : Bool) (w : World) (h1 : 1 ≤ n) (h8 : n ≤ 8) (h : InAt w B I L a c zs k bad) :
    Calls Tryz.prog 22 #[.pointer (some ⟨I, 0, none⟩), .int .i64 (n : Int)] w fun e w' => ∃ (v : Int) (k' : Nat) (bad' : Bool), e = .returned (.int .i64 v) ∧ (bad' = true → v = 0) ∧ Reads' (numR zs n) k bad v k' bad' ∧ GotAt w w' B I L a c zs k' bad' := by
  obtain ⟨g, x, hnum, hcall⟩ := getNum_any h n h1 h8
  have hk := h.at_
  have hn2 := h.big
  have HC : Hid (∀ u, Below B w u → Calls Tryz.prog 12 #[.slice a L c, .int .i64 (k : Int), .int .i64 (n : Int)] u fun e u' => e = .returned (.agg #[.bool g, .int .i64 x]) ∧ Below u.heap.size u u') := hcall
  have HN : Hid (NumIs zs n k g x) := hnum
  have H : Hid (InAt w B I L a c zs k bad) := h
  have hIl := h.lt
  have hBI := h.hB
  clear hcall hnum h
  go_enter Tryz.func22, Tryz.ntmps22
  go_upto_region 1 with fail
  go_cut [5] (fun s wx => ∃ X, s = .pointer (some ⟨X, 0, none⟩) ∧ Hid (Blk wx X #[.bool g, .int .i64 x] 39 ∧ Below w.heap.size w wx ∧ w.heap.size ≤ X))
  case first =>
    have KS : ∀ u, Blk u I #[.slice a L c, .int .i64 (k : Int), .bool bad] 45 → (u.cell? ⟨I, 0, none⟩ = some (.slice a L c) ∧ u.cell? ⟨I, 1, none⟩ = some (.int .i64 (k : Int))) := fun u h => ⟨h.cell 0, h.cell 1⟩
    have HR : Hid (Below w.heap.size w w.drew) := below_drew1 _
    refine wp_region_held_drew (S := fun w' => w'.cell? ⟨I, 0, none⟩ = some (.slice a L c) ∧ w'.cell? ⟨I, 1, none⟩ = some (.int .i64 (k : Int))) (by kernel_rfl) (KS _ (H.out.blk.keep HR.out)) (fun hHeld => ?_)
    generalize w.drew = UD at HR hHeld ⊢
    iterate 1
      refine wpAnyH_take (i := 0) (v := ?_) rfl (by kernel_rfl) (by kernel_rfl) (by kernel_rfl) (fun _ _ _ h => h) (Or.inl ⟨by rfl, ?_⟩) (by assumption) ?_
      rotate_left
      · (intro w hSw; (try dsimp only at hSw); go_simp; (try with_reducible rfl))
    refine wpAnyH_take (i := 1) (v := ?_) rfl (by kernel_rfl) (by kernel_rfl) (by kernel_rfl) (fun _ _ _ h => h) (Or.inl ⟨by rfl, ?_⟩) (by assumption) ?_
    rotate_left
    · (intro w hSw; (try dsimp only at hSw); go_simp; (try with_reducible rfl))
    refine wpAnyH_take (i := 2) (v := ?_) rfl (by kernel_rfl) (by kernel_rfl) (by kernel_rfl) (fun _ _ _ h => h) (Or.inl ⟨by rfl, ?_⟩) (by assumption) ?_
    rotate_left
    · (intro w hSw; (try dsimp only at hSw); go_simp; (try with_reducible rfl))
    refine wpAnyH_take (i := 3) (v := ?_) rfl (by kernel_rfl) (by kernel_rfl) (by kernel_rfl) (fun _ _ _ h => h) (Or.inl ⟨by rfl, ?_⟩) (by assumption) ?_
    rotate_left
    · (intro w hSw; (try dsimp only at hSw); go_simp; (try with_reducible rfl))
    refine wpAnyH_take (i := 4) (v := ?_) rfl (by kernel_rfl) (by kernel_rfl) (by kernel_rfl) (fun _ _ _ h => h) (Or.inl ⟨by rfl, ?_⟩) (by assumption) ?_
    rotate_left
    · (intro w hSw; (try dsimp only at hSw); go_simp; (try with_reducible rfl))
    refine wpAnyH_take (i := 5) (v := ?_) rfl (by kernel_rfl) (by kernel_rfl) (by kernel_rfl) (fun _ _ _ h => h) (Or.inl ⟨by rfl, ?_⟩) (by assumption) ?_
    rotate_left
    · (intro w hSw; (try dsimp only at hSw); go_simp; (try with_reducible rfl))
    refine wpAnyH_take (i := 6) (v := ?_) rfl (by kernel_rfl) (by kernel_rfl) (by kernel_rfl) (fun _ _ _ h => h) (Or.inl ⟨by rfl, ?_⟩) (by assumption) ?_
    rotate_left
    · (intro w hSw; (try dsimp only at hSw); go_simp; (try with_reducible rfl))
    refine wpAnyH_take (i := 7) (v := ?_) rfl (by kernel_rfl) (by kernel_rfl) (by kernel_rfl) (fun _ _ _ h => h) (Or.inl ⟨by rfl, ?_⟩) (by assumption) ?_
    rotate_left
    · (intro w hSw; (try dsimp only at hSw); go_simp; (try with_reducible rfl))
    refine wpAnyH_take (i := 8) (v := ?_) rfl (by kernel_rfl) (by kernel_rfl) (by kernel_rfl) (fun _ _ _ h => h) (Or.inl ⟨by rfl, ?_⟩) (by assumption) ?_
    rotate_left
    · (intro w hSw; (try dsimp only at hSw); go_simp; (try with_reducible rfl))
    clear hHeld
    go_simp
    refine wpAnyH_ready (rs := [9, 10]) (by kernel_rfl) (by simp) ?_
    refine AllReadyH.cons rfl (fun KC hKC => ?_) (AllReadyH.cons rfl (fun KC hKC => ?_) AllReadyH.nil)
    · go_simp
      refine (HC.out UD (HR.out.mono (by omega))).mono ?_
      rintro e u1 ⟨rfl, b1⟩
      have H1 : Hid (Below w.heap.size w u1) := below_on HR.out (Nat.le_refl _) b1
      clear b1
      go_simp
      refine hKC.out _ _ (KS _ (H.out.blk.keep H1.out)) (fun hHeld => ?_)
      clear hKC KC hHeld
      refine wpAnyH_ready (rs := [10]) (by kernel_rfl) (by simp) ?_
      refine AllReadyH.cons rfl (fun KC hKC => ?_) AllReadyH.nil
      go_simp
      have HW1 : Hid (Blk (u1.alloc (.cells #[.bool false, .int .i64 0] 39)) u1.heap.size #[.bool false, .int .i64 0] 39 ∧ Below w.heap.size w (u1.alloc (.cells #[.bool false, .int .i64 0] 39)) ∧ w.heap.size ≤ u1.heap.size) := ⟨Blk.new _ _ _, below_on H1.out (Nat.le_refl _) (below_alloc _ _), H1.out.size⟩
      refine hKC.out _ _ (KS _ (H.out.blk.keep HW1.out.2.1)) (fun hHeld => ?_)
      clear hKC KC hHeld
      generalize u1.alloc (.cells #[.bool false, .int .i64 0] 39) = W1 at HW1 ⊢
      generalize u1.heap.size = X1 at HW1 ⊢
      refine wpAnyH_ready (rs := [11]) (by kernel_rfl) (by simp) ?_
      refine AllReadyH.cons rfl (fun KC hKC => ?_) AllReadyH.nil
      have c0 := HW1.out.1.cell 0
      have c1 := HW1.out.1.cell 1
      have z0 := HW1.out.1.frozen 0
      have z1 := HW1.out.1.frozen 1
      simp only [List.getElem?_toArray, List.getElem?_cons_zero, List.getElem?_cons_succ] at c0 c1
      go_simp
      have HF : Hid (Blk ((W1.setCell ⟨X1, 0, none⟩ (.bool g)).setCell ⟨X1, 1, none⟩ (.int .i64 x)) X1 #[.bool g, .int .i64 x] 39 ∧ Below w.heap.size w ((W1.setCell ⟨X1, 0, none⟩ (.bool g)).setCell ⟨X1, 1, none⟩ (.int .i64 x)) ∧ w.heap.size ≤ X1) := by
        refine ⟨?_, (HW1.out.2.1.setCell HW1.out.2.2 _).setCell HW1.out.2.2 _, HW1.out.2.2⟩
        have := (HW1.out.1.set 0 (.bool g)).set 1 (.int .i64 x)
        simpa using this
      refine hKC.out _ _ (KS _ (H.out.blk.keep HF.out.2.1)) (fun hHeld => ?_)
      clear hKC KC hHeld
      refine wpAnyH_done (by kernel_rfl) ?_ _
      clear c0 c1 z0 z1
      go_wp2_with fail
      go_meet
      exact ⟨_, rfl, HF⟩
    ·
      go_simp
      have HW1 : Hid (Blk (UD.alloc (.cells #[.bool false, .int .i64 0] 39)) UD.heap.size #[.bool false, .int .i64 0] 39 ∧ Below w.heap.size w (UD.alloc (.cells #[.bool false, .int .i64 0] 39)) ∧ w.heap.size ≤ UD.heap.size) := ⟨Blk.new _ _ _, below_on HR.out (Nat.le_refl _) (below_alloc _ _), HR.out.size⟩
      refine hKC.out _ _ (KS _ (H.out.blk.keep HW1.out.2.1)) (fun hHeld => ?_)
      clear hKC KC hHeld
      generalize UD.alloc (.cells #[.bool false, .int .i64 0] 39) = W1 at HW1 ⊢
      generalize UD.heap.size = X1 at HW1 ⊢
      refine wpAnyH_ready (rs := [9]) (by kernel_rfl) (by simp) ?_
      refine AllReadyH.cons rfl (fun KC hKC => ?_) AllReadyH.nil
      go_simp
      refine (HC.out W1 (HW1.out.2.1.mono (by omega))).mono ?_
      rintro e u1 ⟨rfl, b1⟩
      have HW2 : Hid (Blk u1 X1 #[.bool false, .int .i64 0] 39 ∧ Below w.heap.size w u1 ∧ w.heap.size ≤ X1) := ⟨HW1.out.1.keep b1, below_on HW1.out.2.1 (Nat.le_refl _) b1, HW1.out.2.2⟩
      clear b1 HW1
      go_simp
      refine hKC.out _ _ (KS _ (H.out.blk.keep HW2.out.2.1)) (fun hHeld => ?_)
      clear hKC KC hHeld
      refine wpAnyH_ready (rs := [11]) (by kernel_rfl) (by simp) ?_
      refine AllReadyH.cons rfl (fun KC hKC => ?_) AllReadyH.nil
      have c0 := HW2.out.1.cell 0
      have c1 := HW2.out.1.cell 1
      have z0 := HW2.out.1.frozen 0
      have z1 := HW2.out.1.frozen 1
      simp only [List.getElem?_toArray, List.getElem?_cons_zero, List.getElem?_cons_succ] at c0 c1
      go_simp
      have HF : Hid (Blk ((u1.setCell ⟨X1, 0, none⟩ (.bool g)).setCell ⟨X1, 1, none⟩ (.int .i64 x)) X1 #[.bool g, .int .i64 x] 39 ∧ Below w.heap.size w ((u1.setCell ⟨X1, 0, none⟩ (.bool g)).setCell ⟨X1, 1, none⟩ (.int .i64 x)) ∧ w.heap.size ≤ X1) := by
        refine ⟨?_, (HW2.out.2.1.setCell HW2.out.2.2 _).setCell HW2.out.2.2 _, HW2.out.2.2⟩
        have := (HW2.out.1.set 0 (.bool g)).set 1 (.int .i64 x)
        simpa using this
      refine hKC.out _ _ (KS _ (H.out.blk.keep HF.out.2.1)) (fun hHeld => ?_)
      clear hKC KC hHeld
      refine wpAnyH_done (by kernel_rfl) ?_ _
      clear c0 c1 z0 z1
      go_wp2_with fail
      go_meet
      exact ⟨_, rfl, HF⟩
  case rest =>
  obtain ⟨X, rfl, HX⟩ := hcut
  have HB : Hid (Blk wc I #[.slice a L c, .int .i64 (k : Int), .bool bad] 45) := H.out.blk.keep HX.out.2.1
  obtain ⟨c0, c1, c2⟩ := three_cells HB.out
  have z1 := HB.out.frozen 1
  have z2 := HB.out.frozen 2
  have d0 : wc.cell? ⟨X, 0, none⟩ = some (.bool g) := HX.out.1.cell 0
  have d1 : wc.cell? ⟨X, 1, none⟩ = some (.int .i64 x) := HX.out.1.cell 1
  have HCH : Hid (Chg (fun j => j = I) w wc) := Chg.of HX.out.2.1
  cases bad
  · cases g
    · have hnone : Hid (numR zs n k = none) := by
        rcases HN.out with ⟨e, _⟩ | ⟨_, e, _⟩
        · cases e
        · exact e
      go_wp2
      go_ret
      refine ⟨0, k, true, rfl, fun _ => rfl, .inr ⟨rfl, .inr hnone.out⟩, ?_, HCH.out.setCell (.inl rfl) _⟩
      refine H.out.low ((HX.out.2.1.mono (by omega)).setCell hBI _) hk ?_
      have := HB.out.set 2 (.bool true)
      simpa using this
    · have hsome : Hid (numR zs n k = some (x, k + n)) := by
        rcases HN.out with ⟨_, e⟩ | ⟨e, _⟩
        · exact e
        · cases e
      have hkn := (numR_at hsome.out).2.1
      have hlen := H.out.len
      have hkn2 : k + n ≤ L := by omega
      have d1' : (wc.setCell ⟨I, 1, none⟩ (.int .i64 ((k : Int) + (n : Int)))).cell? ⟨X, 1, none⟩ = some (.int .i64 x) := (HX.out.1.other (a := ⟨I, 1, none⟩) (by have := HX.out.2.2; simp only []; omega) _).cell 1
      go_wp2
      go_ret
      refine ⟨x, k + n, false, rfl, (fun e => by cases e), .inl ⟨rfl, rfl, hsome.out⟩, ?_, HCH.out.setCell (.inl rfl) _⟩
      refine H.out.low ((HX.out.2.1.mono (by omega)).setCell hBI _) hkn2 ?_
      have := HB.out.set 1 (.int .i64 ((k : Int) + (n : Int)))
      simpa using this
  · go_wp2
    go_ret
    refine ⟨0, k, true, rfl, fun _ => rfl, .inr ⟨rfl, .inl rfl⟩, ?_, HCH.out.setCell (.inl rfl) _⟩
    refine H.out.low ((HX.out.2.1.mono (by omega)).setCell hBI _) hk ?_
    have := HB.out.set 2 (.bool true)
    simpa using this
end Go.Proofs.YtnemieeeappgnaaGreatDoor
namespace Go.Proofs.YtnemieeeappgnaaGreatDoor
open Go.ChangeShapes Go.WideShapes Go.ChangeAt Go.RowKit
set_option linter.unusedVariables false
theorem GotAt.refl {w : World} {B I L : Nat} {a : Option Addr} {c : Nat} {zs : List Int} {k : Nat} {bad : Bool} (h : InAt w B I L a c zs k bad) : GotAt w w B I L a c zs k bad := ⟨h, Chg.refl _ _⟩
theorem GotAt.trans {w u v : World} {B I L : Nat} {a : Option Addr} {c : Nat} {zs : List Int} {k k' : Nat} {bad bad' : Bool} (h : GotAt w u B I L a c zs k bad) (h' : GotAt u v B I L a c zs k' bad') : GotAt w v B I L a c zs k' bad' := ⟨h'.at_, h.chg.on h'.chg⟩
theorem GotAt.keep {w u v : World} {B I L : Nat} {a : Option Addr} {c : Nat} {zs : List Int} {k : Nat} {bad : Bool} (h : GotAt w u B I L a c zs k bad) (hb : Below u.heap.size u v) : GotAt w v B I L a c zs k bad := ⟨h.at_.keep hb, h.chg.on (Chg.of hb)⟩
theorem GotAt.grow {w u v : World} {B I L : Nat} {a : Option Addr} {c : Nat} {zs : List Int} {k : Nat} {bad : Bool} (h : GotAt w u B I L a c zs k bad) {r : Option Nat} (hg : u.grownBy v r) (hr : ∀ g, r = some g → w.heap.size ≤ g) (hI : I < w.heap.size) : GotAt w v B I L a c zs k bad := by
  have hBI := h.at_.hB
  have hIu := h.at_.lt
  refine ⟨h.at_.low ⟨hg.os, hg.tape, hg.output, hg.size, fun j hj => hg.block j (by omega) (fun e => by have := hr j e.symm; omega)⟩ h.at_.at_ ?_, h.chg.grown hg (fun j hj e => by have := hr j e.symm; omega)⟩
  have hb := h.at_.blk
  unfold Blk at *
  rw [hg.block I hIu (fun e => by have := hr I e.symm; omega)]
  exact hb
theorem GotAt.set {w u : World} {B I L : Nat} {a : Option Addr} {c : Nat} {zs : List Int} {k : Nat} {bad : Bool} (h : GotAt w u B I L a c zs k bad) (g i : Nat) (x : Value) (hg : w.heap.size ≤ g) (hI : I < w.heap.size) : GotAt w (u.setCell ⟨g, i, none⟩ x) B I L a c zs k bad :=
  h.grow (r := some g) (by exact grown_set' ⟨rfl, rfl, rfl, Nat.le_refl _, fun _ _ _ => rfl⟩ i x) (fun g' e => by cases e; exact hg) hI
/-- A row of the call's own, behind a call that reads. -/
theorem GotAt.own {u v : World} {B I L : Nat} {a : Option Addr} {c : Nat} {zs : List Int} {k : Nat} {bad : Bool} (h : GotAt u v B I L a c zs k bad) {N : Nat} (hI : I < N) {e : TypeId} {s : Value} {q n : Nat} {xs : List Value} (ho : u.ownsRow N e q s n xs) : v.ownsRow N e q s n xs := h.chg.own ho (fun b hb e => by have := (ho.lt b hb).1; omega)
theorem many1_at {zs : List Int} {j k kk : Nat} {ys : List Int} (h : manyR (numR zs 1) j k = some (ys, kk)) : kk = k + j := by
  induction j generalizing ys kk with
  | zero => simp only [manyR, giveR, Option.some.injEq, Prod.mk.injEq] at h; omega
  | succ j ih =>
    simp only [manyR] at h
    cases e : manyR (numR zs 1) j k with
    | none => rw [thenR_none e] at h; cases h
    | some y =>
      obtain ⟨y, k3⟩ := y
      rw [thenR_some e] at h
      cases e2 : numR zs 1 k3 with
      | none => rw [thenR_none e2] at h; cases h
      | some z =>
        obtain ⟨z, k4⟩ := z
        rw [thenR_some e2] at h
        simp only [giveR, Option.some.injEq, Prod.mk.injEq] at h
        have := ih e
        have := (numR_at e2).1
        omega
/-- One more. -/
theorem Reads'.next {α : Type} {r : Rdr α} {j k kk k2 : Nat} {bad bb b2 : Bool} {ys : List α} {x : α} (h : Reads' (manyR r j) k bad ys kk bb) (hx : Reads' r kk bb x k2 b2) : Reads' (manyR r (j + 1)) k bad (ys ++ [x]) k2 b2 := by
  rcases h with ⟨h1, h2, h3⟩ | ⟨h1, h2⟩
  · rcases hx with ⟨g1, g2, g3⟩ | ⟨g1, g2⟩
    · exact .inl ⟨h1, g2, many_next h3 g3⟩
    · rcases g2 with g2 | g2
      · rw [h2] at g2; cases g2
      · exact .inr ⟨g1, .inr (many_stop h3 g2)⟩
  · rcases hx with ⟨g1, g2, g3⟩ | ⟨g1, g2⟩
    · rw [h1] at g1; cases g1
    · exact .inr ⟨g1, h2.imp_right fun e => many_short e (by omega)⟩
theorem Reads'.upto {α : Type} {r : Rdr α} {j d k kk : Nat} {bad : Bool} {ys : List α} (h : Reads' (manyR r j) k bad ys kk true) (hd : j ≤ d) : Reads' (manyR r d) k bad ys kk true := by
  rcases h with ⟨_, h, _⟩ | ⟨_, h⟩
  · cases h
  · exact .inr ⟨rfl, h.imp_right fun e => many_short e hd⟩
theorem lit_at (w : World) (cs : List Value) (t : TypeId) : ∀ j u, cs[j]? = some u → (w.alloc (.cells cs.toArray t)).cell? ((⟨w.heap.size, 0, none⟩ : Addr).add j) = some u := fun j u hj => by
  rw [add_at, Nat.zero_add, (Blk.new w cs.toArray t).cell j]
  simpa using hj
set_option maxHeartbeats 4000000 in
set_option maxRecDepth 100000 in
theorem l3GetList_any (B I L : Nat) (a : Option Addr) (c : Nat) (zs : List Int) (cnt : Int) (k : Nat) (bad : Bool) (w : World) (h0 : 0 ≤ cnt) (h1 : cnt ≤ 1099511627776) (h : InAt w B I L a c zs k bad) :
    Calls Tryz.prog 21 #[.pointer (some ⟨I, 0, none⟩), .int .i64 cnt] w fun e w' => ∃ (V : Value) (ys : List Int) (k' : Nat) (bad' : Bool), e = .returned V ∧ w'.ownsRow w.heap.size 2 1 V ys.length (ys.flatMap intCell) ∧ ys.length ≤ 1048577 ∧ Reads' (manyR (numR zs 1) cnt.toNat) k bad ys k' bad' ∧ GotAt w w' B I L a c zs k' bad' := by
  obtain ⟨j0, hj0, hz0, hz1, hz2⟩ := info_parts info64
  obtain ⟨n, rfl⟩ := Int.eq_ofNat_of_zero_le h0
  rw [Int.toNat_natCast]
  have H : Hid (InAt w B I L a c zs k bad) := h
  have hIl := h.lt
  have hbig := h.big
  clear h
  go_enter Tryz.func21, Tryz.ntmps21
  go_wp2
  go_loopw [5, 6] (fun o i wr => ∃ (j : Nat) (ys : List Int) (kk : Nat) (bb : Bool), i = .int .i64 j ∧ j ≤ n ∧ ys.length ≤ L + 1 ∧ (bb = false → ys.length ≤ L) ∧ Hid (wr.ownsRow w.heap.size 2 1 o ys.length (ys.flatMap intCell) ∧ Reads' (manyR (numR zs 1) j) k bad ys kk bb ∧ GotAt w wr B I L a c zs kk bb)) (fun _ i _ => n - (intOf i).toNat)
  case atStart =>
    refine ⟨0, [], k, bad, rfl, by omega, by simp, by simp, ?_, ?_, (GotAt.refl H.out).keep (below_alloc _ _)⟩
    · exact World.ownsRow_lit _ #[] 0 (Nat.le_refl _) (by unfold maxLen; omega) (by simp)
    · cases bad
      · exact .inl ⟨rfl, rfl, rfl⟩
      · exact .inr ⟨rfl, .inl rfl⟩
  case round =>
    obtain ⟨j, ys, kk, bb, rfl, hj, hy1, hy2, HM⟩ := hrel
    obtain ⟨c0, c1, c2⟩ := three_cells HM.out.2.2.at_.blk
    by_cases hlt : j < n
    · cases bb
      · have hy := hy2 rfl
        go_wp2_with fail
        refine (l3Get_any B I L a c zs 1 kk false _ (by omega) (by omega) HM.out.2.2.at_).mono ?_
        rintro e u1 ⟨v, k2, b2, rfl, _, hr, hg⟩
        have H1 : Hid (u1.ownsRow w.heap.size 2 1 _ ys.length (ys.flatMap intCell) ∧ Reads' (manyR (numR zs 1) (j + 1)) k bad (ys ++ [v]) k2 b2 ∧ GotAt w u1 B I L a c zs k2 b2) := ⟨hg.own hIl HM.out.1, HM.out.2.1.next hr, HM.out.2.2.trans hg⟩
        have hs1 : w.heap.size ≤ u1.heap.size := H1.out.2.2.chg.size
        have hl1 : b2 = false → (ys ++ [v]).length ≤ L := fun e => by
          rcases H1.out.2.1 with ⟨_, _, h3⟩ | ⟨h3, _⟩
          · have := many1_at h3
            have := many_length h3
            have := H1.out.2.2.at_.at_
            omega
          · rw [e] at h3; cases h3
        clear hr hg c0 c1 c2
        go_wp2_with (at_builtin; refine wpList_append_own _ rfl _ _ 57 rfl w.heap.size 2 j0 (.int .i64 0) 1 8 Tryz.underlying57 hj0 hz0 hz1 hz2 rfl (by decide) _ _ _ rfl (own_keep H1.out.1 (below_alloc _ _) (Nat.le_refl _)) ⟨u1.heap.size, 0, none⟩ 1 1 (intCell v) rfl rfl (lit_at u1 (intCell v) 2) (by intro u hu; simp [intCell] at hu; subst hu; rfl) (by unfold maxLen; omega) (by omega) (by simp; omega) ?_; intro V' u3 ho hgr _; have H2 : Hid (u3.ownsRow w.heap.size 2 1 V' (ys ++ [v]).length ((ys ++ [v]).flatMap intCell) ∧ Reads' (manyR (numR zs 1) (j + 1)) k bad (ys ++ [v]) k2 b2 ∧ GotAt w u3 B I L a c zs k2 b2) := ⟨by rw [List.length_append, List.flatMap_append]; simpa [intCell] using ho, H1.out.2.1, (H1.out.2.2.keep (below_alloc _ _)).grow hgr (fun g e => ((own_keep H1.out.1 (below_alloc u1 (.cells #[.int .i64 v] 2)) (Nat.le_refl _)).lt g e).1) hIl⟩; clear ho hgr)
        go_roundw
        case rel => exact ⟨j + 1, ys ++ [v], k2, b2, by go_num, by omega, by simp; omega, hl1, H2.out⟩
        case measure => simp [intOf]; omega
      · go_wp2
        go_ret
        exact ⟨_, ys, kk, true, rfl, HM.out.1, by omega, HM.out.2.1.upto (by omega), HM.out.2.2⟩
    · have hjn : n = j := by omega
      subst hjn
      go_wp2
      all_goals
        go_ret
        exact ⟨_, ys, kk, bb, rfl, HM.out.1, by omega, HM.out.2.1, HM.out.2.2⟩
end Go.Proofs.YtnemieeeappgnaaGreatDoor
