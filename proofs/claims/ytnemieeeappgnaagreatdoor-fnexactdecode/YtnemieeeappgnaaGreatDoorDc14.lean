import Derived.Test.YtnemieeeappgnaaGreatDoorDc13
import Derived.Deep.DeepCutAuto
import Derived.Deep.RegionHeld
namespace Go.Proofs.YtnemieeeappgnaaGreatDoor
open Go.ChangeShapes Go.WideShapes Go.ChangeAt Go.RowKit
set_option linter.unusedVariables false
/-- What a fault's panic carries. -/
def stopE (n : Int) : Ending := .panicked [{ v := .iface 74 (.int .i64 n), recovered := false }]
set_option maxRecDepth 100000 in
theorem demand_yes (n : Int) (w : World) : Calls Tryz.prog 51 #[.bool true, .int .i64 n] w fun e w' => e = .returned (.tuple #[]) ∧ w' = w := by
  go_enter Tryz.func51, Tryz.ntmps51
  go_wp2
  exact bodyPost_end (v := .tuple #[]) (by kernel_rfl) rfl ⟨rfl, rfl⟩
set_option maxRecDepth 100000 in
theorem demand_no (n : Int) (w : World) : Calls Tryz.prog 51 #[.bool false, .int .i64 n] w fun e w' => e = stopE n ∧ w' = w := by
  go_enter Tryz.func51, Tryz.ntmps51
  go_wp2
  exact ⟨rfl, rfl, rfl⟩
/-- The reader: its bytes, where it stands; its bytes lie below B. -/
structure InR (w : World) (B I L : Nat) (a : Option Addr) (c : Nat) (zs : List Int) (k : Nat) : Prop where
  blk : Blk w I #[.slice a L c, .int .i64 (k : Int)] 76
  rd : ∀ u, Below B w u → Reads u (.slice a L c) L (zs.map (Value.int .u8))
  big : L ≤ 1048576
  at_ : k ≤ L
  hB : B ≤ I
  hz : AllB zs
  cap : L ≤ c
section
variable {w u v : World} {B I L : Nat} {a : Option Addr} {c : Nat} {zs : List Int} {k k' : Nat}
theorem InR.len (h : InR w B I L a c zs k) : zs.length = L := by
  have := (h.rd w (Below.refl _ _)).1
  simpa using this
theorem InR.lt (h : InR w B I L a c zs k) : I < w.heap.size := h.blk.lt
theorem InR.low (h : InR w B I L a c zs k) (hb : Below B w u) (hk : k' ≤ L) (hblk : Blk u I #[.slice a L c, .int .i64 (k' : Int)] 76) : InR u B I L a c zs k' := ⟨hblk, fun v hv => h.rd v (hb.trans hv), h.big, hk, h.hB, h.hz, h.cap⟩
theorem InR.keep (h : InR w B I L a c zs k) (hb : Below w.heap.size w u) : InR u B I L a c zs k := h.low (hb.mono (by have := h.hB; have := h.lt; omega)) h.at_ (h.blk.keep hb)
end
/-- What a call that reads leaves. -/
structure GotR (w u : World) (B I L : Nat) (a : Option Addr) (c : Nat) (zs : List Int) (k : Nat) : Prop where
  at_ : InR u B I L a c zs k
  chg : Chg (fun j => j = I) w u
/-- What a reading call does: it gives what is read, or it stops with fault 4. -/
def Rds {α : Type} (r : Rdr α) (val : World → α → Value → Prop) (w : World) (B I L : Nat) (a : Option Addr) (c : Nat) (zs : List Int) (k : Nat) (e : Ending) (w' : World) : Prop :=
  (∃ x V k', e = .returned V ∧ r k = some (x, k') ∧ val w' x V ∧ GotR w w' B I L a c zs k') ∨ (e = stopE 4 ∧ r k = none ∧ Chg (fun j => j = I) w w')
def NumIsR (zs : List Int) (n k : Nat) (g : Bool) (x : Int) : Prop := (g = true ∧ numR zs n k = some (x, k + n)) ∨ (g = false ∧ numR zs n k = none ∧ x = 0)
theorem getNumR_any {w : World} {B I L : Nat} {a : Option Addr} {c : Nat} {zs : List Int} {k : Nat} (h : InR w B I L a c zs k) (n : Nat) (h1 : 1 ≤ n) (h8 : n ≤ 8) : ∃ g x, NumIsR zs n k g x ∧ ∀ u, Below B w u → Calls Tryz.prog 76 #[.slice a L c, .int .i64 (k : Int), .int .i64 (n : Int)] u fun e u' => e = .returned (.agg #[.bool g, .int .i64 x]) ∧ Below u.heap.size u u' := by
  have hl := h.len
  by_cases hin : k + n ≤ L
  · exact ⟨true, wrap64 (getAcc zs k n), .inl ⟨rfl, by unfold numR; rw [if_pos (by omega)]⟩, fun u hu => GetNumber_in (.slice a L c) L zs k n u h.big (h.rd u hu) (fun a' c' e => by cases e; exact h.cap) h1 h8 hin⟩
  · exact ⟨false, 0, .inr ⟨rfl, by unfold numR; rw [if_neg (by omega)], rfl⟩, fun u hu => GetNumber_bad a L c k n u h.big (by omega)⟩
theorem two_cells {u : World} {X : Nat} {x0 x1 : Value} {t : TypeId} (h : Blk u X #[x0, x1] t) : u.cell? ⟨X, 0, none⟩ = some x0 ∧ u.cell? ⟨X, 1, none⟩ = some x1 := ⟨h.cell 0, h.cell 1⟩
set_option maxHeartbeats 4000000 in
set_option maxRecDepth 100000 in
theorem number_any (B I L : Nat) (a : Option Addr) (c : Nat) (zs : List Int) (n k : Nat) (w : World) (h1 : 1 ≤ n) (h8 : n ≤ 8) (h : InR w B I L a c zs k) :
    Calls Tryz.prog 52 #[.pointer (some ⟨I, 0, none⟩), .int .i64 (n : Int)] w (Rds (numR zs n) (fun _ x V => V = .int .i64 x) w B I L a c zs k) := by
  obtain ⟨g, x, hnum, hcall⟩ := getNumR_any h n h1 h8
  have hk := h.at_
  have hn2 := h.big
  have HC : Hid (∀ u, Below B w u → Calls Tryz.prog 76 #[.slice a L c, .int .i64 (k : Int), .int .i64 (n : Int)] u fun e u' => e = .returned (.agg #[.bool g, .int .i64 x]) ∧ Below u.heap.size u u') := hcall
  have HN : Hid (NumIsR zs n k g x) := hnum
  have H : Hid (InR w B I L a c zs k) := h
  have hIl := h.lt
  have hBI := h.hB
  clear hcall hnum h
  go_enter Tryz.func52, Tryz.ntmps52
  go_upto_region 1 with fail
  go_cut [5] (fun s wx => ∃ X, s = .pointer (some ⟨X, 0, none⟩) ∧ Hid (Blk wx X #[.bool g, .int .i64 x] 39 ∧ Below w.heap.size w wx ∧ w.heap.size ≤ X))
  case first =>
    have KS : ∀ u, Blk u I #[.slice a L c, .int .i64 (k : Int)] 76 → (u.cell? ⟨I, 0, none⟩ = some (.slice a L c) ∧ u.cell? ⟨I, 1, none⟩ = some (.int .i64 (k : Int))) := fun u h => ⟨h.cell 0, h.cell 1⟩
    have HR : Hid (Below w.heap.size w w.drew) := below_drew1 _
    refine wp_region_held_drew (S := fun w' => w'.cell? ⟨I, 0, none⟩ = some (.slice a L c) ∧ w'.cell? ⟨I, 1, none⟩ = some (.int .i64 (k : Int))) (by kernel_rfl) (KS _ (H.out.blk.keep HR.out)) (fun hHeld => ?_)
    generalize w.drew = UD at HR hHeld ⊢
    refine wpAnyH_take (i := 0) (v := ?_) rfl (by kernel_rfl) (by kernel_rfl) (by kernel_rfl) (fun _ _ _ h => h) (Or.inl ⟨by rfl, ?_⟩) (by assumption) ?_
    rotate_left
    · (intro w hSw; (try dsimp only at hSw); go_simp; (try with_reducible rfl))
    refine wpAnyH_take (i := 1) (v := ?_) rfl (by kernel_rfl) (by kernel_rfl) (by kernel_rfl) (fun _ _ _ h => h) (Or.inl ⟨by rfl, ?_⟩) (by assumption) ?_
    rotate_left
    · (intro w hSw; (try dsimp only at hSw); go_simp; (try with_reducible rfl))
    refine wpAnyH_take (i := 2) (v := ?_) rfl (by kernel_rfl) (by kernel_rfl) (by kernel_rfl) (fun _ _ _ h => h) (Or.inl ⟨by rfl, ?_⟩) (by assumption) ?_
    rotate_left
    · (intro w hSw; (try dsimp only at hSw); go_simp; (try with_reducible rfl))
    refine wpAnyH_take (i := 3) (v := ?_) rfl (by kernel_rfl) (by kernel_rfl) (by kernel_rfl) (fun _ _ _ h => h) (Or.inl ⟨by rfl, ?_⟩) (by assumption) ?_
    rotate_left
    · (intro w hSw; (try dsimp only at hSw); go_simp; (try with_reducible rfl))
    refine wpAnyH_take (i := 4) (v := ?_) rfl (by kernel_rfl) (by kernel_rfl) (by kernel_rfl) (fun _ _ _ h => h) (Or.inl ⟨by rfl, ?_⟩) (by assumption) ?_
    rotate_left
    · (intro w hSw; (try dsimp only at hSw); go_simp; (try with_reducible rfl))
    refine wpAnyH_take (i := 5) (v := ?_) rfl (by kernel_rfl) (by kernel_rfl) (by kernel_rfl) (fun _ _ _ h => h) (Or.inl ⟨by rfl, ?_⟩) (by assumption) ?_
    rotate_left
    · (intro w hSw; (try dsimp only at hSw); go_simp; (try with_reducible rfl))
    refine wpAnyH_take (i := 6) (v := ?_) rfl (by kernel_rfl) (by kernel_rfl) (by kernel_rfl) (fun _ _ _ h => h) (Or.inl ⟨by rfl, ?_⟩) (by assumption) ?_
    rotate_left
    · (intro w hSw; (try dsimp only at hSw); go_simp; (try with_reducible rfl))
    refine wpAnyH_take (i := 7) (v := ?_) rfl (by kernel_rfl) (by kernel_rfl) (by kernel_rfl) (fun _ _ _ h => h) (Or.inl ⟨by rfl, ?_⟩) (by assumption) ?_
    rotate_left
    · (intro w hSw; (try dsimp only at hSw); go_simp; (try with_reducible rfl))
    refine wpAnyH_take (i := 8) (v := ?_) rfl (by kernel_rfl) (by kernel_rfl) (by kernel_rfl) (fun _ _ _ h => h) (Or.inl ⟨by rfl, ?_⟩) (by assumption) ?_
    rotate_left
    · (intro w hSw; (try dsimp only at hSw); go_simp; (try with_reducible rfl))
    clear hHeld
    go_simp
    refine wpAnyH_ready (rs := [9, 10]) (by kernel_rfl) (by simp) ?_
    refine AllReadyH.cons rfl (fun KC hKC => ?_) (AllReadyH.cons rfl (fun KC hKC => ?_) AllReadyH.nil)
    · go_simp
      refine (HC.out UD (HR.out.mono (by omega))).mono ?_
      rintro e u1 ⟨rfl, b1⟩
      have H1 : Hid (Below w.heap.size w u1) := below_on HR.out (Nat.le_refl _) b1
      clear b1
      go_simp
      refine hKC.out _ _ (KS _ (H.out.blk.keep H1.out)) (fun hHeld => ?_)
      clear hKC KC hHeld
      refine wpAnyH_ready (rs := [10]) (by kernel_rfl) (by simp) ?_
      refine AllReadyH.cons rfl (fun KC hKC => ?_) AllReadyH.nil
      go_simp
      have HW1 : Hid (Blk (u1.alloc (.cells #[.bool false, .int .i64 0] 39)) u1.heap.size #[.bool false, .int .i64 0] 39 ∧ Below w.heap.size w (u1.alloc (.cells #[.bool false, .int .i64 0] 39)) ∧ w.heap.size ≤ u1.heap.size) := ⟨Blk.new _ _ _, below_on H1.out (Nat.le_refl _) (below_alloc _ _), H1.out.size⟩
      refine hKC.out _ _ (KS _ (H.out.blk.keep HW1.out.2.1)) (fun hHeld => ?_)
      clear hKC KC hHeld
      generalize u1.alloc (.cells #[.bool false, .int .i64 0] 39) = W1 at HW1 ⊢
      generalize u1.heap.size = X1 at HW1 ⊢
      refine wpAnyH_ready (rs := [11]) (by kernel_rfl) (by simp) ?_
      refine AllReadyH.cons rfl (fun KC hKC => ?_) AllReadyH.nil
      have c0 := HW1.out.1.cell 0
      have c1 := HW1.out.1.cell 1
      have z0 := HW1.out.1.frozen 0
      have z1 := HW1.out.1.frozen 1
      simp only [List.getElem?_toArray, List.getElem?_cons_zero, List.getElem?_cons_succ] at c0 c1
      go_simp
      have HF : Hid (Blk ((W1.setCell ⟨X1, 0, none⟩ (.bool g)).setCell ⟨X1, 1, none⟩ (.int .i64 x)) X1 #[.bool g, .int .i64 x] 39 ∧ Below w.heap.size w ((W1.setCell ⟨X1, 0, none⟩ (.bool g)).setCell ⟨X1, 1, none⟩ (.int .i64 x)) ∧ w.heap.size ≤ X1) := by
        refine ⟨?_, (HW1.out.2.1.setCell HW1.out.2.2 _).setCell HW1.out.2.2 _, HW1.out.2.2⟩
        have := (HW1.out.1.set 0 (.bool g)).set 1 (.int .i64 x)
        simpa using this
      refine hKC.out _ _ (KS _ (H.out.blk.keep HF.out.2.1)) (fun hHeld => ?_)
      clear hKC KC hHeld
      refine wpAnyH_done (by kernel_rfl) ?_ _
      clear c0 c1 z0 z1
      go_wp2_with fail
      go_meet
      exact ⟨_, rfl, HF⟩
    ·
      go_simp
      have HW1 : Hid (Blk (UD.alloc (.cells #[.bool false, .int .i64 0] 39)) UD.heap.size #[.bool false, .int .i64 0] 39 ∧ Below w.heap.size w (UD.alloc (.cells #[.bool false, .int .i64 0] 39)) ∧ w.heap.size ≤ UD.heap.size) := ⟨Blk.new _ _ _, below_on HR.out (Nat.le_refl _) (below_alloc _ _), HR.out.size⟩
      refine hKC.out _ _ (KS _ (H.out.blk.keep HW1.out.2.1)) (fun hHeld => ?_)
      clear hKC KC hHeld
      generalize UD.alloc (.cells #[.bool false, .int .i64 0] 39) = W1 at HW1 ⊢
      generalize UD.heap.size = X1 at HW1 ⊢
      refine wpAnyH_ready (rs := [9]) (by kernel_rfl) (by simp) ?_
      refine AllReadyH.cons rfl (fun KC hKC => ?_) AllReadyH.nil
      go_simp
      refine (HC.out W1 (HW1.out.2.1.mono (by omega))).mono ?_
      rintro e u1 ⟨rfl, b1⟩
      have HW2 : Hid (Blk u1 X1 #[.bool false, .int .i64 0] 39 ∧ Below w.heap.size w u1 ∧ w.heap.size ≤ X1) := ⟨HW1.out.1.keep b1, below_on HW1.out.2.1 (Nat.le_refl _) b1, HW1.out.2.2⟩
      clear b1 HW1
      go_simp
      refine hKC.out _ _ (KS _ (H.out.blk.keep HW2.out.2.1)) (fun hHeld => ?_)
      clear hKC KC hHeld
      refine wpAnyH_ready (rs := [11]) (by kernel_rfl) (by simp) ?_
      refine AllReadyH.cons rfl (fun KC hKC => ?_) AllReadyH.nil
      have c0 := HW2.out.1.cell 0
      have c1 := HW2.out.1.cell 1
      have z0 := HW2.out.1.frozen 0
      have z1 := HW2.out.1.frozen 1
      simp only [List.getElem?_toArray, List.getElem?_cons_zero, List.getElem?_cons_succ] at c0 c1
      go_simp
      have HF : Hid (Blk ((u1.setCell ⟨X1, 0, none⟩ (.bool g)).setCell ⟨X1, 1, none⟩ (.int .i64 x)) X1 #[.bool g, .int .i64 x] 39 ∧ Below w.heap.size w ((u1.setCell ⟨X1, 0, none⟩ (.bool g)).setCell ⟨X1, 1, none⟩ (.int .i64 x)) ∧ w.heap.size ≤ X1) := by
        refine ⟨?_, (HW2.out.2.1.setCell HW2.out.2.2 _).setCell HW2.out.2.2 _, HW2.out.2.2⟩
        have := (HW2.out.1.set 0 (.bool g)).set 1 (.int .i64 x)
        simpa using this
      refine hKC.out _ _ (KS _ (H.out.blk.keep HF.out.2.1)) (fun hHeld => ?_)
      clear hKC KC hHeld
      refine wpAnyH_done (by kernel_rfl) ?_ _
      clear c0 c1 z0 z1
      go_wp2_with fail
      go_meet
      exact ⟨_, rfl, HF⟩
  case rest =>
  obtain ⟨X, rfl, HX⟩ := hcut
  have HB : Hid (Blk wc I #[.slice a L c, .int .i64 (k : Int)] 76) := H.out.blk.keep HX.out.2.1
  obtain ⟨c0, c1⟩ := two_cells HB.out
  have z1 := HB.out.frozen 1
  have d0 : wc.cell? ⟨X, 0, none⟩ = some (.bool g) := HX.out.1.cell 0
  have d1 : wc.cell? ⟨X, 1, none⟩ = some (.int .i64 x) := HX.out.1.cell 1
  have HCH : Hid (Chg (fun j => j = I) w wc) := Chg.of HX.out.2.1
  cases g
  · have hnone : Hid (numR zs n k = none) := by
      rcases HN.out with ⟨e, _⟩ | ⟨_, e, _⟩
      · cases e
      · exact e
    go_wp2_with (go_at_call 51; refine (demand_no 4 _).mono ?_; rintro e u2 ⟨rfl, rfl⟩; unfold stopE)
    exact ⟨rfl, .inr ⟨rfl, hnone.out, HCH.out⟩⟩
  · have hsome : Hid (numR zs n k = some (x, k + n)) := by
      rcases HN.out with ⟨_, e⟩ | ⟨e, _⟩
      · exact e
      · cases e
    have hkn := (numR_at hsome.out).2.1
    have hlen := H.out.len
    have hkn2 : k + n ≤ L := by omega
    have d1' : (wc.setCell ⟨I, 1, none⟩ (.int .i64 ((k : Int) + (n : Int)))).cell? ⟨X, 1, none⟩ = some (.int .i64 x) := (HX.out.1.other (a := ⟨I, 1, none⟩) (by have := HX.out.2.2; simp only []; omega) _).cell 1
    go_wp2_with (go_at_call 51; refine (demand_yes 4 _).mono ?_; rintro e u2 ⟨rfl, rfl⟩)
    go_ret
    refine .inl ⟨x, _, k + n, rfl, hsome.out, rfl, ?_, HCH.out.setCell (.inl rfl) _⟩
    refine H.out.low ((HX.out.2.1.mono (by omega)).setCell hBI _) hkn2 ?_
    have := HB.out.set 1 (.int .i64 ((k : Int) + (n : Int)))
    simpa using this
end Go.Proofs.YtnemieeeappgnaaGreatDoor
namespace Go.Proofs.YtnemieeeappgnaaGreatDoor
open Go.ChangeShapes Go.WideShapes Go.ChangeAt Go.RowKit
set_option linter.unusedVariables false
theorem GotR.refl {w : World} {B I L : Nat} {a : Option Addr} {c : Nat} {zs : List Int} {k : Nat}  (h : InR w B I L a c zs k) : GotR w w B I L a c zs k := ⟨h, Chg.refl _ _⟩
theorem GotR.trans {w u v : World} {B I L : Nat} {a : Option Addr} {c : Nat} {zs : List Int} {k k' : Nat}  (h : GotR w u B I L a c zs k) (h' : GotR u v B I L a c zs k') : GotR w v B I L a c zs k' := ⟨h'.at_, h.chg.on h'.chg⟩
theorem GotR.keep {w u v : World} {B I L : Nat} {a : Option Addr} {c : Nat} {zs : List Int} {k : Nat}  (h : GotR w u B I L a c zs k) (hb : Below u.heap.size u v) : GotR w v B I L a c zs k := ⟨h.at_.keep hb, h.chg.on (Chg.of hb)⟩
theorem GotR.grow {w u v : World} {B I L : Nat} {a : Option Addr} {c : Nat} {zs : List Int} {k : Nat}  (h : GotR w u B I L a c zs k) {r : Option Nat} (hg : u.grownBy v r) (hr : ∀ g, r = some g → w.heap.size ≤ g) (hI : I < w.heap.size) : GotR w v B I L a c zs k := by
  have hBI := h.at_.hB
  have hIu := h.at_.lt
  refine ⟨h.at_.low ⟨hg.os, hg.tape, hg.output, hg.size, fun j hj => hg.block j (by omega) (fun e => by have := hr j e.symm; omega)⟩ h.at_.at_ ?_, h.chg.grown hg (fun j hj e => by have := hr j e.symm; omega)⟩
  have hb := h.at_.blk
  unfold Blk at *
  rw [hg.block I hIu (fun e => by have := hr I e.symm; omega)]
  exact hb
theorem GotR.set {w u : World} {B I L : Nat} {a : Option Addr} {c : Nat} {zs : List Int} {k : Nat}  (h : GotR w u B I L a c zs k) (g i : Nat) (x : Value) (hg : w.heap.size ≤ g) (hI : I < w.heap.size) : GotR w (u.setCell ⟨g, i, none⟩ x) B I L a c zs k :=
  h.grow (r := some g) (by exact grown_set' ⟨rfl, rfl, rfl, Nat.le_refl _, fun _ _ _ => rfl⟩ i x) (fun g' e => by cases e; exact hg) hI
/-- A row of the call's own, behind a call that reads. -/
theorem GotR.own {u v : World} {B I L : Nat} {a : Option Addr} {c : Nat} {zs : List Int} {k : Nat}  (h : GotR u v B I L a c zs k) {N : Nat} (hI : I < N) {e : TypeId} {s : Value} {q n : Nat} {xs : List Value} (ho : u.ownsRow N e q s n xs) : v.ownsRow N e q s n xs := h.chg.own ho (fun b hb e => by have := (ho.lt b hb).1; omega)

structure Br (w u : World) (Ls : List RowI) (B I L : Nat) (a : Option Addr) (c : Nat) (zs : List Int) (k : Nat) : Prop where
  sep : Sep u w.heap.size Ls
  got : GotR w u B I L a c zs k
  lt : I < w.heap.size
section
variable {w u v : World} {Ls : List RowI} {B I L : Nat} {a : Option Addr} {c : Nat} {zs : List Int} {k k' : Nat} 
theorem Br.start (h : InR w B I L a c zs k) : Br w w [] B I L a c zs k := ⟨Sep.nil _ _, GotR.refl h, h.lt⟩
theorem Br.size (h : Br w u Ls B I L a c zs k) : w.heap.size ≤ u.heap.size := h.got.chg.size
theorem Br.keep (h : Br w u Ls B I L a c zs k) (hb : Below u.heap.size u v) : Br w v Ls B I L a c zs k := ⟨h.sep.keep hb, h.got.keep hb, h.lt⟩
theorem Br.read (h : Br w u Ls B I L a c zs k) (hg : GotR u v B I L a c zs k') : Br w v Ls B I L a c zs k' := ⟨h.sep.chg hg.chg (fun j hj e => by have := h.lt; omega), h.got.trans hg, h.lt⟩
theorem Br.box (h : Br w u Ls B I L a c zs k) (t : TypeId) (q : Nat) (xs : List Value) (hk : xs.length = q) : Br w (u.alloc (.cells xs.toArray t)) (Ls ++ [bRow u.heap.size t q xs]) B I L a c zs k := ⟨h.sep.box h.size t q xs hk, h.got.keep (below_alloc _ _), h.lt⟩
/-- A call that reads gave a row of its own, and more. -/
theorem Br.rows (h : Br w u Ls B I L a c zs k) (hg : GotR u v B I L a c zs k') {M : List RowI} (hs : Sep v u.heap.size M) : Br w v (Ls ++ M) B I L a c zs k' :=
  ⟨(h.read hg).sep.app hs (fun x hx g hgx => (h.sep.lt x hx g hgx).2) h.size, (h.read hg).got, h.lt⟩
theorem Br.row (h : Br w u Ls B I L a c zs k) (hg : GotR u v B I L a c zs k') {r : RowI} (ho : r.own v u.heap.size) : Br w v (Ls ++ [r]) B I L a c zs k' :=
  h.rows hg ⟨fun x hx => by rw [List.mem_singleton.1 hx]; exact ho, List.pairwise_singleton _ _⟩
theorem Br.set {A C : List RowI} {X : Nat} {t : TypeId} {q : Nat} {xs : List Value} (h : Br w u (A ++ bRow X t q xs :: C) B I L a c zs k) (i : Nat) (hi : i < q) (x : Value) : Br w (u.setCell ⟨X, i, none⟩ x) (A ++ bRow X t q (xs.set i x) :: C) B I L a c zs k :=
  ⟨h.sep.setBox i hi x, h.got.set X i x ((h.sep.lt (bRow X t q xs) (by simp) X rfl).1) h.lt, h.lt⟩
theorem Br.grow {A C : List RowI} {r : RowI} (h : Br w u (A ++ r :: C) B I L a c zs k) (r' : RowI) (ho : r'.own v w.heap.size) (hg : u.grownBy v r.v.ownBlock) (hat : r'.v.ownBlock = r.v.ownBlock ∨ ∀ g, r'.v.ownBlock = some g → u.heap.size ≤ g) : Br w v (A ++ r' :: C) B I L a c zs k :=
  ⟨h.sep.grow r' ho hg hat, h.got.grow hg (fun g e => (h.sep.lt r (by simp) g e).1) h.lt, h.lt⟩
theorem Br.app {A C : List RowI} {r : RowI} (h : Br w u (A ++ r :: C) B I L a c zs k) (r' : RowI) (ho : r'.own v w.heap.size) (hg : u.grownBy v r.v.ownBlock) (hat : r'.v.ownBlock = r.v.ownBlock ∨ r'.v.ownBlock = some u.heap.size) : Br w v (A ++ r' :: C) B I L a c zs k :=
  h.grow r' ho hg (hat.imp_right fun e g hg => by rw [e] at hg; cases hg; exact Nat.le_refl _)
theorem Br.sub {M : List RowI} (h : Br w u Ls B I L a c zs k) (hs : M.Sublist Ls) : Br w u M B I L a c zs k := ⟨h.sep.sub hs, h.got, h.lt⟩
theorem Br.perm {M : List RowI} (h : Br w u Ls B I L a c zs k) (hs : Ls.Perm M) : Br w u M B I L a c zs k := ⟨h.sep.perm hs, h.got, h.lt⟩
theorem Br.nil (h : Br w u Ls B I L a c zs k) (e : TypeId) (q : Nat) : Br w u (Ls ++ [⟨e, q, .slice none 0 0, 0, []⟩]) B I L a c zs k :=
  ⟨h.sep.snoc (N := u.heap.size) (fun x hx g hg => (h.sep.lt x hx g hg).2) (World.ownsRow_nil _ _ _ _) h.size, h.got, h.lt⟩
theorem Br.cell {X : Nat} {t : TypeId} {q : Nat} {xs : List Value} (h : Br w u Ls B I L a c zs k) (hm : bRow X t q xs ∈ Ls) (i : Nat) (hi : i < q) : u.cell? ⟨X, i, none⟩ = xs[i]? := bRow.cell (h.sep.own _ hm) i hi
theorem Br.frozen {X : Nat} {t : TypeId} {q : Nat} {xs : List Value} (h : Br w u Ls B I L a c zs k) (hm : bRow X t q xs ∈ Ls) (i : Nat) : u.frozen? ⟨X, i, none⟩ = false := World.ownsRow.frozenAt (show u.ownsRow w.heap.size t q (.slice (some ⟨X, 0, none⟩) 1 1) 1 xs from h.sep.own _ hm) i
theorem Br.four {X : Nat} {t : TypeId} {x0 x1 x2 x3 : Value} (h : Br w u Ls B I L a c zs k) (hm : bRow X t 4 [x0, x1, x2, x3] ∈ Ls) : (u.cell? ⟨X, 0, none⟩ = some x0 ∧ u.cell? ⟨X, 1, none⟩ = some x1 ∧ u.cell? ⟨X, 2, none⟩ = some x2 ∧ u.cell? ⟨X, 3, none⟩ = some x3) ∧ (u.frozen? ⟨X, 0, none⟩ = false ∧ u.frozen? ⟨X, 1, none⟩ = false ∧ u.frozen? ⟨X, 2, none⟩ = false ∧ u.frozen? ⟨X, 3, none⟩ = false) :=
  ⟨⟨h.cell hm 0 (by omega), h.cell hm 1 (by omega), h.cell hm 2 (by omega), h.cell hm 3 (by omega)⟩, h.frozen hm 0, h.frozen hm 1, h.frozen hm 2, h.frozen hm 3⟩
theorem Br.four_set {X : Nat} {t : TypeId} {x0 x1 x2 x3 : Value} {C : List RowI} (h : Br w u (bRow X t 4 [x0, x1, x2, x3] :: C) B I L a c zs k) (y0 y1 y2 y3 : Value) : Br w ((((u.setCell ⟨X, 0, none⟩ y0).setCell ⟨X, 1, none⟩ y1).setCell ⟨X, 2, none⟩ y2).setCell ⟨X, 3, none⟩ y3) (bRow X t 4 [y0, y1, y2, y3] :: C) B I L a c zs k :=
  Br.set (A := []) (Br.set (A := []) (Br.set (A := []) (Br.set (A := []) h 0 (by omega) y0) 1 (by omega) y1) 2 (by omega) y2) 3 (by omega) y3
end

end Go.Proofs.YtnemieeeappgnaaGreatDoor
