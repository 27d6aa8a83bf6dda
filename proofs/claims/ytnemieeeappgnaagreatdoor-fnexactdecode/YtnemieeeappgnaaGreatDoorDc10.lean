import Derived.Test.YtnemieeeappgnaaGreatDoorDc9
import Derived.Test.YtnemieeeappgnaaGreatDoorDc6
namespace Go.Proofs.YtnemieeeappgnaaGreatDoor
open Go.ChangeShapes Go.WideShapes Go.ChangeAt Go.RowKit
set_option linter.unusedVariables false
def iRow (v : Value) (cs : List Int) : RowI := ⟨2, 1, v, cs.length, cs.flatMap intCell⟩
def nRow (v : Value) (cs : List MI) : RowI := ⟨73, 4, v, cs.length, cs.flatMap MI.cells⟩
/-- The rows of a list of rows. -/
def rItems (F : List (List Int × Value)) : List RowI := F.map fun x => iRow x.2 x.1
def fItem (y : MF × VF) : List RowI := [iRow y.2.p y.1.params, iRow y.2.l y.1.locals, nRow y.2.c y.1.code]
def fItems (G : List (MF × VF)) : List RowI := G.flatMap fItem
def rHead (s : Value) (F : List (List Int × Value)) : RowI := ⟨57, 1, s, F.length, F.flatMap rCells⟩
def fHead (s : Value) (G : List (MF × VF)) : RowI := ⟨64, 4, s, G.length, G.flatMap fCells⟩
def cRow (v : Value) (cs : List MC) : RowI := ⟨61, 2, v, cs.length, cs.flatMap MC.cells⟩
def tRow (v : Value) (cs : List MT) : RowI := ⟨67, 4, v, cs.length, cs.flatMap MT.cells⟩
/-- What marking leaves of rows, from k on; where it ends. -/
def markRs : Int → List (List Int × Value) → List (List Int × Value)
  | _, [] => []
  | k, x :: r => (markIs k x.1.length, x.2) :: markRs (k + (x.1.length : Int)) r
def endR : Int → List (List Int × Value) → Int
  | k, [] => k
  | k, x :: r => endR (k + (x.1.length : Int)) r
theorem endR_snoc (k : Int) (L : List (List Int × Value)) (x : List Int × Value) : endR k (L ++ [x]) = endR k L + (x.1.length : Int) := by
  induction L generalizing k with
  | nil => rfl
  | cons y r ih => simp only [List.cons_append, endR]; exact ih _
theorem markRs_app (k : Int) (L M : List (List Int × Value)) : markRs k (L ++ M) = markRs k L ++ markRs (endR k L) M := by
  induction L generalizing k with
  | nil => rfl
  | cons y r ih => simp only [List.cons_append, markRs, endR]; rw [ih]
theorem markRs_length (k : Int) (L : List (List Int × Value)) : (markRs k L).length = L.length := by
  induction L generalizing k with
  | nil => rfl
  | cons x r ih => simp [markRs, ih]
theorem endR_le (k : Int) (L : List (List Int × Value)) (h : ∀ x ∈ L, x.1.length ≤ 1048576) : k ≤ endR k L ∧ endR k L ≤ k + 1048576 * (L.length : Int) := by
  induction L generalizing k with
  | nil => simp [endR]
  | cons x r ih =>
    have h1 := h x (by simp)
    have h2 := ih (k + (x.1.length : Int)) (fun y hy => h y (by simp [hy]))
    simp only [endR, List.length_cons]
    omega
theorem markRs_cells (k : Int) (L : List (List Int × Value)) : (markRs k L).flatMap rCells = L.flatMap rCells := by
  induction L generalizing k with
  | nil => rfl
  | cons x r ih => simp [markRs, ih, rCells]
def markF (k : Int) (y : MF × VF) : MF × VF := (⟨markIs k y.1.params.length, k + (y.1.params.length : Int), markIs (k + (y.1.params.length : Int) + 1) y.1.locals.length, mkRow mkI 4 (k + (y.1.params.length : Int) + 1 + (y.1.locals.length : Int)) y.1.code.length⟩, y.2)
def nextF (k : Int) (y : MF × VF) : Int := k + (y.1.params.length : Int) + 1 + (y.1.locals.length : Int) + 4 * (y.1.code.length : Int)
def markFs : Int → List (MF × VF) → List (MF × VF)
  | _, [] => []
  | k, x :: r => markF k x :: markFs (nextF k x) r
def endF : Int → List (MF × VF) → Int
  | k, [] => k
  | k, x :: r => endF (nextF k x) r
theorem endF_snoc (k : Int) (L : List (MF × VF)) (x : MF × VF) : endF k (L ++ [x]) = nextF (endF k L) x := by
  induction L generalizing k with
  | nil => rfl
  | cons y r ih => simp only [List.cons_append, endF]; exact ih _
theorem markFs_app (k : Int) (L M : List (MF × VF)) : markFs k (L ++ M) = markFs k L ++ markFs (endF k L) M := by
  induction L generalizing k with
  | nil => rfl
  | cons y r ih => simp only [List.cons_append, markFs, endF]; rw [ih]
theorem markFs_length (k : Int) (L : List (MF × VF)) : (markFs k L).length = L.length := by
  induction L generalizing k with
  | nil => rfl
  | cons x r ih => simp [markFs, ih]
theorem endF_le (k : Int) (L : List (MF × VF)) (h : ∀ x ∈ L, x.1.small) : k ≤ endF k L ∧ endF k L ≤ k + 6291457 * (L.length : Int) := by
  induction L generalizing k with
  | nil => simp [endF]
  | cons x r ih =>
    have h1 := h x (by simp)
    have h2 := ih (nextF k x) (fun y hy => h y (by simp [hy]))
    simp only [endF, List.length_cons]
    unfold nextF at h2 ⊢
    unfold MF.small at h1
    omega
theorem own_sl {w : World} {base : Nat} {e : TypeId} {s : Value} {k n : Nat} {xs : List Value} (h : w.ownsRow base e k s n xs) : ∃ a c, s = .slice a n c := (Rd.of_own h).is_slice
set_option maxHeartbeats 4000000 in
set_option maxRecDepth 100000 in
theorem markInt64SS_sep (base : Nat) (s : Value) (A B : List RowI) (F : List (List Int × Value)) (k0 : Int) (w : World) (hB : base ≤ w.heap.size) (hn : F.length ≤ 1048576) (hr : ∀ x ∈ F, x.1.length ≤ 1048576) (h0 : 0 ≤ k0) (h1 : k0 ≤ 281474976710656) (h : Sep w base (A ++ rHead s F :: rItems F ++ B)) :
    Calls Tryz.prog 36 #[s, .int .i64 k0] w fun e w' => e = .returned (.int .i64 (endR k0 F)) ∧ Sep w' base (A ++ rHead s F :: rItems (markRs k0 F) ++ B) ∧ Below base w w' := by
  have H : Hid (Sep w base (A ++ rHead s F :: rItems F ++ B) ∧ (∀ x ∈ F, x.1.length ≤ 1048576)) := ⟨h, hr⟩
  obtain ⟨a1, c1, e1⟩ : ∃ a c, s = .slice a F.length c := own_sl (h.own (rHead s F) (by simp))
  subst e1
  clear h hr
  simp only [rHead] at H ⊢
  generalize hLL : F.length = n at *
  have HLn : Hid (F.length = n) := hLL
  clear hLL
  go_enter Tryz.func36, Tryz.ntmps36
  go_wp2
  go_loopw [1, 5] (fun q i wr => ∃ D E : List (List Int × Value), Hid (F = D ++ E) ∧ D.length ≤ n ∧ q = .int .i64 (endR k0 D) ∧ i = .int .i64 (D.length : Nat) ∧ Hid (Sep wr base (A ++ ⟨57, 1, .slice a1 n c1, n, F.flatMap rCells⟩ :: rItems (markRs k0 D) ++ rItems E ++ B) ∧ Below base w wr)) (fun _ i _ => n - (intOf i).toNat)
  case atStart => exact ⟨[], F, rfl, by simp, rfl, rfl, ⟨by simpa [markRs, rItems] using H.out.1, Below.refl _ _⟩⟩
  case round =>
    obtain ⟨D, E, HD, hk, rfl, rfl, HM⟩ := hrel
    have hlen : D.length + E.length = n := by have := HLn.out; rw [HD.out, List.length_append] at this; exact this
    have hend := endR_le k0 D (fun x hx => H.out.2 x (by rw [HD.out]; simp [hx]))
    generalize hK : endR k0 D = K at hend ⊢
    have HK : Hid (endR k0 D = K) := hK
    clear hK
    cases E with
    | cons x E' =>
      obtain ⟨f, v⟩ := x
      have hlt : D.length < n := by simp only [List.length_cons] at hlen; omega
      have hcl : f.length ≤ 1048576 := H.out.2 (f, v) (by rw [HD.out]; simp)
      have hx : F[D.length]? = some (f, v) := by rw [HD.out]; simp
      have hrow := Rd.of_own (HM.out.1.own ⟨57, 1, .slice a1 n c1, n, F.flatMap rCells⟩ (by simp))
      simp only [] at hrow
      rcases hrow.2 with ⟨e0, _⟩ | ⟨g, o, c, e1, hc1⟩
      · omega
      simp only [Value.slice.injEq, true_and] at e1
      obtain ⟨rfl, rfl⟩ := e1
      have j0 := Rd.elem rCells_length hc1 D.length _ hx 0 _ rfl
      rw [Nat.mul_one, Nat.add_zero] at j0
      simp only [] at j0
      have hs : Sep wr base ((A ++ ⟨57, 1, .slice (some ⟨g, o, none⟩) n c1, n, F.flatMap rCells⟩ :: rItems (markRs k0 D)) ++ iRow v f :: (rItems E' ++ B)) := by
        have := HM.out.1
        simpa [rItems, List.append_assoc] using this
      have hov := hs.own (iRow v f) (by simp)
      have HS : Hid _ := hs
      have HO : Hid (wr.ownsRow base 2 1 v f.length (f.flatMap intCell)) := hov
      clear hrow hc1 hx hov hs
      go_wp2_with fail
      refine (markInt64S_ex base v f K _ hcl (by omega) (by omega) HO.out).mono ?_
      rintro e u ⟨rfl, ho', hg⟩
      have hes : endR k0 (D ++ [(f, v)]) = K + (f.length : Int) := by rw [endR_snoc, HK.out]
      have HN : Hid (Sep u base (A ++ ⟨57, 1, .slice (some ⟨g, o, none⟩) n c1, n, F.flatMap rCells⟩ :: rItems (markRs k0 (D ++ [(f, v)])) ++ rItems E' ++ B) ∧ Below base w u) := by
        have hsz : base ≤ wr.heap.size := Nat.le_trans hB HM.out.2.size
        refine ⟨?_, HM.out.2.grown hg hsz (fun k hk => (HO.out.lt k hk).1)⟩
        have := HS.out.put ((markIs K f.length).flatMap intCell) ho' hg
        rw [markRs_app, HK.out]
        simpa [rItems, markRs, iRow, markIs_length, List.append_assoc] using this
      clear ho' hg HS HO
      go_wp2
      go_roundw
      case rel => exact ⟨D ++ [(f, v)], E', by show _ = _; rw [HD.out]; simp, by simp; omega, by rw [hes], by simp, HN⟩
      case measure => simp [intOf]; omega
    | nil =>
      have hDn : D.length = n := by simpa using hlen
      have hDL : D = F := by rw [HD.out]; simp
      subst hDL
      have HE : Hid (Sep wr base (A ++ ⟨57, 1, .slice a1 n c1, n, D.flatMap rCells⟩ :: rItems (markRs k0 D) ++ B) ∧ Below base w wr) := ⟨by simpa [rItems] using HM.out.1, HM.out.2⟩
      have hKe := HK.out
      go_wp2
      go_ret
      exact ⟨by simp [hKe], HE.out.1, HE.out.2⟩
end Go.Proofs.YtnemieeeappgnaaGreatDoor
namespace Go.Proofs.YtnemieeeappgnaaGreatDoor
open Go.ChangeShapes Go.WideShapes Go.ChangeAt Go.RowKit
set_option linter.unusedVariables false
theorem wp_world {P : Program} {c : Code} {Q : Exit → Act → World → Prop} {a : Act} {U : World} (R : World → Prop) (h : R U) (k : ∀ u, R u → Code.wp P c Q a u) : Code.wp P c Q a U := k U h
end Go.Proofs.YtnemieeeappgnaaGreatDoor
