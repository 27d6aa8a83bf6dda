import Derived.Test.YtalkpddhpmjgcaaGreatCm12
import Derived.Test.YtalkpddhpmjgcaaGreatCm13
namespace Go.Proofs.YtalkpddhpmjgcaaGreat
open Go.ChangeShapes Go.WideShapes Go.ChangeAt Go.RowKit
set_option linter.unusedVariables false
set_option maxHeartbeats 2000000 in
set_option maxRecDepth 100000 in
theorem markInt64S_ex (base : Nat) (s : Value) (cs : List Int) (k0 : Int) (w : World) (hn : cs.length ≤ 1048576) (h0 : 0 ≤ k0) (h1 : k0 ≤ 1152921504606846976) (h : w.ownsRow base 2 1 s cs.length (cs.flatMap intCell)) :
    Calls Tryz.prog 65 #[s, .int .i64 k0] w fun e w' => e = .returned (.int .i64 (k0 + (cs.length : Int))) ∧ w'.ownsRow base 2 1 s cs.length ((markIs k0 cs.length).flatMap intCell) ∧ w.grownBy w' s.ownBlock := by
  have H : Hid (w.ownsRow base 2 1 s cs.length ((markITo k0 cs 0).flatMap intCell)) := by show World.ownsRow _ _ _ _ _ _ _; rw [markITo_zero]; exact h
  rcases own_row h with ⟨rfl, hz⟩ | ⟨g, c, rfl⟩
  · clear h
    rw [hz] at H ⊢
    have hfin : Hid (w.ownsRow base 2 1 (.slice none 0 0) 0 ((markIs k0 0).flatMap intCell)) := World.ownsRow_nil _ _ _ _
    go_enter Tryz.func65, Tryz.ntmps65
    go_wp2
    go_loopw [1, 5] (fun q i wr => q = .int .i64 k0 ∧ i = .int .i64 0 ∧ wr = w) (fun _ _ _ => 0)
    case atStart => exact ⟨rfl, rfl, rfl⟩
    case round =>
      obtain ⟨rfl, rfl, rfl⟩ := hrel
      go_wp2
      go_ret
      exact ⟨by simp, hfin.out, ⟨rfl, rfl, rfl, Nat.le_refl _, fun _ _ _ => rfl⟩⟩
  · clear h
    generalize hLL : cs.length = n at hn H ⊢
    have HL : Hid (cs.length = n) := hLL
    clear hLL
    go_enter Tryz.func65, Tryz.ntmps65
    go_wp2
    go_loopw [1, 5] (fun q i wr => ∃ k : Nat, k ≤ n ∧ q = .int .i64 (k0 + k) ∧ i = .int .i64 k ∧ Hid (wr.ownsRow base 2 1 (.slice (some ⟨g, 0, none⟩) n c) n ((markITo k0 cs k).flatMap intCell) ∧ w.grownBy wr (some g))) (fun _ i _ => n - (intOf i).toNat)
    case atStart => exact ⟨0, by omega, by simp, rfl, H.out, ⟨rfl, rfl, rfl, Nat.le_refl _, fun _ _ _ => rfl⟩⟩
    case round =>
      obtain ⟨k, hk, rfl, rfl, HM⟩ := hrel
      by_cases hlt : k < n
      · obtain ⟨x, hx⟩ : ∃ x, cs[k]? = some x := ⟨_, List.getElem?_eq_getElem (by rw [HL.out]; exact hlt)⟩
        have hA : ((markIs k0 k).flatMap intCell).length = k := by rw [flat_length intCell 1 intCell_length, markIs_length, Nat.mul_one]
        have d0 := HM.out.1.cellAt k (by omega)
        rw [markITo_parts k0 cs k x hx, List.getElem?_append_right (by omega), hA, Nat.sub_self] at d0
        simp only [intCell, List.cons_append, List.getElem?_cons_zero] at d0
        have z0 := HM.out.1.frozenAt k
        have HN : Hid ((wr.setCell ⟨g, k, none⟩ (.int .i64 (k0 + k))).ownsRow base 2 1 (.slice (some ⟨g, 0, none⟩) n c) n ((markITo k0 cs (k + 1)).flatMap intCell) ∧ w.grownBy (wr.setCell ⟨g, k, none⟩ (.int .i64 (k0 + k))) (some g)) := by
          refine ⟨?_, grown_set' HM.out.2 _ _⟩
          have s1 := (HM.out.1.stored k (.int .i64 (k0 + k))).1
          rw [markITo_next k0 cs k x hx] at s1
          exact s1
        clear hA hx
        go_wp2
        go_roundw
        case rel => exact ⟨k + 1, by omega, by go_num, by go_num, HN⟩
        case measure => simp [intOf]; omega
      · have hkn : k = n := by omega
        subst hkn
        have HE : Hid (wr.ownsRow base 2 1 (.slice (some ⟨g, 0, none⟩) k c) k ((markIs k0 k).flatMap intCell) ∧ w.grownBy wr (some g)) := by
          have := HM.out
          rw [markITo_all k0 cs k HL.out] at this
          exact this
        go_wp2
        go_ret
        exact ⟨rfl, HE.out.1, HE.out.2⟩
set_option maxHeartbeats 1000000 in
theorem heldInt64S_ex (s : Value) (n : Nat) (k0 : Int) (w : World) (hn : n ≤ 1048576) (h0 : 0 ≤ k0) (h1 : k0 ≤ 1152921504606846976) (h : Rd w 1 s n ((markIs k0 n).flatMap intCell)) :
    Calls Tryz.prog 67 #[s, .int .i64 k0] w fun e w' => e = .returned (.int .i64 (k0 + (n : Int))) ∧ w' = w := by
  have H1 : Hid (Rd w 1 s n ((markIs k0 n).flatMap intCell)) := h
  obtain ⟨a1, c1, rfl⟩ := h.is_slice
  clear h
  go_enter Tryz.func67, Tryz.ntmps67
  go_wp2
  go_loopw [1, 5] (fun q i wr => ∃ k : Nat, k ≤ n ∧ q = .int .i64 (k0 + k) ∧ i = .int .i64 k ∧ wr = w) (fun _ i _ => n - (intOf i).toNat)
  case atStart => exact ⟨0, by omega, by simp, rfl, rfl⟩
  case round =>
    obtain ⟨k, hk, rfl, rfl, rfl⟩ := hrel
    by_cases hlt : k < n
    · have hz : (markIs k0 n)[k]? = some (k0 + (k : Int)) := by simp [markIs, hlt]
      rcases H1.out.2 with ⟨e0, _⟩ | ⟨g, o, c, e1, hc1⟩
      · omega
      simp only [Value.slice.injEq, true_and] at e1
      obtain ⟨rfl, rfl⟩ := e1
      have j0 := Rd.elem intCell_length hc1 k _ hz 0 _ rfl
      rw [Nat.mul_one, Nat.add_zero] at j0
      clear hc1 hz
      go_wp2
      go_roundw
      case rel => exact ⟨k + 1, by omega, by go_num, by go_num, by trivial⟩
      case measure => simp [intOf]; omega
    · have hkn : k = n := by omega
      subst hkn
      go_wp2
      go_ret
      exact ⟨rfl, rfl⟩
end Go.Proofs.YtalkpddhpmjgcaaGreat
namespace Go.Proofs.YtalkpddhpmjgcaaGreat
open Go.ChangeShapes Go.WideShapes Go.ChangeAt Go.RowKit
set_option linter.unusedVariables false
def iRow (v : Value) (cs : List Int) : RowI := ⟨2, 1, v, cs.length, cs.flatMap intCell⟩
def nRow (v : Value) (cs : List MI) : RowI := ⟨92, 4, v, cs.length, cs.flatMap MI.cells⟩
/-- The rows of a list of rows. -/
def rItems (F : List (List Int × Value)) : List RowI := F.map fun x => iRow x.2 x.1
def fItem (y : MF × VF) : List RowI := [iRow y.2.p y.1.params, iRow y.2.l y.1.locals, nRow y.2.c y.1.code]
def fItems (G : List (MF × VF)) : List RowI := G.flatMap fItem
def rHead (s : Value) (F : List (List Int × Value)) : RowI := ⟨49, 1, s, F.length, F.flatMap rCells⟩
def fHead (s : Value) (G : List (MF × VF)) : RowI := ⟨86, 4, s, G.length, G.flatMap fCells⟩
def cRow (v : Value) (cs : List MC) : RowI := ⟨108, 2, v, cs.length, cs.flatMap MC.cells⟩
def tRow (v : Value) (cs : List MT) : RowI := ⟨112, 4, v, cs.length, cs.flatMap MT.cells⟩
/-- What marking leaves of rows, from k on; where it ends. -/
def markRs : Int → List (List Int × Value) → List (List Int × Value)
  | _, [] => []
  | k, x :: r => (markIs k x.1.length, x.2) :: markRs (k + (x.1.length : Int)) r
def endR : Int → List (List Int × Value) → Int
  | k, [] => k
  | k, x :: r => endR (k + (x.1.length : Int)) r
theorem endR_snoc (k : Int) (L : List (List Int × Value)) (x : List Int × Value) : endR k (L ++ [x]) = endR k L + (x.1.length : Int) := by
  induction L generalizing k with
  | nil => rfl
  | cons y r ih => simp only [List.cons_append, endR]; exact ih _
theorem markRs_app (k : Int) (L M : List (List Int × Value)) : markRs k (L ++ M) = markRs k L ++ markRs (endR k L) M := by
  induction L generalizing k with
  | nil => rfl
  | cons y r ih => simp only [List.cons_append, markRs, endR]; rw [ih]
theorem markRs_length (k : Int) (L : List (List Int × Value)) : (markRs k L).length = L.length := by
  induction L generalizing k with
  | nil => rfl
  | cons x r ih => simp [markRs, ih]
theorem endR_le (k : Int) (L : List (List Int × Value)) (h : ∀ x ∈ L, x.1.length ≤ 1048576) : k ≤ endR k L ∧ endR k L ≤ k + 1048576 * (L.length : Int) := by
  induction L generalizing k with
  | nil => simp [endR]
  | cons x r ih =>
    have h1 := h x (by simp)
    have h2 := ih (k + (x.1.length : Int)) (fun y hy => h y (by simp [hy]))
    simp only [endR, List.length_cons]
    omega
theorem markRs_cells (k : Int) (L : List (List Int × Value)) : (markRs k L).flatMap rCells = L.flatMap rCells := by
  induction L generalizing k with
  | nil => rfl
  | cons x r ih => simp [markRs, ih, rCells]
def markF (k : Int) (y : MF × VF) : MF × VF := (⟨markIs k y.1.params.length, k + (y.1.params.length : Int), markIs (k + (y.1.params.length : Int) + 1) y.1.locals.length, mkRow mkI 4 (k + (y.1.params.length : Int) + 1 + (y.1.locals.length : Int)) y.1.code.length⟩, y.2)
def nextF (k : Int) (y : MF × VF) : Int := k + (y.1.params.length : Int) + 1 + (y.1.locals.length : Int) + 4 * (y.1.code.length : Int)
def markFs : Int → List (MF × VF) → List (MF × VF)
  | _, [] => []
  | k, x :: r => markF k x :: markFs (nextF k x) r
def endF : Int → List (MF × VF) → Int
  | k, [] => k
  | k, x :: r => endF (nextF k x) r
theorem endF_snoc (k : Int) (L : List (MF × VF)) (x : MF × VF) : endF k (L ++ [x]) = nextF (endF k L) x := by
  induction L generalizing k with
  | nil => rfl
  | cons y r ih => simp only [List.cons_append, endF]; exact ih _
theorem markFs_app (k : Int) (L M : List (MF × VF)) : markFs k (L ++ M) = markFs k L ++ markFs (endF k L) M := by
  induction L generalizing k with
  | nil => rfl
  | cons y r ih => simp only [List.cons_append, markFs, endF]; rw [ih]
theorem markFs_length (k : Int) (L : List (MF × VF)) : (markFs k L).length = L.length := by
  induction L generalizing k with
  | nil => rfl
  | cons x r ih => simp [markFs, ih]
theorem endF_le (k : Int) (L : List (MF × VF)) (h : ∀ x ∈ L, x.1.small) : k ≤ endF k L ∧ endF k L ≤ k + 6291457 * (L.length : Int) := by
  induction L generalizing k with
  | nil => simp [endF]
  | cons x r ih =>
    have h1 := h x (by simp)
    have h2 := ih (nextF k x) (fun y hy => h y (by simp [hy]))
    simp only [endF, List.length_cons]
    unfold nextF at h2 ⊢
    unfold MF.small at h1
    omega
theorem own_sl {w : World} {base : Nat} {e : TypeId} {s : Value} {k n : Nat} {xs : List Value} (h : w.ownsRow base e k s n xs) : ∃ a c, s = .slice a n c := (Rd.of_own h).is_slice
set_option maxHeartbeats 4000000 in
set_option maxRecDepth 100000 in
theorem markInt64SS_sep (base : Nat) (s : Value) (A B : List RowI) (F : List (List Int × Value)) (k0 : Int) (w : World) (hB : base ≤ w.heap.size) (hn : F.length ≤ 1048576) (hr : ∀ x ∈ F, x.1.length ≤ 1048576) (h0 : 0 ≤ k0) (h1 : k0 ≤ 281474976710656) (h : Sep w base (A ++ rHead s F :: rItems F ++ B)) :
    Calls Tryz.prog 32 #[s, .int .i64 k0] w fun e w' => e = .returned (.int .i64 (endR k0 F)) ∧ Sep w' base (A ++ rHead s F :: rItems (markRs k0 F) ++ B) ∧ Below base w w' := by
  have H : Hid (Sep w base (A ++ rHead s F :: rItems F ++ B) ∧ (∀ x ∈ F, x.1.length ≤ 1048576)) := ⟨h, hr⟩
  obtain ⟨a1, c1, e1⟩ : ∃ a c, s = .slice a F.length c := own_sl (h.own (rHead s F) (by simp))
  subst e1
  clear h hr
  simp only [rHead] at H ⊢
  generalize hLL : F.length = n at *
  have HLn : Hid (F.length = n) := hLL
  clear hLL
  go_enter Tryz.func32, Tryz.ntmps32
  go_wp2
  go_loopw [1, 5] (fun q i wr => ∃ D E : List (List Int × Value), Hid (F = D ++ E) ∧ D.length ≤ n ∧ q = .int .i64 (endR k0 D) ∧ i = .int .i64 (D.length : Nat) ∧ Hid (Sep wr base (A ++ ⟨49, 1, .slice a1 n c1, n, F.flatMap rCells⟩ :: rItems (markRs k0 D) ++ rItems E ++ B) ∧ Below base w wr)) (fun _ i _ => n - (intOf i).toNat)
  case atStart => exact ⟨[], F, rfl, by simp, rfl, rfl, ⟨by simpa [markRs, rItems] using H.out.1, Below.refl _ _⟩⟩
  case round =>
    obtain ⟨D, E, HD, hk, rfl, rfl, HM⟩ := hrel
    have hlen : D.length + E.length = n := by have := HLn.out; rw [HD.out, List.length_append] at this; exact this
    have hend := endR_le k0 D (fun x hx => H.out.2 x (by rw [HD.out]; simp [hx]))
    generalize hK : endR k0 D = K at hend ⊢
    have HK : Hid (endR k0 D = K) := hK
    clear hK
    cases E with
    | cons x E' =>
      obtain ⟨f, v⟩ := x
      have hlt : D.length < n := by simp only [List.length_cons] at hlen; omega
      have hcl : f.length ≤ 1048576 := H.out.2 (f, v) (by rw [HD.out]; simp)
      have hx : F[D.length]? = some (f, v) := by rw [HD.out]; simp
      have hrow := Rd.of_own (HM.out.1.own ⟨49, 1, .slice a1 n c1, n, F.flatMap rCells⟩ (by simp))
      simp only [] at hrow
      rcases hrow.2 with ⟨e0, _⟩ | ⟨g, o, c, e1, hc1⟩
      · omega
      simp only [Value.slice.injEq, true_and] at e1
      obtain ⟨rfl, rfl⟩ := e1
      have j0 := Rd.elem rCells_length hc1 D.length _ hx 0 _ rfl
      rw [Nat.mul_one, Nat.add_zero] at j0
      simp only [] at j0
      have hs : Sep wr base ((A ++ ⟨49, 1, .slice (some ⟨g, o, none⟩) n c1, n, F.flatMap rCells⟩ :: rItems (markRs k0 D)) ++ iRow v f :: (rItems E' ++ B)) := by
        have := HM.out.1
        simpa [rItems, List.append_assoc] using this
      have hov := hs.own (iRow v f) (by simp)
      have HS : Hid _ := hs
      have HO : Hid (wr.ownsRow base 2 1 v f.length (f.flatMap intCell)) := hov
      clear hrow hc1 hx hov hs
      go_wp2_with fail
      refine (markInt64S_ex base v f K _ hcl (by omega) (by omega) HO.out).mono ?_
      rintro e u ⟨rfl, ho', hg⟩
      have hes : endR k0 (D ++ [(f, v)]) = K + (f.length : Int) := by rw [endR_snoc, HK.out]
      have HN : Hid (Sep u base (A ++ ⟨49, 1, .slice (some ⟨g, o, none⟩) n c1, n, F.flatMap rCells⟩ :: rItems (markRs k0 (D ++ [(f, v)])) ++ rItems E' ++ B) ∧ Below base w u) := by
        have hsz : base ≤ wr.heap.size := Nat.le_trans hB HM.out.2.size
        refine ⟨?_, HM.out.2.grown hg hsz (fun k hk => (HO.out.lt k hk).1)⟩
        have := HS.out.put ((markIs K f.length).flatMap intCell) ho' hg
        rw [markRs_app, HK.out]
        simpa [rItems, markRs, iRow, markIs_length, List.append_assoc] using this
      clear ho' hg HS HO
      go_wp2
      go_roundw
      case rel => exact ⟨D ++ [(f, v)], E', by show _ = _; rw [HD.out]; simp, by simp; omega, by rw [hes], by simp, HN⟩
      case measure => simp [intOf]; omega
    | nil =>
      have hDn : D.length = n := by simpa using hlen
      have hDL : D = F := by rw [HD.out]; simp
      subst hDL
      have HE : Hid (Sep wr base (A ++ ⟨49, 1, .slice a1 n c1, n, D.flatMap rCells⟩ :: rItems (markRs k0 D) ++ B) ∧ Below base w wr) := ⟨by simpa [rItems] using HM.out.1, HM.out.2⟩
      have hKe := HK.out
      go_wp2
      go_ret
      exact ⟨by simp [hKe], HE.out.1, HE.out.2⟩
end Go.Proofs.YtalkpddhpmjgcaaGreat
namespace Go.Proofs.YtalkpddhpmjgcaaGreat
open Go.ChangeShapes Go.WideShapes Go.ChangeAt Go.RowKit
set_option linter.unusedVariables false
theorem grown_refl (w : World) (r : Option Nat) : w.grownBy w r := ⟨rfl, rfl, rfl, Nat.le_refl _, fun _ _ _ => rfl⟩
theorem set2of4 (A R : List Value) (z0 z1 z2 z3 c1 : Value) (i : Nat) (h : A.length = i) : ((A ++ ([z0, z1, z2, z3] ++ R)).set (i + 1) c1) = A ++ ([z0, c1, z2, z3] ++ R) := by
  subst h
  simp [List.set_append_right]
theorem fItems_app (G H : List (MF × VF)) : fItems (G ++ H) = fItems G ++ fItems H := by simp [fItems]
theorem fItems_cons (y : MF × VF) (H : List (MF × VF)) : fItems (y :: H) = iRow y.2.p y.1.params :: iRow y.2.l y.1.locals :: nRow y.2.c y.1.code :: fItems H := by simp [fItems, fItem]
set_option maxHeartbeats 4000000 in
set_option maxRecDepth 100000 in
theorem markFuncS_sep (base : Nat) (s : Value) (A B : List RowI) (F : List (MF × VF)) (k0 : Int) (w : World) (hB : base ≤ w.heap.size) (hn : F.length ≤ 1048576) (hr : ∀ x ∈ F, x.1.small) (h0 : 0 ≤ k0) (h1 : k0 ≤ 281474976710656) (h : Sep w base (A ++ fHead s F :: fItems F ++ B)) :
    Calls Tryz.prog 34 #[s, .int .i64 k0] w fun e w' => e = .returned (.int .i64 (endF k0 F)) ∧ Sep w' base (A ++ fHead s (markFs k0 F) :: fItems (markFs k0 F) ++ B) ∧ Below base w w' := by
  have H : Hid (Sep w base (A ++ fHead s F :: fItems F ++ B) ∧ (∀ x ∈ F, x.1.small)) := ⟨h, hr⟩
  have hml := markFs_length k0 F
  rcases (h.own (fHead s F) (by simp)).2 with ⟨e1, hz⟩ | ⟨g, c1, cur, e1, _⟩
  · have hz' : F = [] := List.eq_nil_of_length_eq_zero hz
    subst hz'
    have e2 : s = .slice none 0 0 := e1
    subst e2
    clear h hr e1 hz
    go_enter Tryz.func34, Tryz.ntmps34
    go_wp2
    go_loopw [1, 5] (fun q i wr => q = .int .i64 k0 ∧ i = .int .i64 0 ∧ wr = w) (fun _ _ _ => 0)
    case atStart => exact ⟨rfl, rfl, rfl⟩
    case round =>
      obtain ⟨rfl, rfl, rfl⟩ := hrel
      go_wp2
      go_ret
      exact ⟨rfl, H.out.1, Below.refl _ _⟩
  have e2 : s = .slice (some ⟨g, 0, none⟩) F.length c1 := e1
  subst e2
  clear h hr e1
  simp only [fHead] at H ⊢
  rw [hml]
  clear hml
  generalize hLL : F.length = n at *
  have HLn : Hid (F.length = n) := hLL
  clear hLL
  go_enter Tryz.func34, Tryz.ntmps34
  go_wp2
  go_loopw [1, 5] (fun q i wr => ∃ D E : List (MF × VF), Hid (F = D ++ E) ∧ D.length ≤ n ∧ q = .int .i64 (endF k0 D) ∧ i = .int .i64 (D.length : Nat) ∧ Hid (Sep wr base (A ++ ⟨86, 4, .slice (some ⟨g, 0, none⟩) n c1, n, (markFs k0 D ++ E).flatMap fCells⟩ :: fItems (markFs k0 D ++ E) ++ B) ∧ Below base w wr)) (fun _ i _ => n - (intOf i).toNat)
  case atStart => exact ⟨[], F, rfl, by simp, rfl, rfl, ⟨by simpa [markFs] using H.out.1, Below.refl _ _⟩⟩
  case round =>
    obtain ⟨D, E, HD, hk, rfl, rfl, HM⟩ := hrel
    have hlen : D.length + E.length = n := by have := HLn.out; rw [HD.out, List.length_append] at this; exact this
    have hend := endF_le k0 D (fun x hx => H.out.2 x (by rw [HD.out]; simp [hx]))
    generalize hK : endF k0 D = K at hend ⊢
    have HK : Hid (endF k0 D = K) := hK
    clear hK
    cases E with
    | cons x E' =>
      obtain ⟨⟨ps, rs, ls, cs⟩, ⟨vp, vl, vc⟩⟩ := x
      have hlt : D.length < n := by simp only [List.length_cons] at hlen; omega
      have hcl : ps.length ≤ 1048576 ∧ ls.length ≤ 1048576 ∧ cs.length ≤ 1048576 := H.out.2 (⟨ps, rs, ls, cs⟩, ⟨vp, vl, vc⟩) (by rw [HD.out]; simp)
      obtain ⟨hc1, hc2, hc3⟩ := hcl
      have hA : ((markFs k0 D).flatMap fCells).length = D.length * 4 := by rw [flat_length fCells 4 fCells_length, markFs_length]
      have hsp : (markFs k0 D ++ (⟨ps, rs, ls, cs⟩, ⟨vp, vl, vc⟩) :: E').flatMap fCells = (markFs k0 D).flatMap fCells ++ ([vp, .int .i64 rs, vl, vc] ++ E'.flatMap fCells) := by
        rw [List.flatMap_append, List.flatMap_cons]
        rfl
      have hs0 := HM.out.1
      rw [hsp, fItems_app, fItems_cons] at hs0
      simp only [] at hs0
      have HEQ : Hid ((markFs k0 (D ++ [(⟨ps, rs, ls, cs⟩, ⟨vp, vl, vc⟩)]) ++ E').flatMap fCells = (markFs k0 D).flatMap fCells ++ ([vp, .int .i64 (K + (ps.length : Int)), vl, vc] ++ E'.flatMap fCells) ∧ fItems (markFs k0 (D ++ [(⟨ps, rs, ls, cs⟩, ⟨vp, vl, vc⟩)]) ++ E') = fItems (markFs k0 D) ++ iRow vp (markIs K ps.length) :: iRow vl (markIs (K + (ps.length : Int) + 1) ls.length) :: nRow vc (mkRow mkI 4 (K + (ps.length : Int) + 1 + (ls.length : Int)) cs.length) :: fItems E' ∧ endF k0 (D ++ [(⟨ps, rs, ls, cs⟩, ⟨vp, vl, vc⟩)]) = K + (ps.length : Int) + 1 + (ls.length : Int) + 4 * (cs.length : Int)) := by
        refine ⟨?_, ?_, by rw [endF_snoc, HK.out]; rfl⟩
        · rw [markFs_app, HK.out, List.append_assoc, List.flatMap_append]
          rfl
        · rw [markFs_app, HK.out, List.append_assoc, fItems_app]
          simp only [markFs, List.cons_append, List.nil_append]
          rw [fItems_cons]
          rfl
      have HFD : Hid (F = (D ++ [(⟨ps, rs, ls, cs⟩, ⟨vp, vl, vc⟩)]) ++ E') := by show _ = _; rw [HD.out]; simp
      have hDl : (D ++ [((⟨ps, rs, ls, cs⟩, ⟨vp, vl, vc⟩) : MF × VF)]).length = D.length + 1 := by simp
      generalize (markFs k0 D).flatMap fCells = M at hA hs0 HEQ
      generalize E'.flatMap fCells = R at hs0 HEQ
      generalize fItems (markFs k0 D) = MI1 at hs0 HEQ
      generalize fItems E' = T1 at hs0 HEQ
      generalize hDD : D ++ [((⟨ps, rs, ls, cs⟩, ⟨vp, vl, vc⟩) : MF × VF)] = D' at HEQ HFD hDl
      clear hDD hsp
      have S0 : Hid (Sep wr base ((A ++ ⟨86, 4, .slice (some ⟨g, 0, none⟩) n c1, n, M ++ ([vp, .int .i64 rs, vl, vc] ++ R)⟩ :: MI1) ++ iRow vp ps :: (iRow vl ls :: nRow vc cs :: (T1 ++ B)))) := by
        show Sep _ _ _
        simpa [List.append_assoc] using hs0
      clear hs0
      obtain ⟨ap, cp, e1⟩ := own_sl (S0.out.own (iRow vp ps) (by simp))
      obtain ⟨al, cl, e2⟩ := own_sl (S0.out.own (iRow vl ls) (by simp))
      obtain ⟨ac, cc, e3⟩ := own_sl (S0.out.own (nRow vc cs) (by simp))
      simp only [iRow, nRow] at e1 e2 e3
      subst e1 e2 e3
      have hrow := S0.out.own ⟨86, 4, .slice (some ⟨g, 0, none⟩) n c1, n, M ++ ([.slice ap ps.length cp, .int .i64 rs, .slice al ls.length cl, .slice ac cs.length cc] ++ R)⟩ (by simp)
      have d0 := World.ownsRow.cellAt (show wr.ownsRow base 86 4 (.slice (some ⟨g, 0, none⟩) n c1) n (M ++ ([.slice ap ps.length cp, .int .i64 rs, .slice al ls.length cl, .slice ac cs.length cc] ++ R)) from hrow) (D.length * 4) (by omega)
      rw [List.getElem?_append_right (by omega), hA, Nat.sub_self] at d0
      simp only [List.cons_append, List.getElem?_cons_zero] at d0
      have hdl : (D.length : Int) < (n : Int) := by omega
      clear hrow
      have hbz : base ≤ wr.heap.size := Nat.le_trans hB HM.out.2.size
      go_wp2_with fail
      refine (markInt64S_ex base (.slice ap ps.length cp) ps K _ hc1 (by omega) (by omega) (S0.out.own (iRow (.slice ap ps.length cp) ps) (by simp))).mono ?_
      rintro e u1 ⟨rfl, ho, hg⟩
      have S1 : Hid (Sep u1 base (A ++ ⟨86, 4, .slice (some ⟨g, 0, none⟩) n c1, n, M ++ ([.slice ap ps.length cp, .int .i64 rs, .slice al ls.length cl, .slice ac cs.length cc] ++ R)⟩ :: (MI1 ++ iRow (.slice ap ps.length cp) (markIs K ps.length) :: iRow (.slice al ls.length cl) ls :: nRow (.slice ac cs.length cc) cs :: (T1 ++ B))) ∧ Below base w u1) := by
        refine ⟨?_, HM.out.2.grown hg hbz (fun k hk => ((S0.out.own (iRow (.slice ap ps.length cp) ps) (by simp)).lt k hk).1)⟩
        have := S0.out.put ((markIs K ps.length).flatMap intCell) ho hg
        simpa [iRow, markIs_length, List.append_assoc] using this
      clear ho hg d0 S0
      have hro : RowI.own u1 base ⟨86, 4, .slice (some ⟨g, 0, none⟩) n c1, n, M ++ ([.slice ap ps.length cp, .int .i64 rs, .slice al ls.length cl, .slice ac cs.length cc] ++ R)⟩ := S1.out.1.own _ (by simp)
      have hrow : u1.ownsRow base 86 4 (.slice (some ⟨g, 0, none⟩) n c1) n (M ++ ([.slice ap ps.length cp, .int .i64 rs, .slice al ls.length cl, .slice ac cs.length cc] ++ R)) := hro
      clear hro
      have d1 := hrow.cellAt (D.length * 4 + 1) (by omega)
      rw [List.getElem?_append_right (by omega), hA, Nat.add_sub_cancel_left] at d1
      simp only [List.cons_append, List.getElem?_cons_zero, List.getElem?_cons_succ] at d1
      have z1 := hrow.frozenAt (D.length * 4 + 1)
      have r1 := (hrow.stored (D.length * 4 + 1) (.int .i64 (K + (ps.length : Int)))).1
      rw [set2of4 _ _ _ _ _ _ _ _ hA] at r1
      have S2 : Hid (Sep (u1.setCell ⟨g, D.length * 4 + 1, none⟩ (.int .i64 (K + (ps.length : Int)))) base (A ++ ⟨86, 4, .slice (some ⟨g, 0, none⟩) n c1, n, M ++ ([.slice ap ps.length cp, .int .i64 (K + (ps.length : Int)), .slice al ls.length cl, .slice ac cs.length cc] ++ R)⟩ :: (MI1 ++ iRow (.slice ap ps.length cp) (markIs K ps.length) :: iRow (.slice al ls.length cl) ls :: nRow (.slice ac cs.length cc) cs :: (T1 ++ B))) ∧ Below base w (u1.setCell ⟨g, D.length * 4 + 1, none⟩ (.int .i64 (K + (ps.length : Int))))) := ⟨S1.out.1.put _ r1 (grown_set' (grown_refl _ _) _ _), S1.out.2.setCell (hrow.lt g rfl).1 _⟩
      have d2 := r1.cellAt (D.length * 4 + 2) (by omega)
      rw [List.getElem?_append_right (by omega), hA, Nat.add_sub_cancel_left] at d2
      simp only [List.cons_append, List.getElem?_cons_zero, List.getElem?_cons_succ] at d2
      clear S1 hrow r1
      have S2' : Hid (Sep (u1.setCell ⟨g, D.length * 4 + 1, none⟩ (.int .i64 (K + (ps.length : Int)))) base ((A ++ ⟨86, 4, .slice (some ⟨g, 0, none⟩) n c1, n, M ++ ([.slice ap ps.length cp, .int .i64 (K + (ps.length : Int)), .slice al ls.length cl, .slice ac cs.length cc] ++ R)⟩ :: (MI1 ++ [iRow (.slice ap ps.length cp) (markIs K ps.length)])) ++ iRow (.slice al ls.length cl) ls :: (nRow (.slice ac cs.length cc) cs :: (T1 ++ B)))) := by
        show Sep _ _ _
        simpa [List.append_assoc] using S2.out.1
      have hbz2 : base ≤ (u1.setCell ⟨g, D.length * 4 + 1, none⟩ (.int .i64 (K + (ps.length : Int)))).heap.size := Nat.le_trans hB S2.out.2.size
      have HO2 : Hid ((u1.setCell ⟨g, D.length * 4 + 1, none⟩ (.int .i64 (K + (ps.length : Int)))).ownsRow base 2 1 (.slice al ls.length cl) ls.length (ls.flatMap intCell)) := S2'.out.own (iRow (.slice al ls.length cl) ls) (by simp)
      have hw1 : IntKind.i64.wrap (K + (ps.length : Int)) = K + (ps.length : Int) := by rw [IntKind.wrap_i64]; omega
      go_wp2_with fail
      refine (markInt64S_ex base (.slice al ls.length cl) ls (K + (ps.length : Int) + 1) _ hc2 (by omega) (by omega) HO2.out).mono ?_
      rintro e u3 ⟨rfl, ho, hg⟩
      have S3 : Hid (Sep u3 base ((A ++ ⟨86, 4, .slice (some ⟨g, 0, none⟩) n c1, n, M ++ ([.slice ap ps.length cp, .int .i64 (K + (ps.length : Int)), .slice al ls.length cl, .slice ac cs.length cc] ++ R)⟩ :: (MI1 ++ [iRow (.slice ap ps.length cp) (markIs K ps.length), iRow (.slice al ls.length cl) (markIs (K + (ps.length : Int) + 1) ls.length)])) ++ nRow (.slice ac cs.length cc) cs :: (T1 ++ B)) ∧ Below base w u3) := by
        refine ⟨?_, S2.out.2.grown hg hbz2 (fun k hk => (HO2.out.lt k hk).1)⟩
        have := S2'.out.put ((markIs (K + (ps.length : Int) + 1) ls.length).flatMap intCell) ho hg
        simpa [iRow, markIs_length, List.append_assoc] using this
      clear ho hg d1 d2 z1 S2 S2' HO2 hbz2 hw1
      have hro : RowI.own u3 base ⟨86, 4, .slice (some ⟨g, 0, none⟩) n c1, n, M ++ ([.slice ap ps.length cp, .int .i64 (K + (ps.length : Int)), .slice al ls.length cl, .slice ac cs.length cc] ++ R)⟩ := S3.out.1.own _ (by simp)
      have hrow : u3.ownsRow base 86 4 (.slice (some ⟨g, 0, none⟩) n c1) n (M ++ ([.slice ap ps.length cp, .int .i64 (K + (ps.length : Int)), .slice al ls.length cl, .slice ac cs.length cc] ++ R)) := hro
      clear hro
      have d3 := hrow.cellAt (D.length * 4 + 3) (by omega)
      rw [List.getElem?_append_right (by omega), hA, Nat.add_sub_cancel_left] at d3
      simp only [List.cons_append, List.getElem?_cons_zero, List.getElem?_cons_succ] at d3
      have HO3 : Hid (u3.ownsRow base 92 4 (.slice ac cs.length cc) cs.length (cs.flatMap MI.cells)) := S3.out.1.own (nRow (.slice ac cs.length cc) cs) (by simp)
      have hbz3 : base ≤ u3.heap.size := Nat.le_trans hB S3.out.2.size
      clear hrow
      go_wp2_with fail
      refine (markInstrS_ex base (.slice ac cs.length cc) cs (K + (ps.length : Int) + 1 + (ls.length : Int)) _ hc3 (by omega) (by omega) HO3.out).mono ?_
      rintro e u4 ⟨rfl, ho, hg⟩
      have S4 : Hid (Sep u4 base (A ++ ⟨86, 4, .slice (some ⟨g, 0, none⟩) n c1, n, (markFs k0 D' ++ E').flatMap fCells⟩ :: fItems (markFs k0 D' ++ E') ++ B) ∧ Below base w u4) := by
        refine ⟨?_, S3.out.2.grown hg hbz3 (fun k hk => (HO3.out.lt k hk).1)⟩
        have := S3.out.1.put ((mkRow mkI 4 (K + (ps.length : Int) + 1 + (ls.length : Int)) cs.length).flatMap MI.cells) ho hg
        rw [HEQ.out.1, HEQ.out.2.1]
        simpa [iRow, nRow, markIs_length, mkRow_length, List.append_assoc] using this
      clear ho hg d3 S3 HO3 hbz3 hA
      go_wp2
      go_roundw
      case rel => exact ⟨D', E', HFD, by omega, by rw [HEQ.out.2.2], by rw [hDl]; simp, S4⟩
      case measure => simp [intOf]; omega
    | nil =>
      have hDn : D.length = n := by simpa using hlen
      have hDL : D = F := by rw [HD.out]; simp
      subst hDL
      have HE : Hid (Sep wr base (A ++ ⟨86, 4, .slice (some ⟨g, 0, none⟩) n c1, n, (markFs k0 D).flatMap fCells⟩ :: fItems (markFs k0 D) ++ B) ∧ Below base w wr) := ⟨by simpa using HM.out.1, HM.out.2⟩
      have hKe := HK.out
      go_wp2
      go_ret
      exact ⟨by simp [hKe], HE.out.1, HE.out.2⟩
end Go.Proofs.YtalkpddhpmjgcaaGreat
