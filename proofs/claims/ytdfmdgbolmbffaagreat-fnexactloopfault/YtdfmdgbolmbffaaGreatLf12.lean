import Derived.Test.YtdfmdgbolmbffaaGreatLf11
import Derived.Test.YtdfmdgbolmbffaaGreatLf10
import Derived.Test.YtdfmdgbolmbffaaGreatLf5
namespace Go.Proofs.YtdfmdgbolmbffaaGreat
open Go.ChangeShapes Go.WideShapes Go.ChangeAt Go.RowKit
set_option linter.unusedVariables false
def rowV (n g : Nat) : Value := .slice (some ⟨g, 0, none⟩) n n
theorem infoSB : (Tryz.prog.info? 69).map (fun i => (i.zero, i.size, i.bytes)) = some (some (.slice none 0 0), 1, 24) := by kernel_rfl
/-- Rows of bools, in a row. -/
structure DM (w u : World) (n : Nat) (V : Value) (R : List Nat) (P : Nat → Nat → Bool) : Prop where
  out : u.ownsRow w.heap.size 69 1 V R.length (R.map (rowV n))
  rows : ∀ i g, R[i]? = some g → OwB u w.heap.size g n (P i)
  nodup : R.Nodup
  bel : Below w.heap.size w u
theorem DM.keep {w u u' : World} {n : Nat} {V : Value} {R : List Nat} {P : Nat → Nat → Bool} (h : DM w u n V R P) (hb : Below u.heap.size u u') : DM w u' n V R P := ⟨own_keep h.out hb (Nat.le_refl _), fun i g hi => (h.rows i g hi).keep hb, h.nodup, below_on h.bel (Nat.le_refl _) hb⟩
theorem OwB.lt {w : World} {base g n : Nat} {P : Nat → Bool} (h : OwB w base g n P) : g < w.heap.size := by
  obtain ⟨_, cur, h1⟩ := own_blk h
  exact (Array.getElem?_eq_some_iff.1 h1).1
theorem OwB.other {w : World} {base g g' n i : Nat} {P : Nat → Bool} {x : Value} (h : OwB w base g n P) (hne : g ≠ g') : OwB (w.setCell ⟨g', i, none⟩ x) base g n P := ownsRow_setCell_other h (a := ⟨g', i, none⟩) (fun e => hne (by simpa [Value.ownBlock] using e)) x
theorem DM.set {w u : World} {n : Nat} {V : Value} {R : List Nat} {P Q : Nat → Nat → Bool} (h : DM w u n V R P) {b g d : Nat} {x : Bool} (hb : R[b]? = some g) (hQb : ∀ j, j < n → Q b j = if j = d then x else P b j) (hQ : ∀ i, i ≠ b → Q i = P i) : DM w (u.setCell ⟨g, d, none⟩ (.bool x)) n V R Q := by
  have hg := h.rows b g hb
  refine ⟨own_set_ne h.out hg (by decide) d _, fun i g' hi => ?_, h.nodup, h.bel.setCell (own_blk hg).1 _⟩
  by_cases e : i = b
  · subst e
    rw [hb] at hi
    cases hi
    exact hg.set d x hQb
  · rw [hQ i e]
    refine (h.rows i g' hi).other fun q => e ?_
    subst q
    obtain ⟨i1, e1⟩ := List.getElem?_eq_some_iff.1 hi
    obtain ⟨i2, e2⟩ := List.getElem?_eq_some_iff.1 hb
    exact (List.getElem_inj h.nodup).1 (e1.trans e2.symm)
theorem DM.add {w u u3 u' : World} {n : Nat} {V V' : Value} {R : List Nat} {P : Nat → Nat → Bool} (h : DM w u n V R P) (hP : ∀ i, i = R.length → P i = fun _ => false) (h3 : u3.ownsRow u.heap.size 4 1 (.slice (some ⟨u.heap.size, 0, none⟩) n n) n (bv (fun _ => false) n)) (hb3 : Below u.heap.size u u3) (hown : u'.ownsRow w.heap.size 69 1 V' (R.length + 1) (R.map (rowV n) ++ [rowV n u.heap.size])) (hg : (u3.alloc (.cells #[rowV n u.heap.size] 69)).grownBy u' V.ownBlock) : DM w u' n V' (R ++ [u.heap.size]) P := by
  have bA := below_alloc u3 (.cells #[rowV n u.heap.size] 69)
  have hbb : Below u.heap.size u (u3.alloc (.cells #[rowV n u.heap.size] 69)) := below_on hb3 (Nat.le_refl _) bA
  have o1 := own_keep h.out hbb (Nat.le_refl _)
  have k3 : OwB (u3.alloc (.cells #[rowV n u.heap.size] 69)) w.heap.size u.heap.size n (fun _ => false) := own_lower (own_keep h3 bA (Nat.le_refl _)) h.bel.size
  refine ⟨by rw [List.length_append, List.length_singleton, List.map_append]; exact hown, fun i g hi => ?_, ?_, (below_on h.bel (Nat.le_refl _) hbb).grown hg (Nat.le_trans h.bel.size hbb.size) (fun i hi => (h.out.lt i hi).1)⟩
  · by_cases e : i < R.length
    · rw [List.getElem?_append_left e] at hi
      exact own_grown ((h.rows i g hi).keep hbb) hg o1 (by decide)
    · have hl := (List.getElem?_eq_some_iff.1 hi).1
      simp only [List.length_append, List.length_singleton] at hl
      have hiR : i = R.length := by omega
      rw [List.getElem?_append_right (by omega)] at hi
      subst hiR
      simp only [Nat.sub_self, List.getElem?_cons_zero, Option.some.injEq] at hi
      subst hi
      rw [hP _ rfl]
      exact own_grown k3 hg o1 (by decide)
  · refine List.nodup_append.2 ⟨h.nodup, by simp, fun a ha c hc e => ?_⟩
    simp only [List.mem_cons, List.not_mem_nil, or_false] at hc
    subst hc
    obtain ⟨i, hi⟩ := List.getElem?_of_mem ha
    have := (h.rows i a hi).lt
    omega
theorem one_cellV (U : World) (x : Value) (t : TypeId) : ∀ j u, [x][j]? = some u → (U.alloc (.cells #[x] t)).cell? ((⟨U.heap.size, 0, none⟩ : Addr).add j) = some u := fun j u hj => by
  rw [add_at, Nat.zero_add, (Blk.new U #[x] t).cell j]
  simpa using hj
/-- A matrix of bools, to be read. -/
def MatAt (w : World) (g n : Nat) (D : Nat → Nat → Bool) : Prop := ∀ b, b < n → ∃ r, w.cell? ⟨g, b, none⟩ = some (.slice (some ⟨r, 0, none⟩) n n) ∧ ∀ d, d < n → w.cell? ⟨r, d, none⟩ = some (.bool (D b d))
theorem MatAt.keep {w w' : World} {g n : Nat} {D : Nat → Nat → Bool} (h : MatAt w g n D) (hb : Below w.heap.size w w') : MatAt w' g n D := fun b hb' => by
  obtain ⟨r, h1, h2⟩ := h b hb'
  exact ⟨r, bcell_keep hb h1, fun d hd => bcell_keep hb (h2 d hd)⟩
theorem DM.cell {w u : World} {n g c m : Nat} {R : List Nat} {P : Nat → Nat → Bool} (h : DM w u n (.slice (some ⟨g, 0, none⟩) m c) R P) (hm : R.length = m) {b : Nat} (hb : b < m) : ∃ r, R[b]? = some r ∧ u.cell? ⟨g, b, none⟩ = some (.slice (some ⟨r, 0, none⟩) n n) := by
  subst hm
  have := h.out.cellAt b (by omega)
  rw [List.getElem?_map, List.getElem?_eq_getElem hb] at this
  exact ⟨_, List.getElem?_eq_getElem hb, this⟩
theorem DM.mat {w u : World} {n g c : Nat} {R : List Nat} {P : Nat → Nat → Bool} (h : DM w u n (.slice (some ⟨g, 0, none⟩) n c) R P) (hl : R.length = n) : MatAt u g n P := fun b hb => by
  obtain ⟨r, h1, h2⟩ := h.cell hl (b := b) (by omega)
  exact ⟨r, h2, fun d hd => (h.rows b r h1).cell hd⟩
set_option maxHeartbeats 4000000 in
set_option maxRecDepth 100000 in
theorem l5Doms_any (g o c n : Nat) (E : Nat → List Nat) (D : Nat → Nat → Bool) (w : World) (hn : n ≤ 1048576) (h0 : 0 < n) (hD : ∀ d b, D d b = true ↔ Dom E d b) (hE : ∀ b, b < n → ∀ x ∈ E b, x < n) (hsz : ∀ b, (E b).length ≤ 2) (h : GrAt w g o n E) :
    Calls Tryz.prog 68 #[.slice (some ⟨g, o, none⟩) n c] w fun e w' => ∃ gm cm, e = .returned (.slice (some ⟨gm, 0, none⟩) n cm) ∧ MatAt w' gm n (fun b d => D d b) ∧ Below w.heap.size w w' ∧ w.heap.size ≤ gm ∧ (∀ b r, b < n → w'.cell? ⟨gm, b, none⟩ = some (.slice (some ⟨r, 0, none⟩) n n) → w.heap.size ≤ r) := by
  obtain ⟨j0, hj, hy0, hy1, hy2⟩ := info_parts infoBool
  obtain ⟨k0, hk, hx0, hx1, hx2⟩ := info_parts infoSB
  have H : Hid (GrAt w g o n E ∧ (∀ b, b < n → ∀ x ∈ E b, x < n) ∧ (∀ b, (E b).length ≤ 2) ∧ (∀ d b, D d b = true ↔ Dom E d b)) := ⟨h, hE, hsz, hD⟩
  clear h hE hsz hD
  have HS : Hid (DM w (w.alloc (.cells #[] 69)) n (.slice (some ⟨w.heap.size, 0, none⟩) 0 0) [] (fun _ _ => false)) := by
    refine ⟨?_, fun i g hi => by simp at hi, List.nodup_nil, below_alloc _ _⟩
    exact ⟨rfl, .inr ⟨w.heap.size, 0, #[], rfl, Nat.le_refl _, Blk.new w #[] 69, Nat.le_refl _, Nat.zero_le _, rfl, rfl⟩⟩
  go_enter Tryz.func68, Tryz.ntmps68
  go_wp2
  go_loopw [4, 5] (fun V i wr => ∃ (R : List Nat) (gm cm : Nat), V = .slice (some ⟨gm, 0, none⟩) R.length cm ∧ i = .int .i64 (R.length : Int) ∧ R.length ≤ n ∧ Hid (DM w wr n V R (fun _ _ => false))) (fun _ i _ => n - (intOf i).toNat)
  case atStart => exact ⟨[], _, _, rfl, rfl, by simp, HS⟩
  case round =>
    clear HS
    obtain ⟨R, gm, cm, rfl, rfl, hR, HM⟩ := hrel
    by_cases hlt : R.length < n
    · have hltI : (R.length : Int) < (n : Int) := by omega
      have hsz1 := HM.out.bel.size
      go_wp2_with (first
        | (at_make; refine wpList_make_full _ rfl _ _ 69 rfl wr.heap.size 4 j0 (.bool false) 1 Tryz.underlying69 hj hy0 hy1 .i64 .i64 _ _ n rfl rfl rfl rfl (by rw [hy2]; omega) (by unfold maxLen; omega) (Nat.le_refl _) ?_; intro w3 hown hgrow; rw [made_bool, bv_zero] at hown; have hb3 : Below wr.heap.size wr w3 := (Below.refl _ _).grown hgrow (Nat.le_refl _) (fun k hk => by cases hk); have hoA : (w3.alloc (.cells #[rowV n wr.heap.size] 69)).ownsRow w.heap.size 69 1 (.slice (some ⟨gm, 0, none⟩) R.length cm) R.length (R.map (rowV n)) := own_keep HM.out.out (below_on hb3 (Nat.le_refl _) (below_alloc _ _)) (Nat.le_refl _); have hsA : w.heap.size ≤ (w3.alloc (.cells #[rowV n wr.heap.size] 69)).heap.size := by have h1 := hb3.size; have h2 := (below_alloc w3 (.cells #[rowV n wr.heap.size] 69)).size; omega)
        | (at_builtin; refine wpList_append_lies _ rfl _ _ 119 rfl w.heap.size 69 k0 (.slice none 0 0) 1 24 Tryz.underlying119 hk hx0 hx1 hx2 rfl (by decide) _ R.length (R.map (rowV n)) rfl hoA ⟨w3.heap.size, 0, none⟩ 1 1 [rowV n wr.heap.size] rfl rfl (one_cellV w3 _ _) (fun u hu => by simp at hu; subst hu; rfl) (by omega) (by simp [maxLen]; omega) (by omega) hsA _ rfl ?_; intro g5 cap5 w5 hown5 hgrow5 hat hlt3; have HM5 : Hid (DM w w5 n (.slice (some ⟨g5, 0, none⟩) (R.length + 1) cap5) (R ++ [wr.heap.size]) (fun _ _ => false)) := HM.out.add (fun _ _ => rfl) hown hb3 hown5 hgrow5; clear hown hgrow hown5 hgrow5 hat hlt3 hb3 hoA hsA)
        | go_in)
      go_roundw
      case rel => exact ⟨R ++ [wr.heap.size], g5, cap5, by rw [List.length_append, List.length_singleton], by rw [List.length_append, List.length_singleton]; go_num, by rw [List.length_append, List.length_singleton]; omega, HM5⟩
      case measure => simp [intOf]; omega
    · have hRn : R.length = n := by omega
      have HRN : Hid (R.length = n) := hRn
      rw [hRn] at HM
      rw [hRn]
      clear hlt hR hRn
      have HM0 : Hid (DM w wr n (.slice (some ⟨gm, 0, none⟩) n cm) R (fun i k => decide (k < 0) && D k i)) := by
        have : (fun i k => decide (k < 0) && D k i) = (fun (_ _ : Nat) => false) := by funext i k; simp
        show DM w wr n _ R _
        rw [this]
        exact HM.out
      clear HM
      go_wp2
      go_loopw [6] (fun i wr => ∃ d : Nat, d ≤ n ∧ i = .int .i64 d ∧ Hid (DM w wr n (.slice (some ⟨gm, 0, none⟩) n cm) R (fun i k => decide (k < d) && D k i))) (fun i _ => n - (intOf i).toNat)
      case atStart => exact ⟨0, by omega, rfl, HM0⟩
      case round =>
        clear HM0
        obtain ⟨d, hd, rfl, HM⟩ := hrel
        by_cases hlt : d < n
        · have hltI : (d : Int) < (n : Int) := by omega
          go_wp2_with fail
          refine (l5Seen_any g o c n 0 (d : Int) E _ hn H.out.2.1 H.out.2.2.1 h0 (H.out.1.keep HM.out.bel)).mono ?_
          rintro e u2 ⟨gs, P, rfl, hP, hPi, b2⟩
          have HP : Hid (OwB u2 wr.heap.size gs n P ∧ (∀ x, x < n → (!P x) = D d x) ∧ wr.heap.size ≤ gs) := by
            refine ⟨hP, fun x hx => ?_, (own_blk hP).1⟩
            rw [Bool.eq_iff_iff, H.out.2.2.2 d x]
            unfold Dom
            have e1 : Rch E (fun y => (y : Int) ≠ (d : Int)) 0 x ↔ Rch E (· ≠ d) 0 x := ⟨fun q => q.mono fun y hy e => hy (by rw [e]), fun q => q.mono fun y hy e => hy (by omega)⟩
            rw [← e1, ← hPi x hx]
            simp
          have HM2 : Hid (DM w u2 n (.slice (some ⟨gm, 0, none⟩) n cm) R (fun i k => (decide (k < d) || (decide (k = d) && decide (i < 0))) && D k i)) := by
            have e1 : (fun i k => (decide (k < d) || (decide (k = d) && decide (i < 0))) && D k i) = (fun i k => decide (k < d) && D k i) := by funext i k; simp
            show DM w u2 n _ R _
            rw [e1]
            exact HM.out.keep b2
          have HR : Hid ((∀ i r, R[i]? = some r → r < wr.heap.size) ∧ w.heap.size ≤ wr.heap.size) := ⟨fun i r hi => (HM.out.rows i r hi).lt, HM.out.bel.size⟩
          clear hP hPi b2 HM
          go_wp2
          go_loopw [8] (fun i wr => ∃ b : Nat, b ≤ n ∧ i = .int .i64 b ∧ Hid (DM w wr n (.slice (some ⟨gm, 0, none⟩) n cm) R (fun i k => (decide (k < d) || (decide (k = d) && decide (i < b))) && D k i) ∧ OwB wr w.heap.size gs n P)) (fun i _ => n - (intOf i).toNat)
          case atStart => exact ⟨0, by omega, rfl, HM2.out, own_lower HP.out.1 HR.out.2⟩
          case round =>
            clear HM2
            obtain ⟨b, hb, rfl, HM⟩ := hrel
            by_cases hlt2 : b < n
            · have hlt2I : (b : Int) < (n : Int) := by omega
              obtain ⟨r, hr, c0⟩ := HM.out.1.cell HRN.out hlt2
              have c1 := HM.out.2.cell hlt2
              have hrow := HM.out.1.rows b r hr
              have c2 := hrow.cell hlt
              have z2 := hrow.frozen d
              have hne : gs ≠ r := by have := HR.out.1 b r hr; have := HP.out.2.2; omega
              have HN : Hid (DM w (wr.setCell ⟨r, d, none⟩ (.bool (!P b))) n (.slice (some ⟨gm, 0, none⟩) n cm) R (fun i k => (decide (k < d) || (decide (k = d) && decide (i < b + 1))) && D k i) ∧ OwB (wr.setCell ⟨r, d, none⟩ (.bool (!P b))) w.heap.size gs n P) := by
                refine ⟨HM.out.1.set hr (fun j hj => ?_) (fun i hi => ?_), HM.out.2.other hne⟩
                · by_cases e : j = d
                  · subst e
                    simp [HP.out.2.1 b hlt2]
                  · simp [e]
                · funext k
                  have : decide (i < b + 1) = decide (i < b) := by simp; omega
                  simp [this]
              clear hr hrow
              go_wp2
              go_region
              refine with_world (fun u => Hid (DM w u n (.slice (some ⟨gm, 0, none⟩) n cm) R (fun i k => (decide (k < d) || (decide (k = d) && decide (i < b + 1))) && D k i) ∧ OwB u w.heap.size gs n P)) ?_ ?_
              · exact ⟨HN.out.1.keep (below_drew1 _), HN.out.2.keep (below_drew1 _)⟩
              intro U HU
              go_wp2
              go_roundw
              case rel => exact ⟨b + 1, by omega, by go_num, HU⟩
              case measure => simp [intOf]; omega
            · obtain rfl : b = n := by omega
              have HN : Hid (DM w wr b (.slice (some ⟨gm, 0, none⟩) b cm) R (fun i k => decide (k < d + 1) && D k i)) := by
                refine ⟨HM.out.1.out, fun i r hi => ?_, HM.out.1.nodup, HM.out.1.bel⟩
                have h1 := HM.out.1.rows i r hi
                unfold OwB at h1 ⊢
                rw [bv_congr (Q := fun k => decide (k < d + 1) && D k i)] at h1
                · exact h1
                · intro k hk
                  have hib : i < b := by have := (List.getElem?_eq_some_iff.1 hi).1; rw [HRN.out] at this; exact this
                  have e1 : (decide (k < d) || (decide (k = d) && decide (i < b))) = decide (k < d + 1) := by
                    rw [Bool.eq_iff_iff]
                    simp
                    omega
                  simp only [e1]
              go_wp2
              go_roundw
              case rel => exact ⟨d + 1, by omega, by go_num, HN⟩
              case measure => simp [intOf]; omega
        · obtain rfl : d = n := by omega
          have HN : Hid (MatAt wr gm d (fun b k => D k b)) := fun b hb => by
            obtain ⟨r, h1, h2⟩ := HM.out.mat HRN.out b hb
            refine ⟨r, h1, fun k hk => ?_⟩
            have := h2 k hk
            simpa [hk] using this
          have HMO : Hid (wr.ownsRow w.heap.size 69 1 (.slice (some ⟨gm, 0, none⟩) d cm) d (R.map (rowV d))) := by
            have := HM.out.out
            rw [HRN.out] at this
            exact this
          go_wp2
          go_ret
          refine ⟨gm, cm, rfl, HN.out, HM.out.bel, (own_blk HMO.out).1, fun b r hb hr => ?_⟩
          obtain ⟨r', h1, h2⟩ := HM.out.cell HRN.out (b := b) hb
          rw [hr] at h2
          simp only [Option.some.injEq, Value.slice.injEq, Addr.mk.injEq, and_true] at h2
          rw [h2]
          exact (own_blk (HM.out.rows b r' h1)).1
end Go.Proofs.YtdfmdgbolmbffaaGreat
namespace Go.Proofs.YtdfmdgbolmbffaaGreat
open Go.ChangeShapes Go.WideShapes Go.ChangeAt Go.RowKit
set_option linter.unusedVariables false
def cntTo (D : Nat → Nat → Bool) (d j : Nat) : Nat := ((List.range j).filter fun k => D k d).length
theorem cntTo_succ (D : Nat → Nat → Bool) (d j : Nat) : cntTo D d (j + 1) = cntTo D d j + if D j d = true then 1 else 0 := by
  unfold cntTo
  rw [List.range_succ, List.filter_append, List.length_append]
  cases h : D j d <;> simp [h]
theorem cntTo_le (D : Nat → Nat → Bool) (d j : Nat) : cntTo D d j ≤ j := by
  have := List.length_filter_le (fun k => D k d) (List.range j)
  simpa [cntTo] using this
set_option maxHeartbeats 4000000 in
set_option maxRecDepth 100000 in
theorem l5Idom_any (gm cm n b : Nat) (D : Nat → Nat → Bool) (w : World) (hn : n ≤ 1048576) (hb : b < n) (h : MatAt w gm n (fun b d => D d b)) :
    Calls Tryz.prog 69 #[.slice (some ⟨gm, 0, none⟩) n cm, .int .i64 (b : Int)] w fun e w' => ∃ best most, e = .returned (.int .i64 best) ∧ BestTo D n b n best most ∧ w' = w := by
  have H : Hid (MatAt w gm n (fun b d => D d b)) := h
  obtain ⟨rb, r0, r1⟩ := h b hb
  have HR : Hid (∀ d, d < n → w.cell? ⟨rb, d, none⟩ = some (.bool (D d b))) := r1
  have hbI : (b : Int) < (n : Int) := by omega
  clear h r1
  go_enter Tryz.func69, Tryz.ntmps69
  go_wp2
  go_loopw [5, 6, 7] (fun x y i wr => ∃ (d : Nat) (best most : Int), d ≤ n ∧ x = .int .i64 best ∧ y = .int .i64 most ∧ i = .int .i64 d ∧ -1 ≤ most ∧ most ≤ 1048576 ∧ Hid (BestTo D n b d best most) ∧ wr = w) (fun _ _ i _ => n - (intOf i).toNat)
  case atStart => exact ⟨0, -1, -1, by omega, rfl, rfl, rfl, by omega, by omega, BestTo.start D n b, rfl⟩
  case round =>
    obtain ⟨d, best, most, hd, rfl, rfl, rfl, hm1, hm2, HB, rfl⟩ := hrel
    by_cases hlt : d < n
    · have hltI : (d : Int) < (n : Int) := by omega
      by_cases e : d = b
      · subst e
        have HN : Hid (BestTo D n d (d + 1) best most) := HB.out.skip (fun q => q.1 rfl)
        go_wp2
        go_roundw
        case rel => exact ⟨d + 1, best, most, by omega, by trivial, by trivial, by go_num, hm1, hm2, HN, by trivial⟩
        case measure => simp [intOf]; omega
      · have e' : ((d : Int) == (b : Int)) = false := by simp; omega
        have eI : ¬ (d : Int) = (b : Int) := by omega
        have c0 := HR.out d hlt
        cases hD : D d b
        · rw [hD] at c0
          have HN : Hid (BestTo D n b (d + 1) best most) := HB.out.skip (fun q => by rw [hD] at q; cases q.2)
          go_wp2
          go_roundw
          case rel => exact ⟨d + 1, best, most, by omega, by trivial, by trivial, by go_num, hm1, hm2, HN, by trivial⟩
          case measure => simp [intOf]; omega
        · rw [hD] at c0
          obtain ⟨rd, d0, d1⟩ := H.out d hlt
          have HD1 : Hid (∀ k, k < n → wr.cell? ⟨rd, k, none⟩ = some (.bool (D k d))) := d1
          clear d1
          go_wp2
          go_loopw [8, 9] (fun x i wr' => ∃ k : Nat, k ≤ n ∧ x = .int .i64 (cntTo D d k : Int) ∧ i = .int .i64 k ∧ wr' = wr) (fun _ i _ => n - (intOf i).toNat)
          case atStart => exact ⟨0, by omega, rfl, rfl, rfl⟩
          case round =>
            obtain ⟨k, hk, rfl, rfl, rfl⟩ := hrel
            have hle := cntTo_le D d k
            by_cases hlt2 : k < n
            · have hlt2I : (k : Int) < (n : Int) := by omega
              have c1 := HD1.out k hlt2
              have hs := cntTo_succ D d k
              cases hDk : D k d
              · rw [hDk] at c1 hs
                simp only [Bool.false_eq_true, if_false, Nat.add_zero] at hs
                go_wp2
                go_roundw
                case rel => exact ⟨k + 1, by omega, by rw [hs], by go_num, by trivial⟩
                case measure => simp [intOf]; omega
              · rw [hDk] at c1 hs
                simp only [if_true] at hs
                go_wp2
                go_roundw
                case rel => exact ⟨k + 1, by omega, by rw [hs]; go_num, by go_num, by trivial⟩
                case measure => simp [intOf]; omega
            · obtain rfl : k = n := by omega
              have hc : cntD D k d = cntTo D d k := rfl
              by_cases hg : most < (cntTo D d k : Int)
              · have HN : Hid (BestTo D k b (d + 1) (d : Int) (cntTo D d k : Int)) := HB.out.more e hD hg
                go_wp2
                go_roundw
                case rel => exact ⟨d + 1, _, _, by omega, rfl, rfl, by go_num, by omega, by omega, HN, by trivial⟩
                case measure => simp [intOf]; omega
              · have HN : Hid (BestTo D k b (d + 1) best most) := HB.out.less (by rw [hc]; omega)
                go_wp2
                go_roundw
                case rel => exact ⟨d + 1, best, most, by omega, by trivial, by trivial, by go_num, hm1, hm2, HN, by trivial⟩
                case measure => simp [intOf]; omega
    · obtain rfl : d = n := by omega
      go_wp2
      go_ret
      exact ⟨best, most, rfl, HB.out, rfl⟩
end Go.Proofs.YtdfmdgbolmbffaaGreat
namespace Go.Proofs.YtdfmdgbolmbffaaGreat
open Go.ChangeShapes Go.WideShapes Go.ChangeAt Go.RowKit
set_option linter.unusedVariables false
section
variable {E : Nat → List Nat} {D : Nat → Nat → Bool} {n h b k y : Nat}
def backP (E : Nat → List Nat) (D : Nat → Nat → Bool) (h b k : Nat) : List Nat := (((E b).take k).filter fun x => decide (x = h) && D h b).map fun _ => b
theorem backL_succ (E : Nat → List Nat) (D : Nat → Nat → Bool) (b h : Nat) : backL E D (b + 1) h = backL E D b h ++ backP E D h b (E b).length := by
  unfold backL backP
  rw [List.range_succ, List.flatMap_append]
  simp
theorem backP_zero (E : Nat → List Nat) (D : Nat → Nat → Bool) (h b : Nat) : backP E D h b 0 = [] := by simp [backP]
theorem backP_yes (hy : (E b)[k]? = some h) (hD : D h b = true) : backP E D h b (k + 1) = backP E D h b k ++ [b] := by
  obtain ⟨hl, e⟩ := List.getElem?_eq_some_iff.1 hy
  unfold backP
  rw [List.take_succ_eq_append_getElem hl, List.filter_append, List.map_append, e]
  simp [hD]
theorem backP_no (hy : (E b)[k]? = some y) (hn : ¬ (y = h ∧ D h b = true)) : backP E D h b (k + 1) = backP E D h b k := by
  obtain ⟨hl, e⟩ := List.getElem?_eq_some_iff.1 hy
  unfold backP
  rw [List.take_succ_eq_append_getElem hl, List.filter_append, List.map_append, e]
  have : (decide (y = h) && D h b) = false := by
    cases q : D h b with
    | false => simp
    | true => simp; exact fun e => hn ⟨e, q⟩
  simp [this]
theorem backP_len (E : Nat → List Nat) (D : Nat → Nat → Bool) (h b k : Nat) : (backP E D h b k).length ≤ (E b).length := by
  unfold backP
  rw [List.length_map]
  refine Nat.le_trans (List.length_filter_le _ _) ?_
  rw [List.length_take]
  omega
theorem backL_len (hsz : ∀ b, (E b).length ≤ 2) (D : Nat → Nat → Bool) (h b : Nat) : (backL E D b h).length ≤ 2 * b := by
  induction b with
  | zero => simp [backL]
  | succ b ih =>
    have h1 := backP_len E D h b (E b).length
    have h2 := hsz b
    rw [backL_succ, List.length_append]
    omega
/-- The blocks from which the loop is gone through. -/
def Src (E : Nat → List Nat) (D : Nat → Nat → Bool) (n h x : Nat) : Prop := ∃ t ∈ backL E D n h, Rch (fromL E n) (· ≠ h) t x
structure Col (E : Nat → List Nat) (D : Nat → Nat → Bool) (n h : Nat) (L : List Nat) : Prop where
  nodup : L.Nodup
  ne : ∀ x ∈ L, x ≠ h
  lt : ∀ x ∈ L, x < n
  src : ∀ x ∈ L, Src E D n h x
theorem Col.len {L : List Nat} (h' : Col E D n h L) : L.length ≤ n := by
  have := nodup_le L n h'.lt h'.nodup
  omega
theorem Col.nil : Col E D n h [] := ⟨List.nodup_nil, fun _ q => (by cases q), fun _ q => (by cases q), fun _ q => (by cases q)⟩
theorem Col.add {L : List Nat} (h' : Col E D n h L) (hne : y ≠ h) (hlt : y < n) (hs : Src E D n h y) (hL : y ∉ L) : Col E D n h (L ++ [y]) := by
  have hm : ∀ x, x ∈ L ++ [y] → x ∈ L ∨ x = y := fun x hx => by simpa using hx
  refine ⟨List.nodup_append.2 ⟨h'.nodup, by simp, fun a ha c hc e => ?_⟩, fun x hx => ?_, fun x hx => ?_, fun x hx => ?_⟩
  · simp only [List.mem_cons, List.not_mem_nil, or_false] at hc
    subst hc e
    exact hL ha
  · rcases hm x hx with q | rfl
    · exact h'.ne x q
    · exact hne
  · rcases hm x hx with q | rfl
    · exact h'.lt x q
    · exact hlt
  · rcases hm x hx with q | rfl
    · exact h'.src x q
    · exact hs
/-- All of these were taken. -/
def Has (h : Nat) (L B : List Nat) : Prop := ∀ x ∈ B, x = h ∨ x ∈ L
theorem Has.app {L B : List Nat} (h' : Has h L B) (z : Nat) : Has h (L ++ [z]) B := fun x hx => (h' x hx).imp id fun q => List.mem_append.2 (.inl q)
theorem Has.next {L L' B : List Nat} (h' : Has h L (B.take k)) (hs : ∀ x ∈ L, x ∈ L') (hy : B[k]? = some y) (hL : y = h ∨ y ∈ L') : Has h L' (B.take (k + 1)) := fun z hz => by
  obtain ⟨hlt, rfl⟩ := List.getElem?_eq_some_iff.1 hy
  rw [List.take_succ_eq_append_getElem hlt] at hz
  rcases List.mem_append.1 hz with hz | hz
  · exact (h' z hz).imp id (hs z)
  · simp only [List.mem_cons, List.not_mem_nil, or_false] at hz
    subst hz
    exact hL
/-- From the first i of them all was taken backwards. -/
def Bwd (E : Nat → List Nat) (n h : Nat) (L : List Nat) (i : Nat) : Prop := ∀ j x, L[j]? = some x → j < i → ∀ y, y < n → x ∈ E y → y = h ∨ y ∈ L
def BwdB (E : Nat → List Nat) (h : Nat) (L : List Nat) (x b : Nat) : Prop := ∀ y, y < b → x ∈ E y → y = h ∨ y ∈ L
theorem Bwd.app {L : List Nat} {i : Nat} (h' : Bwd E n h L i) (hi : i ≤ L.length) (z : Nat) : Bwd E n h (L ++ [z]) i := fun j x hj hl y hy hx => by
  rw [List.getElem?_append_left (by omega)] at hj
  exact (h' j x hj hl y hy hx).imp id fun q => List.mem_append.2 (.inl q)
theorem BwdB.app {L : List Nat} {x : Nat} (h' : BwdB E h L x b) (z : Nat) : BwdB E h (L ++ [z]) x b := fun y hy hx => (h' y hy hx).imp id fun q => List.mem_append.2 (.inl q)
theorem BwdB.next {L : List Nat} {x : Nat} (h' : BwdB E h L x b) (hb : x ∈ E b → b = h ∨ b ∈ L) : BwdB E h L x (b + 1) := fun y hy hx => by
  by_cases e : y = b
  · subst e; exact hb hx
  · exact h' y (by omega) hx
theorem Bwd.next {L : List Nat} {i x : Nat} (h' : Bwd E n h L i) (hx : L[i]? = some x) (hb : BwdB E h L x n) : Bwd E n h L (i + 1) := fun j z hj hl y hy hz => by
  by_cases e : j = i
  · subst e
    rw [hx] at hj
    cases hj
    exact hb y hy hz
  · exact h' j z hj (by omega) y hy hz
theorem Col.step {L : List Nat} (h' : Col E D n h L) {x : Nat} (hx : x ∈ L) (hb : b < n) (he : x ∈ E b) (hne : b ≠ h) : Src E D n h b := by
  obtain ⟨t, h1, h2⟩ := h'.src x hx
  exact ⟨t, h1, .step h2 ((fromL_mem E n x b).2 ⟨hb, he⟩) hne⟩
theorem Col.iff {L : List Nat} (h' : Col E D n h L) (hB : Has h L (backL E D n h)) (hc : Bwd E n h L L.length) (x : Nat) : (h :: L).contains x = true ↔ InLoop E D n h x := by
  simp only [List.contains_eq_mem, decide_eq_true_eq, List.mem_cons]
  unfold InLoop
  refine or_congr_right ⟨h'.src x, ?_⟩
  rintro ⟨t, h1, h2⟩
  induction h2 with
  | here q => exact (hB t h1).resolve_left q
  | step _ q2 q3 ih =>
    obtain ⟨j, hj⟩ := List.getElem?_of_mem ih
    obtain ⟨q4, q5⟩ := (fromL_mem E n _ _).1 q2
    exact (hc j _ hj (List.getElem?_eq_some_iff.1 hj).1 _ q4 q5).resolve_left q3
end
theorem cons_set (h : Nat) (L : List Nat) (y n : Nat) : ∀ j, j < n → (h :: (L ++ [y])).contains j = if j = y then true else (h :: L).contains j := fun j _ => by
  by_cases e : j = y
  · subst e; simp
  · simp [e]
def nilV : Value := .slice none 0 0
theorem infoLp : (Tryz.prog.info? 53).map (fun i => (i.zero, i.size, i.bytes)) = some (some (.agg #[.int .i64 0, .slice none 0 0, .slice none 0 0]), 3, 56) := by kernel_rfl
/-- The first rows of a loop. -/
structure L1 (w u : World) (n h bl gi : Nat) (BV : Value) (B : List Nat) : Prop where
  res : Blk u w.heap.size #[.int .i64 0, .slice none 0 0, .slice none 0 0] 53
  blk : Blk u bl #[.int .i64 (h : Int), BV, .slice none 0 0] 53
  inn : OwB u w.heap.size gi n (fun x => [h].contains x)
  back : OwN u w.heap.size BV B
  bel : Below w.heap.size w u
  lt : w.heap.size < bl
theorem L1.al {w u : World} {n h bl gi : Nat} {BV : Value} {B : List Nat} (l : L1 w u n h bl gi BV B) (o : Obj) : (u.alloc o).ownsRow w.heap.size 2 1 BV B.length (nv B) ∧ w.heap.size ≤ (u.alloc o).heap.size := ⟨l.back.keep (below_alloc _ _), Nat.le_trans l.bel.size (below_alloc _ _).size⟩
theorem L1.app {w u u' : World} {n h bl gi : Nat} {BV V' : Value} {B : List Nat} {y : Nat} (l : L1 w u n h bl gi BV B) (hown : u'.ownsRow w.heap.size 2 1 V' (B.length + 1) (nv B ++ [.int .i64 (y : Int)])) (hg : (u.alloc (.cells #[.int .i64 (y : Int)] 2)).grownBy u' BV.ownBlock) : Blk u' bl #[.int .i64 (h : Int), BV, .slice none 0 0] 53 ∧ L1 w (u'.setCell ⟨bl, 1, none⟩ V') n h bl gi V' (B ++ [y]) := by
  have bA := below_alloc u (.cells #[.int .i64 (y : Int)] 2)
  have o1 := l.back.keep bA
  have kb : Blk u' bl #[.int .i64 (h : Int), BV, .slice none 0 0] 53 := (l.blk.keep bA).grown hg o1 (by decide)
  have kr := (l.res.keep bA).grown hg o1 (by decide)
  have ki : OwB u' w.heap.size gi n (fun x => [h].contains x) := own_grown (l.inn.keep bA) hg o1 (by decide)
  have hbel : Below w.heap.size w u' := (below_on l.bel (Nat.le_refl _) bA).grown hg (Nat.le_trans l.bel.size bA.size) (fun i hi => (l.back.lt i hi).1)
  refine ⟨kb, kr.other (by have := l.lt; simp only []; omega) _, ?_, ?_, ?_, hbel.setCell (Nat.le_of_lt l.lt) _, l.lt⟩
  · have := kb.set 1 V'
    simpa using this
  · refine ki.other fun e => ?_
    obtain ⟨_, cur, h1⟩ := own_blk ki
    subst e
    unfold Blk at kb
    rw [kb] at h1
    simp only [Option.some.injEq, Obj.cells.injEq] at h1
    exact absurd h1.2.1 (by decide)
  · unfold OwN
    rw [List.length_append, List.length_singleton, nv_app]
    refine ownsRow_setCell_other hown (a := ⟨bl, 1, none⟩) (fun q => ?_) _
    rcases hown.2 with ⟨rfl, _⟩ | ⟨g', cap', cur', rfl, _, hg', _⟩
    · cases q
    · simp only [Value.ownBlock, Option.some.injEq] at q
      subst q
      unfold Blk at kb
      rw [kb] at hg'
      simp only [Option.some.injEq, Obj.cells.injEq] at hg'
      exact absurd hg'.2.1 (by decide)
theorem L1.keep {w u : World} {n h bl gi : Nat} {BV : Value} {B : List Nat} (l : L1 w u n h bl gi BV B) {u' : World} (hb : Below u.heap.size u u') : L1 w u' n h bl gi BV B := ⟨l.res.keep hb, l.blk.keep hb, l.inn.keep hb, l.back.keep hb, below_on l.bel (Nat.le_refl _) hb, l.lt⟩
/-- The rows while blocks are gathered: but for in, all is as it was. -/
structure L2 (w w1 u : World) (n gi : Nat) (P : Nat → Bool) (LV : Value) (L : List Nat) : Prop where
  inn : OwB u w.heap.size gi n P
  list : OwN u w1.heap.size LV L
  fx : ∀ k, k < w1.heap.size → k ≠ gi → u.heap[k]? = w1.heap[k]?
  bel : Below w.heap.size w u
  size : w1.heap.size ≤ u.heap.size
  glt : gi < w1.heap.size
theorem L2.mark {w w1 u : World} {n gi : Nat} {P Q : Nat → Bool} {LV : Value} {L : List Nat} (l : L2 w w1 u n gi P LV L) (i : Nat) (b : Bool) (hQ : ∀ j, j < n → Q j = if j = i then b else P j) : L2 w w1 (u.setCell ⟨gi, i, none⟩ (.bool b)) n gi Q LV L := ⟨l.inn.set i b hQ, own_set_ne l.list l.inn (by decide) i _, fun k hk hne => by rw [heap_setCell_other u _ k _ hne]; exact l.fx k hk hne, l.bel.setCell (own_blk l.inn).1 _, by rw [World.size_setCell]; exact l.size, l.glt⟩
theorem L2.al {w w1 u : World} {n gi : Nat} {P : Nat → Bool} {LV : Value} {L : List Nat} (l : L2 w w1 u n gi P LV L) (o : Obj) : (u.alloc o).ownsRow w1.heap.size 2 1 LV L.length (nv L) ∧ w1.heap.size ≤ (u.alloc o).heap.size := ⟨l.list.keep (below_alloc _ _), Nat.le_trans l.size (below_alloc _ _).size⟩
theorem L2.keep {w w1 u u' : World} {n gi : Nat} {P : Nat → Bool} {LV : Value} {L : List Nat} (l : L2 w w1 u n gi P LV L) (hb : Below u.heap.size u u') : L2 w w1 u' n gi P LV L := ⟨l.inn.keep hb, l.list.keep hb, fun k hk hne => by rw [hb.block k (Nat.lt_of_lt_of_le hk l.size)]; exact l.fx k hk hne, below_on l.bel (Nat.le_refl _) hb, Nat.le_trans l.size hb.size, l.glt⟩
theorem L2.app {w w1 u u' : World} {n gi : Nat} {P : Nat → Bool} {LV V' : Value} {L : List Nat} {y : Nat} (l : L2 w w1 u n gi P LV L) (hw : w.heap.size ≤ w1.heap.size) (hown : u'.ownsRow w1.heap.size 2 1 V' (L.length + 1) (nv L ++ [.int .i64 (y : Int)])) (hg : (u.alloc (.cells #[.int .i64 (y : Int)] 2)).grownBy u' LV.ownBlock) : L2 w w1 u' n gi P V' (L ++ [y]) := by
  have bA := below_alloc u (.cells #[.int .i64 (y : Int)] 2)
  have o1 := l.list.keep bA
  refine ⟨own_grown (l.inn.keep bA) hg o1 (by decide), ?_, fun k hk hne => ?_, (below_on l.bel (Nat.le_refl _) bA).grown hg (Nat.le_trans l.bel.size bA.size) (fun i hi => Nat.le_trans hw (l.list.lt i hi).1), Nat.le_trans l.size (Nat.le_trans bA.size hg.size), l.glt⟩
  · unfold OwN
    rw [List.length_append, List.length_singleton, nv_app]
    exact hown
  · rw [hg.block k (Nat.lt_of_lt_of_le hk (Nat.le_trans l.size bA.size)) (fun e => by have := (l.list.lt k e.symm).1; omega), bA.block k (Nat.lt_of_lt_of_le hk l.size)]
    exact l.fx k hk hne
theorem L2.blk {w w1 u : World} {n gi : Nat} {P : Nat → Bool} {LV : Value} {L : List Nat} (l : L2 w w1 u n gi P LV L) {b : Nat} {cur : Array Value} {t : TypeId} (hb : Blk w1 b cur t) (hne : b ≠ gi) : Blk u b cur t := by
  unfold Blk at *
  rw [l.fx b (Array.getElem?_eq_some_iff.1 hb).1 hne]
  exact hb
theorem L2.cell {w w1 u : World} {n gi : Nat} {P : Nat → Bool} {LV : Value} {L : List Nat} (l : L2 w w1 u n gi P LV L) {a : Addr} {x : Value} (hb : w1.cell? a = some x) (hne : a.block ≠ gi) : u.cell? a = some x := by
  have := l.fx a.block (block_lt_of_cell hb) hne
  unfold World.cell? at *
  rw [this]
  exact hb
theorem OwN.fx {w1 u : World} {base x : Nat} {s : Value} {l : List Nat} (h : OwN w1 base s l) (hf : ∀ k, k < w1.heap.size → k ≠ x → u.heap[k]? = w1.heap[k]?) (hx : ∀ g, s.ownBlock = some g → g ≠ x) : OwN u base s l := by
  refine ⟨h.1, ?_⟩
  rcases h.2 with h | ⟨g, cap, cur, rfl, hb1, hgg, hr⟩
  · exact .inl h
  · refine .inr ⟨g, cap, cur, rfl, hb1, ?_, hr⟩
    rw [hf g (Array.getElem?_eq_some_iff.1 hgg).1 (hx g rfl)]
    exact hgg
theorem OwN.ne_blk {w : World} {base b : Nat} {s : Value} {l : List Nat} {cur : Array Value} {t : TypeId} (h : OwN w base s l) (hb : Blk w b cur t) (hne : 2 ≠ t) : ∀ g, s.ownBlock = some g → g ≠ b := type_apart h hb hne
theorem OwB.congr {w : World} {base g n : Nat} {P Q : Nat → Bool} (h : OwB w base g n P) (hQ : ∀ i, i < n → P i = Q i) : OwB w base g n Q := by
  unfold OwB at *
  rw [bv_congr hQ] at h
  exact h
/-- The rows while the blocks of a loop are told: but for the loop's own block, all is as it was. -/
structure L4 (w w2 u : World) (n h bl gi : Nat) (BV KV : Value) (K : List Nat) (P : Nat → Bool) : Prop where
  res : Blk u w.heap.size #[.int .i64 0, .slice none 0 0, .slice none 0 0] 53
  blk : Blk u bl #[.int .i64 (h : Int), BV, KV] 53
  inn : OwB u w.heap.size gi n P
  row : OwN u w2.heap.size KV K
  fx : ∀ k, k < w2.heap.size → k ≠ bl → u.heap[k]? = w2.heap[k]?
  bel : Below w.heap.size w u
  size : w2.heap.size ≤ u.heap.size
  blt : bl < w2.heap.size
theorem L4.al {w w2 u : World} {n h bl gi : Nat} {BV KV : Value} {K : List Nat} {P : Nat → Bool} (l : L4 w w2 u n h bl gi BV KV K P) (o : Obj) : (u.alloc o).ownsRow w2.heap.size 2 1 KV K.length (nv K) ∧ w2.heap.size ≤ (u.alloc o).heap.size := ⟨l.row.keep (below_alloc _ _), Nat.le_trans l.size (below_alloc _ _).size⟩
theorem L4.app {w w2 u u' : World} {n h bl gi : Nat} {BV KV V' : Value} {K : List Nat} {P : Nat → Bool} {y : Nat} (l : L4 w w2 u n h bl gi BV KV K P) (hw : w.heap.size < bl) (hown : u'.ownsRow w2.heap.size 2 1 V' (K.length + 1) (nv K ++ [.int .i64 (y : Int)])) (hg : (u.alloc (.cells #[.int .i64 (y : Int)] 2)).grownBy u' KV.ownBlock) : Blk u' bl #[.int .i64 (h : Int), BV, KV] 53 ∧ L4 w w2 (u'.setCell ⟨bl, 2, none⟩ V') n h bl gi BV V' (K ++ [y]) P := by
  have bA := below_alloc u (.cells #[.int .i64 (y : Int)] 2)
  have o1 := l.row.keep bA
  have kb : Blk u' bl #[.int .i64 (h : Int), BV, KV] 53 := (l.blk.keep bA).grown hg o1 (by decide)
  have kr := (l.res.keep bA).grown hg o1 (by decide)
  have ki : OwB u' w.heap.size gi n P := own_grown (l.inn.keep bA) hg o1 (by decide)
  have hlow : w.heap.size ≤ w2.heap.size := by have := l.blt; omega
  have hbel : Below w.heap.size w u' := (below_on l.bel (Nat.le_refl _) bA).grown hg (Nat.le_trans l.bel.size bA.size) (fun i hi => Nat.le_trans hlow (l.row.lt i hi).1)
  refine ⟨kb, kr.other (by simp only []; omega) _, ?_, ?_, ?_, fun k hk hne => ?_, hbel.setCell (Nat.le_of_lt hw) _, ?_, l.blt⟩
  · have := kb.set 2 V'
    simpa using this
  · refine ki.other fun e => ?_
    obtain ⟨_, cur, h1⟩ := own_blk ki
    subst e
    unfold Blk at kb
    rw [kb] at h1
    simp only [Option.some.injEq, Obj.cells.injEq] at h1
    exact absurd h1.2.1 (by decide)
  · unfold OwN
    rw [List.length_append, List.length_singleton, nv_app]
    refine ownsRow_setCell_other hown (a := ⟨bl, 2, none⟩) (fun q => ?_) _
    have := (hown.lt bl q).1
    have := l.blt
    omega
  · rw [heap_setCell_other u' _ k _ hne, hg.block k (Nat.lt_of_lt_of_le hk (Nat.le_trans l.size bA.size)) (fun e => by have := (l.row.lt k e.symm).1; omega), bA.block k (Nat.lt_of_lt_of_le hk l.size)]
    exact l.fx k hk hne
  · rw [World.size_setCell]
    exact Nat.le_trans l.size (Nat.le_trans bA.size hg.size)
end Go.Proofs.YtdfmdgbolmbffaaGreat
namespace Go.Proofs.YtdfmdgbolmbffaaGreat
open Go.ChangeShapes Go.WideShapes Go.ChangeAt Go.RowKit
set_option linter.unusedVariables false
/-- A row of a family grows: in its block, or into one that is new. -/
theorem Fam.grow {w w' : World} {base g : Nat} {A B : List (Value × List Int)} {V V' : Value} {l l' : List Int} (h : Fam w base (A ++ (V, l) :: B)) (ho : w'.ownsRow base 2 1 V' l'.length (l'.flatMap intCell)) (hV : V'.ownBlock = some g) (hg : w.grownBy w' V.ownBlock) (hat : V.ownBlock = some g ∨ w.heap.size ≤ g) : Fam w' base (A ++ (V', l') :: B) := by
  obtain ⟨pA, pB, pAB⟩ := List.pairwise_append.1 h.sep
  obtain ⟨pv, pB'⟩ := List.pairwise_cons.1 pB
  have hsep : ∀ x : Value × List Int, x ∈ A ++ (V, l) :: B → Apart x (V, l) → Apart x (V', l') := fun x hx ha gg hgg e => by
    rw [hV] at e
    have e := Option.some.inj e
    subst e
    rcases hat with h1 | h1
    · exact ha _ hgg h1
    · have := ((h.own x hx).lt _ hgg).2
      omega
  refine ⟨fun x hx => ?_, List.pairwise_append.2 ⟨pA, List.pairwise_cons.2 ⟨fun y hy => (hsep y (by simp [hy]) (pv y hy).symm).symm, pB'⟩, fun a ha b hb => ?_⟩⟩
  · rcases List.mem_append.1 hx with hx | hx
    · exact own_apart' (h.own x (List.mem_append.2 (.inl hx))) hg (fun g hgx e => pAB x hx (V, l) (by simp) g hgx e.symm)
    · rcases List.mem_cons.1 hx with rfl | hx
      · exact ho
      · exact own_apart' (h.own x (List.mem_append.2 (.inr (List.mem_cons_of_mem _ hx)))) hg (fun g hgx e => pv x hx g e.symm hgx)
  · rcases List.mem_cons.1 hb with rfl | hb
    · exact hsep a (by simp [ha]) (pAB a ha (V, l) (by simp))
    · exact pAB a ha b (List.mem_cons_of_mem _ hb)
theorem Fam.keepB {u u' : World} {B : Nat} {L : List (Value × List Int)} (h : Fam u B L) (hb : Below u.heap.size u u') : Fam u' B L := ⟨fun r hr => own_keep (h.own r hr) hb (Nat.le_refl _), h.sep⟩
/-- A row that is new joins a family. -/
theorem Fam.join {u u' : World} {B : Nat} {L : List (Value × List Int)} {b : Value} {cb : List Int} (h : Fam u B L) (hb : Below u.heap.size u u') (hn : u'.ownsRow u.heap.size 2 1 b cb.length (cb.flatMap intCell)) (hB : B ≤ u.heap.size) : Fam u' B (L ++ [(b, cb)]) := by
  refine ⟨fun x hx => ?_, List.pairwise_append.2 ⟨h.sep, by simp, fun a ha c hc g hg e => ?_⟩⟩
  · rcases List.mem_append.1 hx with hx | hx
    · exact own_keep (h.own x hx) hb (Nat.le_refl _)
    · simp only [List.mem_cons, List.not_mem_nil, or_false] at hx
      subst hx
      exact own_lower hn hB
  · simp only [List.mem_cons, List.not_mem_nil, or_false] at hc
    subst hc
    have h1 := ((h.own a ha).lt g hg).2
    have h2 := (hn.lt g e).1
    omega
theorem Fam.join2 {u u' : World} {B : Nat} {L : List (Value × List Int)} {b c : Value} {cb cc : List Int} (h : Fam u B L) (hb : Below u.heap.size u u') (hn : u'.ownsRow u.heap.size 2 1 b cb.length (cb.flatMap intCell)) (hm : u'.ownsRow u.heap.size 2 1 c cc.length (cc.flatMap intCell)) (hne : ∀ g, b.ownBlock = some g → c.ownBlock ≠ some g) (hB : B ≤ u.heap.size) : Fam u' B (L ++ [(b, cb), (c, cc)]) := by
  refine ⟨fun x hx => ?_, List.pairwise_append.2 ⟨h.sep, by simpa [Apart] using hne, fun a ha y hy g hg e => ?_⟩⟩
  · rcases List.mem_append.1 hx with hx | hx
    · exact own_keep (h.own x hx) hb (Nat.le_refl _)
    · simp only [List.mem_cons, List.not_mem_nil, or_false] at hx
      rcases hx with rfl | rfl
      · exact own_lower hn hB
      · exact own_lower hm hB
  · simp only [List.mem_cons, List.not_mem_nil, or_false] at hy
    have h1 := ((h.own a ha).lt g hg).2
    rcases hy with rfl | rfl
    · have h2 := (hn.lt g e).1
      omega
    · have h2 := (hm.lt g e).1
      omega
/-- The block of a row of another type turns. -/
theorem Fam.other {w : World} {base b : Nat} {L : List (Value × List Int)} {cur : Array Value} {t : TypeId} (h : Fam w base L) (hb : Blk w b cur t) (hne : 2 ≠ t) (i : Nat) (x : Value) : Fam (w.setCell ⟨b, i, none⟩ x) base L := h.set hb hne i x
theorem Fam.grown_other {w w' : World} {base B k m : Nat} {L : List (Value × List Int)} {v : Value} {e : TypeId} {bs : List Value} (h : Fam w base L) (hg : w.grownBy w' v.ownBlock) (ho : w.ownsRow B e k v m bs) (hne : 2 ≠ e) : Fam w' base L := ⟨fun x hx => own_grown (h.own x hx) hg ho hne, h.sep⟩
/-- A loop's cells. -/
def lCells (x : ML × Value × Value) : List Value := [.int .i64 x.1.head, x.2.1, x.2.2]
theorem lCells_length (x : ML × Value × Value) : (lCells x).length = 3 := rfl
def RdL (w : World) (x : ML × Value × Value) : Prop := Rd w 1 x.2.1 x.1.back.length (x.1.back.flatMap intCell) ∧ Rd w 1 x.2.2 x.1.blocks.length (x.1.blocks.flatMap intCell)
def RdLs (w : World) (s : Value) (ls : List ML) : Prop := ∃ ys : List (ML × Value × Value), ys.map Prod.fst = ls ∧ Rd w 3 s ls.length (ys.flatMap lCells) ∧ ∀ y ∈ ys, RdL w y
theorem RdLs.keep {w w' : World} {s : Value} {ls : List ML} (h : RdLs w s ls) {B : Nat} (hb : Below B w w') (hB : w.heap.size ≤ B) : RdLs w' s ls := by
  obtain ⟨ys, h1, h2, h3⟩ := h
  exact ⟨ys, h1, h2.keep hb hB, fun y hy => ⟨(h3 y hy).1.keep hb hB, (h3 y hy).2.keep hb hB⟩⟩
theorem RdLs.nil (w : World) : RdLs w (.slice none 0 0) [] := ⟨[], rfl, ⟨rfl, .inl ⟨rfl, _, _, rfl⟩⟩, fun y hy => by cases hy⟩
/-- The rows of loops. -/
def lrows (ys : List (ML × Value × Value)) : List (Value × List Int) := ys.flatMap fun y => [(y.2.1, y.1.back), (y.2.2, y.1.blocks)]
/-- A row of numbers of type int. -/
def iv (f : Nat → Nat) (n : Nat) : List Value := (List.range n).map fun i => Value.int .i64 (f i : Int)
theorem iv_length (f : Nat → Nat) (n : Nat) : (iv f n).length = n := by simp [iv]
theorem iv_at (f : Nat → Nat) (n i : Nat) (h : i < n) : (iv f n)[i]? = some (.int .i64 (f i : Int)) := by simp [iv, h]
theorem iv_set {f g : Nat → Nat} {n i x : Nat} (h : ∀ j, j < n → g j = if j = i then x else f j) : (iv f n).set i (.int .i64 (x : Int)) = iv g n := by
  apply List.ext_getElem?
  intro j
  by_cases hj : j < n
  · rw [iv_at _ _ _ hj, h j hj]
    by_cases e : j = i
    · subst e
      rw [List.getElem?_set_self (by rw [iv_length]; exact hj), if_pos rfl]
    · rw [List.getElem?_set_ne (by omega), iv_at _ _ _ hj, if_neg e]
  · rw [List.getElem?_eq_none (by simp [iv_length]; omega), List.getElem?_eq_none (by rw [iv_length]; omega)]
theorem iv_zero (n : Nat) : (madeCells (Value.int .i64 0).cells (n * 1)).toList = iv (fun _ => 0) n := by
  rw [made_int n (fun _ => []) []]
  simp [flatTo, iv, List.flatten_replicate_singleton]
  apply List.ext_getElem?
  intro j
  by_cases hj : j < n
  · simp [hj]
  · rw [List.getElem?_eq_none (by simp; omega), List.getElem?_eq_none (by simp; omega)]
/-- The places while the order grows. -/
def plTo (O : List Nat) (k x : Nat) : Nat := if (O.reverse.take k).contains x then plO O x else 0
theorem plTo_zero (O : List Nat) : plTo O 0 = fun _ => 0 := by funext x; simp [plTo]
theorem plTo_all (O : List Nat) (x : Nat) (h : x ∈ O) : plTo O O.length x = plO O x := by
  unfold plTo
  rw [List.take_of_length_le (by simp), if_pos (by simpa using h)]
theorem plTo_next {O : List Nat} (hd : O.Nodup) {k x : Nat} (hx : O.reverse[k]? = some x) (n : Nat) : ∀ j, j < n → plTo O (k + 1) j = if j = x then k else plTo O k j := fun j _ => by
  obtain ⟨hlt, e⟩ := List.getElem?_eq_some_iff.1 hx
  have hd' : O.reverse.Nodup := List.pairwise_reverse.2 (hd.imp Ne.symm)
  have hpx : plO O x = k := by
    have hm : x ∈ O := by rw [← List.mem_reverse, ← e]; exact List.getElem_mem hlt
    have h1 := plO_at hm
    obtain ⟨l1, e1⟩ := List.getElem?_eq_some_iff.1 h1
    exact (List.getElem_inj hd').1 (e1.trans e.symm)
  unfold plTo
  rw [List.take_succ_eq_append_getElem hlt, e]
  by_cases q : j = x
  · subst q
    rw [if_pos (by simp), if_pos rfl, hpx]
  · rw [if_neg q]
    have : (O.reverse.take k ++ [x]).contains j = (O.reverse.take k).contains j := by simp [q]
    rw [this]
theorem infoInt : (Tryz.prog.info? 3).map (fun i => (i.zero, i.size, i.bytes)) = some (some (.int .i64 0), 1, 8) := by kernel_rfl
theorem infoFl : (Tryz.prog.info? 67).map (fun i => (i.zero, i.size, i.bytes)) = some (some (.agg #[.int .i64 0, .int .i64 0, .slice none 0 0, .slice none 0 0, .slice none 0 0, .slice none 0 0]), 6, 112) := by kernel_rfl
/-- The rows while the order is told. -/
structure PC (w u : World) (n X gp : Nat) (Vb Vo : Value) (O : List Nat) (k : Nat) : Prop where
  blk : Blk u X #[.int .i64 0, .int .i64 0, Vb, Vo, .slice none 0 0, .slice none 0 0] 67
  place : u.ownsRow w.heap.size 3 1 (.slice (some ⟨gp, 0, none⟩) n n) n (iv (plTo O k) n)
  order : OwN u w.heap.size Vo (O.reverse.take k)
  bel : Below w.heap.size w u
  lt : w.heap.size ≤ X
theorem PC.keep {w u u' : World} {n X gp k : Nat} {Vb Vo : Value} {O : List Nat} (h : PC w u n X gp Vb Vo O k) (hb : Below u.heap.size u u') : PC w u' n X gp Vb Vo O k := ⟨h.blk.keep hb, own_keep h.place hb (Nat.le_refl _), h.order.keep hb, below_on h.bel (Nat.le_refl _) hb, h.lt⟩
/-- The place is told, the order not yet. -/
structure PD (w u : World) (n X gp : Nat) (Vb Vo : Value) (O : List Nat) (k : Nat) : Prop where
  blk : Blk u X #[.int .i64 0, .int .i64 0, Vb, Vo, .slice none 0 0, .slice none 0 0] 67
  place : u.ownsRow w.heap.size 3 1 (.slice (some ⟨gp, 0, none⟩) n n) n (iv (plTo O (k + 1)) n)
  order : OwN u w.heap.size Vo (O.reverse.take k)
  bel : Below w.heap.size w u
  lt : w.heap.size ≤ X
theorem PD.keep {w u u' : World} {n X gp k : Nat} {Vb Vo : Value} {O : List Nat} (h : PD w u n X gp Vb Vo O k) (hb : Below u.heap.size u u') : PD w u' n X gp Vb Vo O k := ⟨h.blk.keep hb, own_keep h.place hb (Nat.le_refl _), h.order.keep hb, below_on h.bel (Nat.le_refl _) hb, h.lt⟩
theorem blk_ne {w : World} {b base k n : Nat} {cur : Array Value} {t e : TypeId} {s : Value} {xs : List Value} (hb : Blk w b cur t) (h : w.ownsRow base e k s n xs) (hne : e ≠ t) : s.ownBlock ≠ some b := fun q => type_apart h hb hne b q rfl
theorem PC.set {w u : World} {n X gp k x : Nat} {Vb Vo : Value} {O : List Nat} (h : PC w u n X gp Vb Vo O k) (hd : O.Nodup) (hx : O.reverse[k]? = some x) : PD w (u.setCell ⟨gp, x, none⟩ (.int .i64 (k : Int))) n X gp Vb Vo O k := by
  refine ⟨h.blk.other (fun e => blk_ne h.blk h.place (by decide) (by rw [e]; rfl)) _, ?_, own_set_ne h.order h.place (by decide) _ _, h.bel.setCell (own_blk h.place).1 _, h.lt⟩
  have := (h.place.stored x (.int .i64 (k : Int))).1
  rw [iv_set (plTo_next hd hx n)] at this
  exact this
theorem PD.al {w u : World} {n X gp k : Nat} {Vb Vo : Value} {O : List Nat} (h : PD w u n X gp Vb Vo O k) : u.ownsRow w.heap.size 2 1 Vo (O.reverse.take k).length (nv (O.reverse.take k)) ∧ w.heap.size ≤ u.heap.size := ⟨h.order, h.bel.size⟩
theorem PD.app {w u u' : World} {n X gp k x : Nat} {Vb Vo V' : Value} {O : List Nat} (h : PD w u n X gp Vb Vo O k) (hx : O.reverse[k]? = some x) (hown : u'.ownsRow w.heap.size 2 1 V' ((O.reverse.take k).length + 1) (nv (O.reverse.take k) ++ [.int .i64 (x : Int)])) (hg : u.grownBy u' Vo.ownBlock) : Blk u' X #[.int .i64 0, .int .i64 0, Vb, Vo, .slice none 0 0, .slice none 0 0] 67 ∧ PC w (u'.setCell ⟨X, 3, none⟩ V') n X gp Vb V' O (k + 1) := by
  have kb := h.blk.grown hg h.order (by decide)
  have kp : u'.ownsRow w.heap.size 3 1 (.slice (some ⟨gp, 0, none⟩) n n) n (iv (plTo O (k + 1)) n) := own_grown h.place hg h.order (by decide)
  have hbel : Below w.heap.size w u' := h.bel.grown hg h.bel.size (fun i hi => (h.order.lt i hi).1)
  refine ⟨kb, ?_, ownsRow_setCell_other kp (a := ⟨X, 3, none⟩) (blk_ne kb kp (by decide)) _, ?_, hbel.setCell h.lt _, h.lt⟩
  · have := kb.set 3 V'
    simpa using this
  · obtain ⟨hlt, e⟩ := List.getElem?_eq_some_iff.1 hx
    unfold OwN
    rw [List.take_succ_eq_append_getElem hlt, e, nv_app, List.length_append, List.length_singleton]
    exact ownsRow_setCell_other hown (a := ⟨X, 3, none⟩) (blk_ne kb hown (by decide)) _
end Go.Proofs.YtdfmdgbolmbffaaGreat
namespace Go.Proofs.YtdfmdgbolmbffaaGreat
open Go.ChangeShapes Go.WideShapes Go.ChangeAt Go.RowKit
set_option linter.unusedVariables false
theorem blk3 {w : World} {b : Nat} {t : TypeId} {a0 a1 a2 : Value} (h : Blk w b #[a0, a1, a2] t) : w.cell? ⟨b, 0, none⟩ = some a0 ∧ w.cell? ⟨b, 1, none⟩ = some a1 ∧ w.cell? ⟨b, 2, none⟩ = some a2 := ⟨h.cell 0, h.cell 1, h.cell 2⟩
theorem two_new (w : World) (A B : Array Value) (s t : TypeId) : Blk ((w.alloc (.cells A s)).alloc (.cells B t)) w.heap.size A s ∧ Blk ((w.alloc (.cells A s)).alloc (.cells B t)) (w.heap.size + 1) B t ∧ Below w.heap.size w ((w.alloc (.cells A s)).alloc (.cells B t)) := by
  have b1 := below_alloc w (.cells A s)
  have b2 := below_alloc (w.alloc (.cells A s)) (.cells B t)
  refine ⟨(Blk.new w _ _).keep b2, ?_, below_on b1 (Nat.le_refl _) b2⟩
  have k2 := Blk.new (w.alloc (.cells A s)) B t
  have e1 : (w.alloc (.cells A s)).heap.size = w.heap.size + 1 := by simp
  rw [e1] at k2
  exact k2
theorem three_new (w : World) (A B C : Array Value) (s t r : TypeId) : Blk (((w.alloc (.cells A s)).alloc (.cells B t)).alloc (.cells C r)) w.heap.size A s ∧ Blk (((w.alloc (.cells A s)).alloc (.cells B t)).alloc (.cells C r)) (w.heap.size + 1) B t ∧ Blk (((w.alloc (.cells A s)).alloc (.cells B t)).alloc (.cells C r)) (w.heap.size + 1 + 1) C r ∧ Below w.heap.size w (((w.alloc (.cells A s)).alloc (.cells B t)).alloc (.cells C r)) := by
  obtain ⟨h1, h2, h3⟩ := two_new w A B s t
  generalize e1 : (w.alloc (.cells A s)).alloc (.cells B t) = u at *
  have e2 : u.heap.size = w.heap.size + 1 + 1 := by rw [← e1]; simp
  have b1 := below_alloc u (.cells C r)
  have k2 := Blk.new u C r
  rw [e2] at k2
  exact ⟨h1.keep b1, h2.keep b1, k2, below_on h3 (Nat.le_refl _) b1⟩
theorem ML.same_iff (a b : ML) : a = b ↔ a.head = b.head ∧ a.back = b.back ∧ a.blocks = b.blocks := by
  obtain ⟨a1, a2, a3⟩ := a
  obtain ⟨b1, b2, b3⟩ := b
  simp
set_option maxHeartbeats 4000000 in
set_option maxRecDepth 100000 in
theorem l7SameLoop_any (a b : ML) (v1 v2 u1 u2 : Value) (w : World) (ha : a.back.length ≤ 1048576 ∧ a.blocks.length ≤ 1048576) (hb : b.back.length ≤ 1048576 ∧ b.blocks.length ≤ 1048576) (h : RdL w (a, v1, v2)) (h' : RdL w (b, u1, u2)) :
    Calls Tryz.prog 52 #[.agg #[.int .i64 a.head, v1, v2], .agg #[.int .i64 b.head, u1, u2]] w fun e w' => SaysIff e (a = b) ∧ Below w.heap.size w w' := by
  have H : Hid (RdL w (a, v1, v2) ∧ RdL w (b, u1, u2) ∧ (a.back.length ≤ 1048576 ∧ a.blocks.length ≤ 1048576) ∧ b.back.length ≤ 1048576 ∧ b.blocks.length ≤ 1048576) := ⟨h, h', ha, hb⟩
  clear h h' ha hb
  have E0 := two_new w #[.int .i64 a.head, v1, v2] #[.int .i64 b.head, u1, u2] 53 53
  go_enter Tryz.func52, Tryz.ntmps52
  go_upto_region 1 with fail
  refine wp_world (fun u => Blk u w.heap.size #[.int .i64 a.head, v1, v2] 53 ∧ Blk u (w.heap.size + 1) #[.int .i64 b.head, u1, u2] 53 ∧ Below w.heap.size w u) E0 ?_
  rintro U E1
  clear E0
  have HE : Hid (Blk U w.heap.size #[.int .i64 a.head, v1, v2] 53 ∧ Blk U (w.heap.size + 1) #[.int .i64 b.head, u1, u2] 53 ∧ Below w.heap.size w U) := E1
  clear E1
  obtain ⟨p0, p1, p2⟩ := blk3 HE.out.1
  obtain ⟨o0, o1, o2⟩ := blk3 HE.out.2.1
  by_cases q : a.head = b.head
  · have HQ : Hid (a.head = b.head) := q
    rw [q] at p0
    clear q
    go_wp2_with fail
    refine (l3Same_any v1 u1 a.back b.back U H.out.2.2.1.1 H.out.2.2.2.1 (H.out.1.1.keep HE.out.2.2 (Nat.le_refl _)) (H.out.2.1.1.keep HE.out.2.2 (Nat.le_refl _))).mono ?_
    rintro e u3 ⟨⟨b1, rfl, hb1⟩, m1, e1⟩
    have HE1 : Hid (Blk u3 w.heap.size #[.int .i64 a.head, v1, v2] 53 ∧ Blk u3 (w.heap.size + 1) #[.int .i64 b.head, u1, u2] 53 ∧ Below w.heap.size w u3) := by
      subst e1
      exact ⟨HE.out.1.keep (below_drewN _ _ _), HE.out.2.1.keep (below_drewN _ _ _), below_on HE.out.2.2 (Nat.le_refl _) (below_drewN _ _ _)⟩
    have HB : Hid (b1 = true ↔ a.back = b.back) := hb1
    clear HE p0 p1 p2 o0 o1 o2 e1 hb1
    obtain ⟨p0, p1, p2⟩ := blk3 HE1.out.1
    obtain ⟨o0, o1, o2⟩ := blk3 HE1.out.2.1
    cases b1
    · go_wp2
      go_ret
      exact ⟨.no (fun e => by have := HB.out.2 ((ML.same_iff a b).1 e).2.1; simp at this), HE1.out.2.2⟩
    · go_wp2_with fail
      refine (l3Same_any v2 u2 a.blocks b.blocks u3 H.out.2.2.1.2 H.out.2.2.2.2 (H.out.1.2.keep HE1.out.2.2 (Nat.le_refl _)) (H.out.2.1.2.keep HE1.out.2.2 (Nat.le_refl _))).mono ?_
      rintro e u4 ⟨⟨b2, rfl, hb2⟩, m2, e2⟩
      have HE2 : Hid (Below w.heap.size w u4) := by
        subst e2
        exact below_on HE1.out.2.2 (Nat.le_refl _) (below_drewN _ _ _)
      have HB2 : Hid (b2 = true ↔ a.blocks = b.blocks) := hb2
      clear HE1 p0 p1 p2 o0 o1 o2 e2 hb2
      go_wp2
      go_ret
      exact ⟨.of ⟨fun e => (ML.same_iff a b).2 ⟨HQ.out, HB.out.1 (by first | rfl | trivial), HB2.out.1 e⟩, fun e => HB2.out.2 ((ML.same_iff a b).1 e).2.2⟩, HE2.out⟩
  · go_wp2
    go_ret
    exact ⟨.no fun e => q ((ML.same_iff a b).1 e).1, HE.out.2.2⟩
set_option maxHeartbeats 4000000 in
set_option maxRecDepth 100000 in
theorem sameLoop_any (a b : ML) (v1 v2 u1 u2 : Value) (w : World) (ha : a.back.length ≤ 1048576 ∧ a.blocks.length ≤ 1048576) (hb : b.back.length ≤ 1048576 ∧ b.blocks.length ≤ 1048576) (h : RdL w (a, v1, v2)) (h' : RdL w (b, u1, u2)) :
    Calls Tryz.prog 57 #[.agg #[.int .i64 a.head, v1, v2], .agg #[.int .i64 b.head, u1, u2]] w fun e w' => SaysIff e (a = b) ∧ Below w.heap.size w w' := by
  have H : Hid (RdL w (a, v1, v2) ∧ RdL w (b, u1, u2) ∧ (a.back.length ≤ 1048576 ∧ a.blocks.length ≤ 1048576) ∧ b.back.length ≤ 1048576 ∧ b.blocks.length ≤ 1048576) := ⟨h, h', ha, hb⟩
  clear h h' ha hb
  have E0 := two_new w #[.int .i64 a.head, v1, v2] #[.int .i64 b.head, u1, u2] 53 53
  go_enter Tryz.func57, Tryz.ntmps57
  go_upto_region 1 with fail
  refine wp_world (fun u => Blk u w.heap.size #[.int .i64 a.head, v1, v2] 53 ∧ Blk u (w.heap.size + 1) #[.int .i64 b.head, u1, u2] 53 ∧ Below w.heap.size w u) E0 ?_
  rintro U E1
  clear E0
  have HE : Hid (Blk U w.heap.size #[.int .i64 a.head, v1, v2] 53 ∧ Blk U (w.heap.size + 1) #[.int .i64 b.head, u1, u2] 53 ∧ Below w.heap.size w U) := E1
  clear E1
  obtain ⟨p0, p1, p2⟩ := blk3 HE.out.1
  obtain ⟨o0, o1, o2⟩ := blk3 HE.out.2.1
  by_cases q : a.head = b.head
  · have HQ : Hid (a.head = b.head) := q
    rw [q] at p0
    clear q
    go_wp2_with fail
    refine (slicesEq64_any v1 u1 a.back b.back U H.out.2.2.1.1 H.out.2.2.2.1 (H.out.1.1.keep HE.out.2.2 (Nat.le_refl _)) (H.out.2.1.1.keep HE.out.2.2 (Nat.le_refl _))).mono ?_
    rintro e u3 ⟨⟨b1, rfl, hb1⟩, m1, e1⟩
    have HE1 : Hid (Blk u3 w.heap.size #[.int .i64 a.head, v1, v2] 53 ∧ Blk u3 (w.heap.size + 1) #[.int .i64 b.head, u1, u2] 53 ∧ Below w.heap.size w u3) := by
      subst e1
      exact ⟨HE.out.1.keep (below_drewN _ _ _), HE.out.2.1.keep (below_drewN _ _ _), below_on HE.out.2.2 (Nat.le_refl _) (below_drewN _ _ _)⟩
    have HB : Hid (b1 = true ↔ a.back = b.back) := hb1
    clear HE p0 p1 p2 o0 o1 o2 e1 hb1
    obtain ⟨p0, p1, p2⟩ := blk3 HE1.out.1
    obtain ⟨o0, o1, o2⟩ := blk3 HE1.out.2.1
    cases b1
    · go_wp2
      go_ret
      exact ⟨.no (fun e => by have := HB.out.2 ((ML.same_iff a b).1 e).2.1; simp at this), HE1.out.2.2⟩
    · go_wp2_with fail
      refine (slicesEq64_any v2 u2 a.blocks b.blocks u3 H.out.2.2.1.2 H.out.2.2.2.2 (H.out.1.2.keep HE1.out.2.2 (Nat.le_refl _)) (H.out.2.1.2.keep HE1.out.2.2 (Nat.le_refl _))).mono ?_
      rintro e u4 ⟨⟨b2, rfl, hb2⟩, m2, e2⟩
      have HE2 : Hid (Below w.heap.size w u4) := by
        subst e2
        exact below_on HE1.out.2.2 (Nat.le_refl _) (below_drewN _ _ _)
      have HB2 : Hid (b2 = true ↔ a.blocks = b.blocks) := hb2
      clear HE1 p0 p1 p2 o0 o1 o2 e2 hb2
      go_wp2
      go_ret
      exact ⟨.of ⟨fun e => (ML.same_iff a b).2 ⟨HQ.out, HB.out.1 (by first | rfl | trivial), HB2.out.1 e⟩, fun e => HB2.out.2 ((ML.same_iff a b).1 e).2.2⟩, HE2.out⟩
  · go_wp2
    go_ret
    exact ⟨.no fun e => q ((ML.same_iff a b).1 e).1, HE.out.2.2⟩
end Go.Proofs.YtdfmdgbolmbffaaGreat
