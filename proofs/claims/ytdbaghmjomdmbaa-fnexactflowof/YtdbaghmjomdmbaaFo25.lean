import Derived.Test.YtdbaghmjomdmbaaFo17
namespace Go.Proofs.Ytdbaghmjomdmbaa
open Go.ChangeShapes Go.WideShapes Go.ChangeAt Go.RowKit
set_option linter.unusedVariables false
def rowV (n g : Nat) : Value := .slice (some ⟨g, 0, none⟩) n n
theorem infoSB : (Try.prog.info? 41).map (fun i => (i.zero, i.size, i.bytes)) = some (some (.slice none 0 0), 1, 24) := by kernel_rfl
/-- Rows of bools, in a row. -/
structure DM (w u : World) (n : Nat) (V : Value) (R : List Nat) (P : Nat → Nat → Bool) : Prop where
  out : u.ownsRow w.heap.size 41 1 V R.length (R.map (rowV n))
  rows : ∀ i g, R[i]? = some g → OwB u w.heap.size g n (P i)
  nodup : R.Nodup
  bel : Below w.heap.size w u
theorem DM.keep {w u u' : World} {n : Nat} {V : Value} {R : List Nat} {P : Nat → Nat → Bool} (h : DM w u n V R P) (hb : Below u.heap.size u u') : DM w u' n V R P := ⟨own_keep h.out hb (Nat.le_refl _), fun i g hi => (h.rows i g hi).keep hb, h.nodup, below_on h.bel (Nat.le_refl _) hb⟩
theorem OwB.lt {w : World} {base g n : Nat} {P : Nat → Bool} (h : OwB w base g n P) : g < w.heap.size := by
  obtain ⟨_, cur, h1⟩ := own_blk h
  exact (Array.getElem?_eq_some_iff.1 h1).1
theorem OwB.other {w : World} {base g g' n i : Nat} {P : Nat → Bool} {x : Value} (h : OwB w base g n P) (hne : g ≠ g') : OwB (w.setCell ⟨g', i, none⟩ x) base g n P := ownsRow_setCell_other h (a := ⟨g', i, none⟩) (fun e => hne (by simpa [Value.ownBlock] using e)) x
theorem DM.set {w u : World} {n : Nat} {V : Value} {R : List Nat} {P Q : Nat → Nat → Bool} (h : DM w u n V R P) {b g d : Nat} {x : Bool} (hb : R[b]? = some g) (hQb : ∀ j, j < n → Q b j = if j = d then x else P b j) (hQ : ∀ i, i ≠ b → Q i = P i) : DM w (u.setCell ⟨g, d, none⟩ (.bool x)) n V R Q := by
  have hg := h.rows b g hb
  refine ⟨own_set_ne h.out hg (by decide) d _, fun i g' hi => ?_, h.nodup, h.bel.setCell (own_blk hg).1 _⟩
  by_cases e : i = b
  · subst e
    rw [hb] at hi
    cases hi
    exact hg.set d x hQb
  · rw [hQ i e]
    refine (h.rows i g' hi).other fun q => e ?_
    subst q
    obtain ⟨i1, e1⟩ := List.getElem?_eq_some_iff.1 hi
    obtain ⟨i2, e2⟩ := List.getElem?_eq_some_iff.1 hb
    exact (List.getElem_inj h.nodup).1 (e1.trans e2.symm)
theorem DM.add {w u u3 u' : World} {n : Nat} {V V' : Value} {R : List Nat} {P : Nat → Nat → Bool} (h : DM w u n V R P) (hP : ∀ i, i = R.length → P i = fun _ => false) (h3 : u3.ownsRow u.heap.size 4 1 (.slice (some ⟨u.heap.size, 0, none⟩) n n) n (bv (fun _ => false) n)) (hb3 : Below u.heap.size u u3) (hown : u'.ownsRow w.heap.size 41 1 V' (R.length + 1) (R.map (rowV n) ++ [rowV n u.heap.size])) (hg : (u3.alloc (.cells #[rowV n u.heap.size] 41)).grownBy u' V.ownBlock) : DM w u' n V' (R ++ [u.heap.size]) P := by
  have bA := below_alloc u3 (.cells #[rowV n u.heap.size] 41)
  have hbb : Below u.heap.size u (u3.alloc (.cells #[rowV n u.heap.size] 41)) := below_on hb3 (Nat.le_refl _) bA
  have o1 := own_keep h.out hbb (Nat.le_refl _)
  have k3 : OwB (u3.alloc (.cells #[rowV n u.heap.size] 41)) w.heap.size u.heap.size n (fun _ => false) := own_lower (own_keep h3 bA (Nat.le_refl _)) h.bel.size
  refine ⟨by rw [List.length_append, List.length_singleton, List.map_append]; exact hown, fun i g hi => ?_, ?_, (below_on h.bel (Nat.le_refl _) hbb).grown hg (Nat.le_trans h.bel.size hbb.size) (fun i hi => (h.out.lt i hi).1)⟩
  · by_cases e : i < R.length
    · rw [List.getElem?_append_left e] at hi
      exact own_grown ((h.rows i g hi).keep hbb) hg o1 (by decide)
    · have hl := (List.getElem?_eq_some_iff.1 hi).1
      simp only [List.length_append, List.length_singleton] at hl
      have hiR : i = R.length := by omega
      rw [List.getElem?_append_right (by omega)] at hi
      subst hiR
      simp only [Nat.sub_self, List.getElem?_cons_zero, Option.some.injEq] at hi
      subst hi
      rw [hP _ rfl]
      exact own_grown k3 hg o1 (by decide)
  · refine List.nodup_append.2 ⟨h.nodup, by simp, fun a ha c hc e => ?_⟩
    simp only [List.mem_cons, List.not_mem_nil, or_false] at hc
    subst hc
    obtain ⟨i, hi⟩ := List.getElem?_of_mem ha
    have := (h.rows i a hi).lt
    omega
theorem one_cellV (U : World) (x : Value) (t : TypeId) : ∀ j u, [x][j]? = some u → (U.alloc (.cells #[x] t)).cell? ((⟨U.heap.size, 0, none⟩ : Addr).add j) = some u := fun j u hj => by
  rw [add_at, Nat.zero_add, (Blk.new U #[x] t).cell j]
  simpa using hj
/-- A matrix of bools, to be read. -/
def MatAt (w : World) (g n : Nat) (D : Nat → Nat → Bool) : Prop := ∀ b, b < n → ∃ r, w.cell? ⟨g, b, none⟩ = some (.slice (some ⟨r, 0, none⟩) n n) ∧ ∀ d, d < n → w.cell? ⟨r, d, none⟩ = some (.bool (D b d))
theorem MatAt.keep {w w' : World} {g n : Nat} {D : Nat → Nat → Bool} (h : MatAt w g n D) (hb : Below w.heap.size w w') : MatAt w' g n D := fun b hb' => by
  obtain ⟨r, h1, h2⟩ := h b hb'
  exact ⟨r, bcell_keep hb h1, fun d hd => bcell_keep hb (h2 d hd)⟩
theorem DM.cell {w u : World} {n g c m : Nat} {R : List Nat} {P : Nat → Nat → Bool} (h : DM w u n (.slice (some ⟨g, 0, none⟩) m c) R P) (hm : R.length = m) {b : Nat} (hb : b < m) : ∃ r, R[b]? = some r ∧ u.cell? ⟨g, b, none⟩ = some (.slice (some ⟨r, 0, none⟩) n n) := by
  subst hm
  have := h.out.cellAt b (by omega)
  rw [List.getElem?_map, List.getElem?_eq_getElem hb] at this
  exact ⟨_, List.getElem?_eq_getElem hb, this⟩
theorem DM.mat {w u : World} {n g c : Nat} {R : List Nat} {P : Nat → Nat → Bool} (h : DM w u n (.slice (some ⟨g, 0, none⟩) n c) R P) (hl : R.length = n) : MatAt u g n P := fun b hb => by
  obtain ⟨r, h1, h2⟩ := h.cell hl (b := b) (by omega)
  exact ⟨r, h2, fun d hd => (h.rows b r h1).cell hd⟩
set_option maxHeartbeats 4000000 in
set_option maxRecDepth 100000 in
theorem l5Doms_any (g o c n : Nat) (E : Nat → List Nat) (D : Nat → Nat → Bool) (w : World) (hn : n ≤ 1048576) (h0 : 0 < n) (hD : ∀ d b, D d b = true ↔ Dom E d b) (hE : ∀ b, b < n → ∀ x ∈ E b, x < n) (hsz : ∀ b, (E b).length ≤ 2) (h : GrAt w g o n E) :
    Calls Try.prog 31 #[.slice (some ⟨g, o, none⟩) n c] w fun e w' => ∃ gm cm, e = .returned (.slice (some ⟨gm, 0, none⟩) n cm) ∧ MatAt w' gm n (fun b d => D d b) ∧ Below w.heap.size w w' ∧ w.heap.size ≤ gm ∧ (∀ b r, b < n → w'.cell? ⟨gm, b, none⟩ = some (.slice (some ⟨r, 0, none⟩) n n) → w.heap.size ≤ r) := by
  obtain ⟨j0, hj, hy0, hy1, hy2⟩ := info_parts infoBool
  obtain ⟨k0, hk, hx0, hx1, hx2⟩ := info_parts infoSB
  have H : Hid (GrAt w g o n E ∧ (∀ b, b < n → ∀ x ∈ E b, x < n) ∧ (∀ b, (E b).length ≤ 2) ∧ (∀ d b, D d b = true ↔ Dom E d b)) := ⟨h, hE, hsz, hD⟩
  clear h hE hsz hD
  have HS : Hid (DM w (w.alloc (.cells #[] 41)) n (.slice (some ⟨w.heap.size, 0, none⟩) 0 0) [] (fun _ _ => false)) := by
    refine ⟨?_, fun i g hi => by simp at hi, List.nodup_nil, below_alloc _ _⟩
    exact ⟨rfl, .inr ⟨w.heap.size, 0, #[], rfl, Nat.le_refl _, Blk.new w #[] 41, Nat.le_refl _, Nat.zero_le _, rfl, rfl⟩⟩
  go_enter Try.func31, Try.ntmps31
  go_wp2
  go_loopw [4, 5] (fun V i wr => ∃ (R : List Nat) (gm cm : Nat), V = .slice (some ⟨gm, 0, none⟩) R.length cm ∧ i = .int .i64 (R.length : Int) ∧ R.length ≤ n ∧ Hid (DM w wr n V R (fun _ _ => false))) (fun _ i _ => n - (intOf i).toNat)
  case atStart => exact ⟨[], _, _, rfl, rfl, by simp, HS⟩
  case round =>
    clear HS
    obtain ⟨R, gm, cm, rfl, rfl, hR, HM⟩ := hrel
    by_cases hlt : R.length < n
    · have hltI : (R.length : Int) < (n : Int) := by omega
      have hsz1 := HM.out.bel.size
      go_wp2_with (first
        | (at_make; refine wpList_make_full _ rfl _ _ 41 rfl wr.heap.size 4 j0 (.bool false) 1 Try.underlying41 hj hy0 hy1 .i64 .i64 _ _ n rfl rfl rfl rfl (by rw [hy2]; omega) (by unfold maxLen; omega) (Nat.le_refl _) ?_; intro w3 hown hgrow; rw [made_bool, bv_zero] at hown; have hb3 : Below wr.heap.size wr w3 := (Below.refl _ _).grown hgrow (Nat.le_refl _) (fun k hk => by cases hk); have hoA : (w3.alloc (.cells #[rowV n wr.heap.size] 41)).ownsRow w.heap.size 41 1 (.slice (some ⟨gm, 0, none⟩) R.length cm) R.length (R.map (rowV n)) := own_keep HM.out.out (below_on hb3 (Nat.le_refl _) (below_alloc _ _)) (Nat.le_refl _); have hsA : w.heap.size ≤ (w3.alloc (.cells #[rowV n wr.heap.size] 41)).heap.size := by have h1 := hb3.size; have h2 := (below_alloc w3 (.cells #[rowV n wr.heap.size] 41)).size; omega)
        | (at_builtin; refine wpList_append_lies _ rfl _ _ 58 rfl w.heap.size 41 k0 (.slice none 0 0) 1 24 Try.underlying58 hk hx0 hx1 hx2 rfl (by decide) _ R.length (R.map (rowV n)) rfl hoA ⟨w3.heap.size, 0, none⟩ 1 1 [rowV n wr.heap.size] rfl rfl (one_cellV w3 _ _) (fun u hu => by simp at hu; subst hu; rfl) (by omega) (by simp [maxLen]; omega) (by omega) hsA _ rfl ?_; intro g5 cap5 w5 hown5 hgrow5 hat hlt3; have HM5 : Hid (DM w w5 n (.slice (some ⟨g5, 0, none⟩) (R.length + 1) cap5) (R ++ [wr.heap.size]) (fun _ _ => false)) := HM.out.add (fun _ _ => rfl) hown hb3 hown5 hgrow5; clear hown hgrow hown5 hgrow5 hat hlt3 hb3 hoA hsA)
        | go_in)
      go_roundw
      case rel => exact ⟨R ++ [wr.heap.size], g5, cap5, by rw [List.length_append, List.length_singleton], by rw [List.length_append, List.length_singleton]; go_num, by rw [List.length_append, List.length_singleton]; omega, HM5⟩
      case measure => simp [intOf]; omega
    · have hRn : R.length = n := by omega
      have HRN : Hid (R.length = n) := hRn
      rw [hRn] at HM
      rw [hRn]
      clear hlt hR hRn
      have HM0 : Hid (DM w wr n (.slice (some ⟨gm, 0, none⟩) n cm) R (fun i k => decide (k < 0) && D k i)) := by
        have : (fun i k => decide (k < 0) && D k i) = (fun (_ _ : Nat) => false) := by funext i k; simp
        show DM w wr n _ R _
        rw [this]
        exact HM.out
      clear HM
      go_wp2
      go_loopw [6] (fun i wr => ∃ d : Nat, d ≤ n ∧ i = .int .i64 d ∧ Hid (DM w wr n (.slice (some ⟨gm, 0, none⟩) n cm) R (fun i k => decide (k < d) && D k i))) (fun i _ => n - (intOf i).toNat)
      case atStart => exact ⟨0, by omega, rfl, HM0⟩
      case round =>
        clear HM0
        obtain ⟨d, hd, rfl, HM⟩ := hrel
        by_cases hlt : d < n
        · have hltI : (d : Int) < (n : Int) := by omega
          go_wp2_with fail
          refine (l5Seen_any g o c n 0 (d : Int) E _ hn H.out.2.1 H.out.2.2.1 h0 (H.out.1.keep HM.out.bel)).mono ?_
          rintro e u2 ⟨gs, P, rfl, hP, hPi, b2⟩
          have HP : Hid (OwB u2 wr.heap.size gs n P ∧ (∀ x, x < n → (!P x) = D d x) ∧ wr.heap.size ≤ gs) := by
            refine ⟨hP, fun x hx => ?_, (own_blk hP).1⟩
            rw [Bool.eq_iff_iff, H.out.2.2.2 d x]
            unfold Dom
            have e1 : Rch E (fun y => (y : Int) ≠ (d : Int)) 0 x ↔ Rch E (· ≠ d) 0 x := ⟨fun q => q.mono fun y hy e => hy (by rw [e]), fun q => q.mono fun y hy e => hy (by omega)⟩
            rw [← e1, ← hPi x hx]
            simp
          have HM2 : Hid (DM w u2 n (.slice (some ⟨gm, 0, none⟩) n cm) R (fun i k => (decide (k < d) || (decide (k = d) && decide (i < 0))) && D k i)) := by
            have e1 : (fun i k => (decide (k < d) || (decide (k = d) && decide (i < 0))) && D k i) = (fun i k => decide (k < d) && D k i) := by funext i k; simp
            show DM w u2 n _ R _
            rw [e1]
            exact HM.out.keep b2
          have HR : Hid ((∀ i r, R[i]? = some r → r < wr.heap.size) ∧ w.heap.size ≤ wr.heap.size) := ⟨fun i r hi => (HM.out.rows i r hi).lt, HM.out.bel.size⟩
          clear hP hPi b2 HM
          go_wp2
          go_loopw [8] (fun i wr => ∃ b : Nat, b ≤ n ∧ i = .int .i64 b ∧ Hid (DM w wr n (.slice (some ⟨gm, 0, none⟩) n cm) R (fun i k => (decide (k < d) || (decide (k = d) && decide (i < b))) && D k i) ∧ OwB wr w.heap.size gs n P)) (fun i _ => n - (intOf i).toNat)
          case atStart => exact ⟨0, by omega, rfl, HM2.out, own_lower HP.out.1 HR.out.2⟩
          case round =>
            clear HM2
            obtain ⟨b, hb, rfl, HM⟩ := hrel
            by_cases hlt2 : b < n
            · have hlt2I : (b : Int) < (n : Int) := by omega
              obtain ⟨r, hr, c0⟩ := HM.out.1.cell HRN.out hlt2
              have c1 := HM.out.2.cell hlt2
              have hrow := HM.out.1.rows b r hr
              have c2 := hrow.cell hlt
              have z2 := hrow.frozen d
              have hne : gs ≠ r := by have := HR.out.1 b r hr; have := HP.out.2.2; omega
              have HN : Hid (DM w (wr.setCell ⟨r, d, none⟩ (.bool (!P b))) n (.slice (some ⟨gm, 0, none⟩) n cm) R (fun i k => (decide (k < d) || (decide (k = d) && decide (i < b + 1))) && D k i) ∧ OwB (wr.setCell ⟨r, d, none⟩ (.bool (!P b))) w.heap.size gs n P) := by
                refine ⟨HM.out.1.set hr (fun j hj => ?_) (fun i hi => ?_), HM.out.2.other hne⟩
                · by_cases e : j = d
                  · subst e
                    simp [HP.out.2.1 b hlt2]
                  · simp [e]
                · funext k
                  have : decide (i < b + 1) = decide (i < b) := by simp; omega
                  simp [this]
              clear hr hrow
              go_wp2
              go_region
              refine with_world (fun u => Hid (DM w u n (.slice (some ⟨gm, 0, none⟩) n cm) R (fun i k => (decide (k < d) || (decide (k = d) && decide (i < b + 1))) && D k i) ∧ OwB u w.heap.size gs n P)) ?_ ?_
              · exact ⟨HN.out.1.keep (below_drew1 _), HN.out.2.keep (below_drew1 _)⟩
              intro U HU
              go_wp2
              go_roundw
              case rel => exact ⟨b + 1, by omega, by go_num, HU⟩
              case measure => simp [intOf]; omega
            · obtain rfl : b = n := by omega
              have HN : Hid (DM w wr b (.slice (some ⟨gm, 0, none⟩) b cm) R (fun i k => decide (k < d + 1) && D k i)) := by
                refine ⟨HM.out.1.out, fun i r hi => ?_, HM.out.1.nodup, HM.out.1.bel⟩
                have h1 := HM.out.1.rows i r hi
                unfold OwB at h1 ⊢
                rw [bv_congr (Q := fun k => decide (k < d + 1) && D k i)] at h1
                · exact h1
                · intro k hk
                  have hib : i < b := by have := (List.getElem?_eq_some_iff.1 hi).1; rw [HRN.out] at this; exact this
                  have e1 : (decide (k < d) || (decide (k = d) && decide (i < b))) = decide (k < d + 1) := by
                    rw [Bool.eq_iff_iff]
                    simp
                    omega
                  simp only [e1]
              go_wp2
              go_roundw
              case rel => exact ⟨d + 1, by omega, by go_num, HN⟩
              case measure => simp [intOf]; omega
        · obtain rfl : d = n := by omega
          have HN : Hid (MatAt wr gm d (fun b k => D k b)) := fun b hb => by
            obtain ⟨r, h1, h2⟩ := HM.out.mat HRN.out b hb
            refine ⟨r, h1, fun k hk => ?_⟩
            have := h2 k hk
            simpa [hk] using this
          have HMO : Hid (wr.ownsRow w.heap.size 41 1 (.slice (some ⟨gm, 0, none⟩) d cm) d (R.map (rowV d))) := by
            have := HM.out.out
            rw [HRN.out] at this
            exact this
          go_wp2
          go_ret
          refine ⟨gm, cm, rfl, HN.out, HM.out.bel, (own_blk HMO.out).1, fun b r hb hr => ?_⟩
          obtain ⟨r', h1, h2⟩ := HM.out.cell HRN.out (b := b) hb
          rw [hr] at h2
          simp only [Option.some.injEq, Value.slice.injEq, Addr.mk.injEq, and_true] at h2
          rw [h2]
          exact (own_blk (HM.out.rows b r' h1)).1
end Go.Proofs.Ytdbaghmjomdmbaa
