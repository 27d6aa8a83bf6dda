import Derived.Test.YtdbaghmjomdmbaaFo16
namespace Go.Proofs.Ytdbaghmjomdmbaa
open Go.ChangeShapes Go.WideShapes Go.ChangeAt Go.RowKit
set_option linter.unusedVariables false
theorem unseen_mono {S S' : List Nat} (n : Nat) (h : ∀ x ∈ S, x ∈ S') : unseen S' n ≤ unseen S n := by
  unfold unseen
  rw [← List.countP_eq_length_filter, ← List.countP_eq_length_filter]
  apply List.countP_mono_left
  intro x _ hx
  simp only [Bool.not_eq_true', List.contains_eq_mem, decide_eq_false_iff_not] at hx ⊢
  exact fun q => hx (h x q)
theorem Vs.more {E : Nat → List Nat} {S O r S' O' : List Nat} (h : Vs E S O r S' O') : ∀ x ∈ S, x ∈ S' := by
  obtain ⟨N, t⟩ := h.told
  exact fun x hx => (t.seen x).2 (.inl hx)
set_option maxHeartbeats 4000000 in
set_option maxRecDepth 100000 in
theorem l5Post_any (g o c n gs : Nat) (E : Nat → List Nat) (w : World) (hn : n ≤ 1048576) (hE : ∀ b, b < n → ∀ x ∈ E b, x < n) (hsz : ∀ b, (E b).length ≤ 2) (h : GrAt w g o n E) :
    ∀ (m : Nat) (S O : List Nat) (b : Nat) (V : Value) (u : World), unseen S n = m → b < n → b ∉ S → O.length + unseen S n ≤ n → SN w u n gs V (fun x => S.contains x) O →
    Calls Try.prog 30 #[.slice (some ⟨g, o, none⟩) n c, .int .i64 (b : Int), .slice (some ⟨gs, 0, none⟩) n n, V] u fun e u' => ∃ V' S' O', e = .returned V' ∧ Vs E (b :: S) O (E b) S' O' ∧ SN w u' n gs V' (fun x => S'.contains x) (O' ++ [b]) ∧ (O' ++ [b]).length + unseen S' n ≤ O.length + unseen S n := by
  obtain ⟨k0, hk, hx0, hx1, hx2⟩ := info_parts info64
  have H : Hid (GrAt w g o n E ∧ (∀ b, b < n → ∀ x ∈ E b, x < n) ∧ (∀ b, (E b).length ≤ 2)) := ⟨h, hE, hsz⟩
  clear h hE hsz
  intro m
  induction m using Nat.strongRecOn with
  | ind m ih =>
    intro S O b V u hm hb hbS hlen hsn
    have IH : Hid (∀ m', m' < m → ∀ (S O : List Nat) (b : Nat) (V : Value) (u : World), unseen S n = m' → b < n → b ∉ S → O.length + unseen S n ≤ n → SN w u n gs V (fun x => S.contains x) O →
      Calls Try.prog 30 #[.slice (some ⟨g, o, none⟩) n c, .int .i64 (b : Int), .slice (some ⟨gs, 0, none⟩) n n, V] u fun e u' => ∃ V' S' O', e = .returned V' ∧ Vs E (b :: S) O (E b) S' O' ∧ SN w u' n gs V' (fun x => S'.contains x) (O' ++ [b]) ∧ (O' ++ [b]).length + unseen S' n ≤ O.length + unseen S n) := ih
    have hu1 := unseen_cons S n b hb hbS
    have HU1 : Hid (unseen (b :: S) n + 1 = unseen S n ∧ unseen S n = m ∧ O.length + unseen S n ≤ n) := ⟨hu1, hm, hlen⟩
    obtain ⟨aV, cV, rfl⟩ := own_slice hsn.list
    have hbI : (b : Int) < (n : Int) := by omega
    have d0 := hsn.seen.cell hb
    have z0 := hsn.seen.frozen b
    have HS0 : Hid (SN w (u.setCell ⟨gs, b, none⟩ (.bool true)) n gs (.slice aV O.length cV) (fun x => (b :: S).contains x) O) := hsn.mark b true fun j hj => by
      by_cases e : j = b
      · subst e; simp
      · simp [e]
    obtain ⟨a, ca, g0, g1⟩ := H.out.1 b hb
    have HG : Hid (w.cell? ⟨g, o + b * 3 + 2, none⟩ = some (.slice a (E b).length ca) ∧ RdN w (.slice a (E b).length ca) (E b)) := ⟨g0, g1⟩
    have hE2 := H.out.2.2 b
    clear ih hsn g0 g1 hu1 hm hlen
    go_enter Try.func30, Try.ntmps30
    go_wp2
    go_loopw [3, 9] (fun V i wr => ∃ (S' O' : List Nat) (k : Nat) (aV : Option Addr) (cV : Nat), V = .slice aV O'.length cV ∧ i = .int .i64 k ∧ k ≤ (E b).length ∧ O'.length + 1 ≤ n ∧ Hid (Vs E (b :: S) O ((E b).take k) S' O' ∧ SN w wr n gs V (fun x => S'.contains x) O' ∧ O'.length + unseen S' n + 1 ≤ O.length + unseen S n)) (fun _ i _ => 2 - (intOf i).toNat)
    case atStart => exact ⟨b :: S, O, 0, aV, cV, rfl, rfl, by omega, by have := HU1.out; omega, by simpa using Vs.nil (b :: S) O, HS0.out, by have := HU1.out; omega⟩
    case round =>
      clear HS0 d0 z0
      obtain ⟨S', O', k, aV, cV, rfl, rfl, hkE, hO, HL⟩ := hrel
      have g0 := bcell_keep HL.out.2.1.bel HG.out.1
      by_cases hlt : k < (E b).length
      · have hltI : (k : Int) < ((E b).length : Int) := by omega
        obtain ⟨y, hy⟩ : ∃ y, (E b)[k]? = some y := ⟨_, List.getElem?_eq_getElem hlt⟩
        have hyn : y < n := H.out.2.1 b hb y (List.mem_of_getElem? hy)
        have hynI : (y : Int) < (n : Int) := by omega
        have HY : Hid ((E b)[k]? = some y) := hy
        obtain ⟨ga, oa, rfl, _, y0⟩ := HG.out.2.at_ hy
        replace y0 := bcell_keep HL.out.2.1.bel y0
        have s0 := HL.out.2.1.seen.cell hyn
        have HT : Hid ((E b).take (k + 1) = (E b).take k ++ [y]) := by
          obtain ⟨hl, rfl⟩ := List.getElem?_eq_some_iff.1 hy
          exact List.take_succ_eq_append_getElem hl
        clear hy
        cases hc : S'.contains y
        · simp only [hc] at s0
          have hyS : y ∉ S' := by simpa using hc
          have hmo := HL.out.1.more
          have hun := unseen_mono n hmo
          have HC : Hid (Calls Try.prog 30 #[.slice (some ⟨g, o, none⟩) n c, .int .i64 (y : Int), .slice (some ⟨gs, 0, none⟩) n n, .slice aV O'.length cV] wr fun e u' => ∃ V' S'' O'', e = .returned V' ∧ Vs E (y :: S') O' (E y) S'' O'' ∧ SN w u' n gs V' (fun x => S''.contains x) (O'' ++ [y]) ∧ (O'' ++ [y]).length + unseen S'' n ≤ O'.length + unseen S' n) := IH.out (unseen S' n) (by have := HU1.out; omega) S' O' y _ wr rfl hyn hyS (by have := HL.out.2.2; have := HU1.out; omega) HL.out.2.1
          clear hmo hun
          go_wp2_with fail
          refine HC.out.mono ?_
          rintro e u2 ⟨V2, S2, O2, rfl, hv2, hs2, hl2⟩
          obtain ⟨a2, c2, rfl⟩ := own_slice hs2.list
          have HN : Hid (Vs E (b :: S) O ((E b).take (k + 1)) S2 (O2 ++ [y]) ∧ SN w u2 n gs (.slice a2 (O2 ++ [y]).length c2) (fun x => S2.contains x) (O2 ++ [y]) ∧ (O2 ++ [y]).length + unseen S2 n + 1 ≤ O.length + unseen S n) := by
            refine ⟨?_, hs2, by have := HL.out.2.2; omega⟩
            rw [HT.out]
            exact HL.out.1.app (.new hyS hv2 (.nil _ _))
          have hO2 : (O2 ++ [y]).length + 1 ≤ n := by have := HN.out.2.2; have := HU1.out; omega
          clear hv2 hs2 hl2 s0 y0 g0
          go_wp2
          go_roundw
          case rel => exact ⟨S2, O2 ++ [y], k + 1, a2, c2, by rw [List.length_append, List.length_singleton], by go_num, by omega, hO2, HN.out.1, by have := HN.out.2.1; rw [List.length_append, List.length_singleton] at this; exact this, HN.out.2.2⟩
          case measure => simp [intOf]; omega
        · simp only [hc] at s0
          have HN : Hid (Vs E (b :: S) O ((E b).take (k + 1)) S' O') := by
            show Vs E (b :: S) O ((E b).take (k + 1)) S' O'
            rw [HT.out]
            exact HL.out.1.app (.old (by simpa using hc) (.nil _ _))
          go_wp2
          go_roundw
          case rel => exact ⟨S', O', k + 1, aV, cV, rfl, by go_num, by omega, hO, HN.out, HL.out.2.1, HL.out.2.2⟩
          case measure => simp [intOf]; omega
      · obtain rfl : k = (E b).length := by omega
        have hO3 := HU1.out
        have hO4 := HL.out.2.2
        go_upto_region 7 with fail
        refine wp_world (fun u => Hid (SN w u n gs (.slice aV O'.length cV) (fun x => S'.contains x) O')) HL.out.2.1 ?_
        intro U HU
        clear g0
        go_wp2_with (at_builtin; refine wpList_append_lies _ rfl _ _ 33 rfl w.heap.size 2 k0 (.int .i64 0) 1 8 Try.underlying33 hk hx0 hx1 hx2 rfl (by decide) _ O'.length (nv O') rfl (HU.out.al (.cells #[.int .i64 (b : Int)] 2)).1 ⟨U.heap.size, 0, none⟩ 1 1 [.int .i64 (b : Int)] rfl rfl (one_cell U (b : Int)) (fun u hu => by simp at hu; subst hu; rfl) (by omega) (by simp [maxLen]; omega) (by omega) (HU.out.al (.cells #[.int .i64 (b : Int)] 2)).2 _ rfl ?_; intro g5 cap5 w5 hown hgrow hat hlt3; have HU5 : Hid (SN w w5 n gs (.slice (some ⟨g5, 0, none⟩) (O'.length + 1) cap5) (fun x => S'.contains x) (O' ++ [b])) := HU.out.app hown hgrow; clear hown hgrow hat hlt3)
        go_ret
        refine ⟨_, S', O', rfl, ?_, HU5.out, by rw [List.length_append, List.length_singleton]; omega⟩
        have := HL.out.1
        rw [List.take_of_length_le (Nat.le_refl _)] at this
        exact this
end Go.Proofs.Ytdbaghmjomdmbaa
