import Derived.Test.YtdfmdgbolmbffaaGreatLf10
import Derived.Deep.AppendLies
namespace Go.Proofs.YtdfmdgbolmbffaaGreat
open Go.ChangeShapes Go.WideShapes Go.ChangeAt Go.RowKit
set_option linter.unusedVariables false
/-- Blocks that were come to. -/
structure BfsOk (E : Nat → List Nat) (ok : Nat → Prop) (f n : Nat) (L : List Nat) : Prop where
  nodup : L.Nodup
  lt : ∀ x ∈ L, x < n
  reach : ∀ x ∈ L, Rch E ok f x
  start : f ∈ L
theorem BfsOk.len {E : Nat → List Nat} {ok : Nat → Prop} {f n : Nat} {L : List Nat} (h : BfsOk E ok f n L) : L.length ≤ n := by
  have := nodup_le L n h.lt h.nodup
  omega
theorem BfsOk.add {E : Nat → List Nat} {ok : Nat → Prop} {f n : Nat} {L : List Nat} (h : BfsOk E ok f n L) {b y : Nat} (hb : b ∈ L) (hy : y ∈ E b) (ho : ok y) (hn : y < n) (hL : y ∉ L) : BfsOk E ok f n (L ++ [y]) := by
  refine ⟨List.nodup_append.2 ⟨h.nodup, by simp, fun a ha c hc e => ?_⟩, fun x hx => ?_, fun x hx => ?_, List.mem_append.2 (.inl h.start)⟩
  · simp only [List.mem_cons, List.not_mem_nil, or_false] at hc
    subst hc e
    exact hL ha
  · rcases List.mem_append.1 hx with hx | hx
    · exact h.lt x hx
    · simp only [List.mem_cons, List.not_mem_nil, or_false] at hx
      subst hx
      exact hn
  · rcases List.mem_append.1 hx with hx | hx
    · exact h.reach x hx
    · simp only [List.mem_cons, List.not_mem_nil, or_false] at hx
      subst hx
      exact .step (h.reach b hb) hy ho
/-- From the first i of them all was taken. -/
def ClosedTo (E : Nat → List Nat) (ok : Nat → Prop) (L : List Nat) (i : Nat) : Prop := ∀ j x, L[j]? = some x → j < i → ∀ y ∈ E x, ok y → y ∈ L
def TakenTo (E : Nat → List Nat) (ok : Nat → Prop) (L : List Nat) (b k : Nat) : Prop := ∀ y ∈ (E b).take k, ok y → y ∈ L
theorem ClosedTo.app {E : Nat → List Nat} {ok : Nat → Prop} {L : List Nat} {i : Nat} (h : ClosedTo E ok L i) (hi : i ≤ L.length) (y : Nat) : ClosedTo E ok (L ++ [y]) i := fun j x hj hl z hz ho => by
  rw [List.getElem?_append_left (by omega)] at hj
  exact List.mem_append.2 (.inl (h j x hj hl z hz ho))
theorem TakenTo.next {E : Nat → List Nat} {ok : Nat → Prop} {L L' : List Nat} {b k y : Nat} (h : TakenTo E ok L b k) (hs : ∀ x ∈ L, x ∈ L') (hy : (E b)[k]? = some y) (hL : ok y → y ∈ L') : TakenTo E ok L' b (k + 1) := fun z hz ho => by
  obtain ⟨hlt, rfl⟩ := List.getElem?_eq_some_iff.1 hy
  rw [List.take_succ_eq_append_getElem hlt] at hz
  rcases List.mem_append.1 hz with hz | hz
  · exact hs z (h z hz ho)
  · simp only [List.mem_cons, List.not_mem_nil, or_false] at hz
    subst hz
    exact hL ho
theorem ClosedTo.next {E : Nat → List Nat} {ok : Nat → Prop} {L : List Nat} {i b : Nat} (h : ClosedTo E ok L i) (hb : L[i]? = some b) (ht : TakenTo E ok L b (E b).length) : ClosedTo E ok L (i + 1) := fun j x hj hl y hy ho => by
  by_cases e : j = i
  · subst e
    rw [hb] at hj
    cases hj
    exact ht y (by rw [List.take_of_length_le (Nat.le_refl _)]; exact hy) ho
  · exact h j x hj (by omega) y hy ho
theorem BfsOk.iff {E : Nat → List Nat} {ok : Nat → Prop} {f n : Nat} {L : List Nat} (h : BfsOk E ok f n L) (hc : ClosedTo E ok L L.length) (x : Nat) : x ∈ L ↔ Rch E ok f x := by
  refine ⟨h.reach x, fun hr => ?_⟩
  induction hr with
  | here _ => exact h.start
  | step _ h2 h3 ih =>
    obtain ⟨j, hj⟩ := List.getElem?_of_mem ih
    exact hc j _ hj (List.getElem?_eq_some_iff.1 hj).1 _ h2 h3
/-- A row of bools and a list of numbers. -/
structure SN (w u : World) (n gs : Nat) (V : Value) (P : Nat → Bool) (L : List Nat) : Prop where
  seen : OwB u w.heap.size gs n P
  list : OwN u w.heap.size V L
  bel : Below w.heap.size w u
theorem own_at {w : World} {base g n c k : Nat} {e : TypeId} {xs : List Value} (h : w.ownsRow base e k (.slice (some ⟨g, 0, none⟩) n c) n xs) : base ≤ g := (own_blk h).1
theorem SN.mark {w u : World} {n gs : Nat} {V : Value} {P Q : Nat → Bool} {L : List Nat} (h : SN w u n gs V P L) (i : Nat) (b : Bool) (hQ : ∀ j, j < n → Q j = if j = i then b else P j) : SN w (u.setCell ⟨gs, i, none⟩ (.bool b)) n gs V Q L := ⟨h.seen.set i b hQ, own_set_ne h.list h.seen (by decide) i _, h.bel.setCell (own_blk h.seen).1 _⟩
theorem SN.al {w u : World} {n gs : Nat} {V : Value} {P : Nat → Bool} {L : List Nat} (h : SN w u n gs V P L) (o : Obj) : (u.alloc o).ownsRow w.heap.size 2 1 V L.length (nv L) ∧ w.heap.size ≤ (u.alloc o).heap.size := ⟨h.list.keep (below_alloc _ _), Nat.le_trans h.bel.size (below_alloc _ _).size⟩
theorem SN.app {w u u' : World} {n gs : Nat} {V V' : Value} {P : Nat → Bool} {L : List Nat} {y : Nat} (h : SN w u n gs V P L) (hown : u'.ownsRow w.heap.size 2 1 V' (L.length + 1) (nv L ++ [.int .i64 (y : Int)])) (hg : (u.alloc (.cells #[.int .i64 (y : Int)] 2)).grownBy u' V.ownBlock) : SN w u' n gs V' P (L ++ [y]) := by
  have bA := below_alloc u (.cells #[.int .i64 (y : Int)] 2)
  have o1 := h.list.keep bA
  refine ⟨own_grown (h.seen.keep bA) hg o1 (by decide), ?_, (below_on h.bel (Nat.le_refl _) bA).grown hg (Nat.le_trans h.bel.size bA.size) (fun i hi => (h.list.lt i hi).1)⟩
  unfold OwN
  rw [List.length_append, List.length_singleton, nv_app]
  exact hown
theorem SN.keep {w u u' : World} {n gs : Nat} {V : Value} {P : Nat → Bool} {L : List Nat} (h : SN w u n gs V P L) (hb : Below u.heap.size u u') : SN w u' n gs V P L := ⟨h.seen.keep hb, h.list.keep hb, below_on h.bel (Nat.le_refl _) hb⟩
theorem cont_set (L : List Nat) (y : Nat) (n : Nat) : ∀ j, j < n → (L ++ [y]).contains j = if j = y then true else L.contains j := fun j _ => by
  by_cases e : j = y
  · subst e; simp
  · simp [e]
set_option maxHeartbeats 4000000 in
set_option maxRecDepth 100000 in
theorem l5Seen_any (g o c n f : Nat) (z : Int) (E : Nat → List Nat) (w : World) (hn : n ≤ 1048576) (hE : ∀ b, b < n → ∀ x ∈ E b, x < n) (hsz : ∀ b, (E b).length ≤ 2) (hf : f < n) (h : GrAt w g o n E) :
    Calls Tryz.prog 103 #[.slice (some ⟨g, o, none⟩) n c, .int .i64 (f : Int), .int .i64 z] w fun e w' => ∃ gs P, e = .returned (.slice (some ⟨gs, 0, none⟩) n n) ∧ OwB w' w.heap.size gs n P ∧ (∀ x, x < n → (P x = true ↔ Rch E (fun y => (y : Int) ≠ z) f x)) ∧ Below w.heap.size w w' := by
  obtain ⟨j0, hj, hy0, hy1, hy2⟩ := info_parts infoBool
  obtain ⟨k0, hk, hx0, hx1, hx2⟩ := info_parts info64
  have H : Hid (GrAt w g o n E ∧ (∀ b, b < n → ∀ x ∈ E b, x < n) ∧ (∀ b, (E b).length ≤ 2)) := ⟨h, hE, hsz⟩
  clear h hE hsz
  go_enter Tryz.func103, Tryz.ntmps103
  by_cases q : (f : Int) = z
  · subst q
    go_wp2_with (at_make; refine wpList_make_full _ rfl _ _ 69 rfl w.heap.size 4 j0 (.bool false) 1 Tryz.underlying69 hj hy0 hy1 .i64 .i64 _ _ n rfl rfl rfl rfl (by rw [hy2]; omega) (by unfold maxLen; omega) (Nat.le_refl _) ?_; intro w3 hown hgrow; rw [made_bool, bv_zero] at hown)
    go_ret
    refine ⟨_, _, rfl, hown, fun x hx => ⟨fun q => by simp at q, fun q => absurd rfl q.ok0⟩, (Below.refl _ _).grown hgrow (Nat.le_refl _) (fun k hk => by cases hk)⟩
  · have q' : ((f : Int) == z) = false := by simpa using q
    have hfz : (f : Int) < (n : Int) := by omega
    go_wp2_with (at_make; refine wpList_make_full _ rfl _ _ 69 rfl w.heap.size 4 j0 (.bool false) 1 Tryz.underlying69 hj hy0 hy1 .i64 .i64 _ _ n rfl rfl rfl rfl (by rw [hy2]; omega) (by unfold maxLen; omega) (Nat.le_refl _) ?_; intro w3 hown hgrow; rw [made_bool, bv_zero] at hown; have z0 := World.ownsRow.frozenAt hown f; have d0 : w3.cell? ⟨w.heap.size, f, none⟩ = some (.bool false) := OwB.cell hown (by omega))
    have HS : Hid (SN w ((w3.setCell ⟨w.heap.size, f, none⟩ (.bool true)).alloc (.cells #[.int .i64 (f : Int)] 2)) n w.heap.size (.slice (some ⟨w3.heap.size, 0, none⟩) 1 1) (fun x => [f].contains x) [f]) := by
      have hb3 : Below w.heap.size w w3 := (Below.refl _ _).grown hgrow (Nat.le_refl _) (fun k hk => by cases hk)
      have k1 : OwB (w3.setCell ⟨w.heap.size, f, none⟩ (.bool true)) w.heap.size w.heap.size n (fun x => [f].contains x) := OwB.set (P := fun _ => false) hown f true fun j hj => by
        by_cases e : j = f
        · subst e; simp
        · simp [e]
      have b1 : Below w.heap.size w (w3.setCell ⟨w.heap.size, f, none⟩ (.bool true)) := hb3.setCell (Nat.le_refl _) _
      have hz4 : (w3.setCell ⟨w.heap.size, f, none⟩ (.bool true)).heap.size = w3.heap.size := World.size_setCell ..
      rw [← hz4]
      generalize w3.setCell ⟨w.heap.size, f, none⟩ (.bool true) = W4 at k1 b1 ⊢
      exact ⟨k1.keep (below_alloc _ _), own_lower (World.ownsRow_lit W4 #[.int .i64 (f : Int)] 1 (Nat.le_refl _) (by unfold maxLen; omega) (by simp)) b1.size, below_on b1 (Nat.le_refl _) (below_alloc _ _)⟩
    clear hown hgrow z0 d0
    have HB0 : Hid (BfsOk E (fun y => (y : Int) ≠ z) f n [f]) := ⟨by simp, fun x hx => by simp at hx; omega, fun x hx => by simp at hx; subst hx; exact .here q, by simp⟩
    go_loopw [8, 9] (fun V i wr => ∃ (L : List Nat) (k gl cl : Nat), V = .slice (some ⟨gl, 0, none⟩) L.length cl ∧ i = .int .i64 k ∧ k ≤ L.length ∧ L.length ≤ n ∧ Hid (SN w wr n w.heap.size V (fun x => L.contains x) L ∧ BfsOk E (fun y => (y : Int) ≠ z) f n L ∧ ClosedTo E (fun y => (y : Int) ≠ z) L k)) (fun _ i _ => n - (intOf i).toNat)
    case atStart => exact ⟨[f], 0, _, _, rfl, rfl, by simp, HB0.out.len, HS.out, HB0.out, fun j x hj hl => by omega⟩
    case round =>
      clear HS HB0
      obtain ⟨L, k, gl, cl, rfl, rfl, hkL, hLn, HL⟩ := hrel
      by_cases hlt : k < L.length
      · have hltI : (k : Int) < (L.length : Int) := by omega
        obtain ⟨b, hb⟩ : ∃ b, L[k]? = some b := ⟨_, List.getElem?_eq_getElem hlt⟩
        have hbn : b < n := HL.out.2.1.lt b (List.mem_of_getElem? hb)
        have hbnI : (b : Int) < (n : Int) := by omega
        have HBB : Hid (L[k]? = some b) := hb
        obtain ⟨_, _, ee, _, l0⟩ := HL.out.1.list.rd.at_ hb
        simp only [Option.some.injEq, Addr.mk.injEq, and_true] at ee
        obtain ⟨rfl, rfl⟩ := ee
        rw [Nat.zero_add] at l0
        obtain ⟨a, ca, g0, g1⟩ := H.out.1 b hbn
        have HR : Hid (RdN w (.slice a (E b).length ca) (E b)) := g1
        replace g0 := bcell_keep HL.out.1.bel g0
        have hE2 := H.out.2.2 b
        clear g1 hb
        go_wp2
        go_loopw [8, 11] (fun V i wr => ∃ (L : List Nat) (m gl cl : Nat), V = .slice (some ⟨gl, 0, none⟩) L.length cl ∧ i = .int .i64 m ∧ m ≤ (E b).length ∧ k < L.length ∧ L.length ≤ n ∧ Hid (SN w wr n w.heap.size V (fun x => L.contains x) L ∧ BfsOk E (fun y => (y : Int) ≠ z) f n L ∧ ClosedTo E (fun y => (y : Int) ≠ z) L k ∧ L[k]? = some b ∧ TakenTo E (fun y => (y : Int) ≠ z) L b m)) (fun _ i _ => 2 - (intOf i).toNat)
        case atStart => exact ⟨L, 0, gl, cl, rfl, rfl, by omega, hlt, hLn, HL.out.1, HL.out.2.1, HL.out.2.2, HBB.out, fun y hy => by simp at hy⟩
        case round =>
          clear l0 g0 HL HBB hlt hltI hkL hLn
          obtain ⟨L, m, gl, cl, rfl, rfl, hm, hkl, hLn, HL⟩ := hrel
          by_cases hlt : m < (E b).length
          · have hltI : (m : Int) < ((E b).length : Int) := by omega
            obtain ⟨y, hy⟩ : ∃ y, (E b)[m]? = some y := ⟨_, List.getElem?_eq_getElem hlt⟩
            have hyn : y < n := H.out.2.1 b hbn y (List.mem_of_getElem? hy)
            have hynI : (y : Int) < (n : Int) := by omega
            have HY : Hid ((E b)[m]? = some y) := hy
            obtain ⟨ga, oa, rfl, _, y0⟩ := HR.out.at_ hy
            have HY0 : Hid (w.cell? ⟨ga, oa + m, none⟩ = some (.int .i64 (y : Int))) := y0
            replace y0 := bcell_keep HL.out.1.bel y0
            have s0 := HL.out.1.seen.cell hyn
            clear hy
            by_cases qz : (y : Int) = z
            · subst qz
              have HN : Hid (TakenTo E (fun x => (x : Int) ≠ (y : Int)) L b (m + 1)) := HL.out.2.2.2.2.next (fun x hx => hx) HY.out (fun q => absurd rfl q)
              go_wp2
              go_roundw
              case rel => exact ⟨L, m + 1, gl, cl, rfl, by go_num, by omega, hkl, hLn, HL.out.1, HL.out.2.1, HL.out.2.2.1, HL.out.2.2.2.1, HN.out⟩
              case measure => simp [intOf]; omega
            · have qz' : ((y : Int) == z) = false := by simpa using qz
              have qz2 : ((y : Int) != z) = true := by simpa using qz
              cases hc : L.contains y
              · simp only [hc] at s0
                have z0 := HL.out.1.seen.frozen y
                have hyL : y ∉ L := by simpa using hc
                have HSM : Hid (SN w (wr.setCell ⟨w.heap.size, y, none⟩ (.bool true)) n w.heap.size (.slice (some ⟨gl, 0, none⟩) L.length cl) (fun x => (L ++ [y]).contains x) L) := HL.out.1.mark y true (cont_set L y n)
                have HBN : Hid (BfsOk E (fun y => (y : Int) ≠ z) f n (L ++ [y])) := HL.out.2.1.add (List.mem_of_getElem? HL.out.2.2.2.1) (List.mem_of_getElem? HY.out) qz hyn hyL
                have hLn2 := HBN.out.len
                rw [List.length_append, List.length_singleton] at hLn2
                have HN : Hid (TakenTo E (fun x => (x : Int) ≠ z) (L ++ [y]) b (m + 1)) := HL.out.2.2.2.2.next (fun x hx => List.mem_append.2 (.inl hx)) HY.out (fun _ => by simp)
                go_upto_region 15 with fail
                refine wp_world (fun u => Hid (SN w u n w.heap.size (.slice (some ⟨gl, 0, none⟩) L.length cl) (fun x => (L ++ [y]).contains x) L)) HSM ?_
                intro U HU
                clear HSM s0 z0 y0
                have y1 := bcell_keep HU.out.bel HY0.out
                go_wp2_with (at_builtin; refine wpList_append_lies _ rfl _ _ 48 rfl w.heap.size 2 k0 (.int .i64 0) 1 8 Tryz.underlying48 hk hx0 hx1 hx2 rfl (by decide) _ L.length (nv L) rfl (HU.out.al (.cells #[.int .i64 (y : Int)] 2)).1 ⟨U.heap.size, 0, none⟩ 1 1 [.int .i64 (y : Int)] rfl rfl (one_cell U (y : Int)) (fun u hu => by simp at hu; subst hu; rfl) (by omega) (by simp [maxLen]; omega) (by omega) (HU.out.al (.cells #[.int .i64 (y : Int)] 2)).2 _ rfl ?_; intro g5 cap5 w5 hown hgrow hat hlt3; have HU5 : Hid (SN w w5 n w.heap.size (.slice (some ⟨g5, 0, none⟩) (L.length + 1) cap5) (fun x => (L ++ [y]).contains x) (L ++ [y])) := HU.out.app hown hgrow; clear hown hgrow hat hlt3)
                go_roundw
                case rel => exact ⟨L ++ [y], m + 1, g5, cap5, by rw [List.length_append, List.length_singleton], by go_num, by omega, by rw [List.length_append]; omega, by rw [List.length_append, List.length_singleton]; exact hLn2, HU5.out, HBN.out, HL.out.2.2.1.app (by omega) y, by rw [List.getElem?_append_left hkl]; exact HL.out.2.2.2.1, HN.out⟩
                case measure => simp [intOf]; omega
              · simp only [hc] at s0
                have HN : Hid (TakenTo E (fun x => (x : Int) ≠ z) L b (m + 1)) := HL.out.2.2.2.2.next (fun x hx => hx) HY.out (fun q => by simpa using hc)
                go_wp2
                go_roundw
                case rel => exact ⟨L, m + 1, gl, cl, rfl, by go_num, by omega, hkl, hLn, HL.out.1, HL.out.2.1, HL.out.2.2.1, HL.out.2.2.2.1, HN.out⟩
                case measure => simp [intOf]; omega
          · obtain rfl : m = (E b).length := by omega
            have HN : Hid (ClosedTo E (fun y => (y : Int) ≠ z) L (k + 1)) := HL.out.2.2.1.next HL.out.2.2.2.1 HL.out.2.2.2.2
            go_wp2
            go_roundw
            case rel => exact ⟨L, k + 1, gl, cl, rfl, by go_num, by omega, hLn, HL.out.1, HL.out.2.1, HN.out⟩
            case measure => simp [intOf]; omega
      · obtain rfl : k = L.length := by omega
        have HE : Hid (∀ x, x < n → (L.contains x = true ↔ Rch E (fun y => (y : Int) ≠ z) f x)) := fun x hx => by
          rw [← HL.out.2.1.iff HL.out.2.2 x]
          simp
        go_wp2
        go_ret
        exact ⟨_, _, rfl, HL.out.1.seen, HE.out, HL.out.1.bel⟩
end Go.Proofs.YtdfmdgbolmbffaaGreat
namespace Go.Proofs.YtdfmdgbolmbffaaGreat
open Go.ChangeShapes Go.WideShapes Go.ChangeAt Go.RowKit
set_option linter.unusedVariables false
theorem unseen_mono {S S' : List Nat} (n : Nat) (h : ∀ x ∈ S, x ∈ S') : unseen S' n ≤ unseen S n := by
  unfold unseen
  rw [← List.countP_eq_length_filter, ← List.countP_eq_length_filter]
  apply List.countP_mono_left
  intro x _ hx
  simp only [Bool.not_eq_true', List.contains_eq_mem, decide_eq_false_iff_not] at hx ⊢
  exact fun q => hx (h x q)
theorem Vs.more {E : Nat → List Nat} {S O r S' O' : List Nat} (h : Vs E S O r S' O') : ∀ x ∈ S, x ∈ S' := by
  obtain ⟨N, t⟩ := h.told
  exact fun x hx => (t.seen x).2 (.inl hx)
set_option maxHeartbeats 4000000 in
set_option maxRecDepth 100000 in
theorem l5Post_any (g o c n gs : Nat) (E : Nat → List Nat) (w : World) (hn : n ≤ 1048576) (hE : ∀ b, b < n → ∀ x ∈ E b, x < n) (hsz : ∀ b, (E b).length ≤ 2) (h : GrAt w g o n E) :
    ∀ (m : Nat) (S O : List Nat) (b : Nat) (V : Value) (u : World), unseen S n = m → b < n → b ∉ S → O.length + unseen S n ≤ n → SN w u n gs V (fun x => S.contains x) O →
    Calls Tryz.prog 67 #[.slice (some ⟨g, o, none⟩) n c, .int .i64 (b : Int), .slice (some ⟨gs, 0, none⟩) n n, V] u fun e u' => ∃ V' S' O', e = .returned V' ∧ Vs E (b :: S) O (E b) S' O' ∧ SN w u' n gs V' (fun x => S'.contains x) (O' ++ [b]) ∧ (O' ++ [b]).length + unseen S' n ≤ O.length + unseen S n := by
  obtain ⟨k0, hk, hx0, hx1, hx2⟩ := info_parts info64
  have H : Hid (GrAt w g o n E ∧ (∀ b, b < n → ∀ x ∈ E b, x < n) ∧ (∀ b, (E b).length ≤ 2)) := ⟨h, hE, hsz⟩
  clear h hE hsz
  intro m
  induction m using Nat.strongRecOn with
  | ind m ih =>
    intro S O b V u hm hb hbS hlen hsn
    have IH : Hid (∀ m', m' < m → ∀ (S O : List Nat) (b : Nat) (V : Value) (u : World), unseen S n = m' → b < n → b ∉ S → O.length + unseen S n ≤ n → SN w u n gs V (fun x => S.contains x) O →
      Calls Tryz.prog 67 #[.slice (some ⟨g, o, none⟩) n c, .int .i64 (b : Int), .slice (some ⟨gs, 0, none⟩) n n, V] u fun e u' => ∃ V' S' O', e = .returned V' ∧ Vs E (b :: S) O (E b) S' O' ∧ SN w u' n gs V' (fun x => S'.contains x) (O' ++ [b]) ∧ (O' ++ [b]).length + unseen S' n ≤ O.length + unseen S n) := ih
    have hu1 := unseen_cons S n b hb hbS
    have HU1 : Hid (unseen (b :: S) n + 1 = unseen S n ∧ unseen S n = m ∧ O.length + unseen S n ≤ n) := ⟨hu1, hm, hlen⟩
    obtain ⟨aV, cV, rfl⟩ := own_slice hsn.list
    have hbI : (b : Int) < (n : Int) := by omega
    have d0 := hsn.seen.cell hb
    have z0 := hsn.seen.frozen b
    have HS0 : Hid (SN w (u.setCell ⟨gs, b, none⟩ (.bool true)) n gs (.slice aV O.length cV) (fun x => (b :: S).contains x) O) := hsn.mark b true fun j hj => by
      by_cases e : j = b
      · subst e; simp
      · simp [e]
    obtain ⟨a, ca, g0, g1⟩ := H.out.1 b hb
    have HG : Hid (w.cell? ⟨g, o + b * 3 + 2, none⟩ = some (.slice a (E b).length ca) ∧ RdN w (.slice a (E b).length ca) (E b)) := ⟨g0, g1⟩
    have hE2 := H.out.2.2 b
    clear ih hsn g0 g1 hu1 hm hlen
    go_enter Tryz.func67, Tryz.ntmps67
    go_wp2
    go_loopw [3, 9] (fun V i wr => ∃ (S' O' : List Nat) (k : Nat) (aV : Option Addr) (cV : Nat), V = .slice aV O'.length cV ∧ i = .int .i64 k ∧ k ≤ (E b).length ∧ O'.length + 1 ≤ n ∧ Hid (Vs E (b :: S) O ((E b).take k) S' O' ∧ SN w wr n gs V (fun x => S'.contains x) O' ∧ O'.length + unseen S' n + 1 ≤ O.length + unseen S n)) (fun _ i _ => 2 - (intOf i).toNat)
    case atStart => exact ⟨b :: S, O, 0, aV, cV, rfl, rfl, by omega, by have := HU1.out; omega, by simpa using Vs.nil (b :: S) O, HS0.out, by have := HU1.out; omega⟩
    case round =>
      clear HS0 d0 z0
      obtain ⟨S', O', k, aV, cV, rfl, rfl, hkE, hO, HL⟩ := hrel
      have g0 := bcell_keep HL.out.2.1.bel HG.out.1
      by_cases hlt : k < (E b).length
      · have hltI : (k : Int) < ((E b).length : Int) := by omega
        obtain ⟨y, hy⟩ : ∃ y, (E b)[k]? = some y := ⟨_, List.getElem?_eq_getElem hlt⟩
        have hyn : y < n := H.out.2.1 b hb y (List.mem_of_getElem? hy)
        have hynI : (y : Int) < (n : Int) := by omega
        have HY : Hid ((E b)[k]? = some y) := hy
        obtain ⟨ga, oa, rfl, _, y0⟩ := HG.out.2.at_ hy
        replace y0 := bcell_keep HL.out.2.1.bel y0
        have s0 := HL.out.2.1.seen.cell hyn
        have HT : Hid ((E b).take (k + 1) = (E b).take k ++ [y]) := by
          obtain ⟨hl, rfl⟩ := List.getElem?_eq_some_iff.1 hy
          exact List.take_succ_eq_append_getElem hl
        clear hy
        cases hc : S'.contains y
        · simp only [hc] at s0
          have hyS : y ∉ S' := by simpa using hc
          have hmo := HL.out.1.more
          have hun := unseen_mono n hmo
          have HC : Hid (Calls Tryz.prog 67 #[.slice (some ⟨g, o, none⟩) n c, .int .i64 (y : Int), .slice (some ⟨gs, 0, none⟩) n n, .slice aV O'.length cV] wr fun e u' => ∃ V' S'' O'', e = .returned V' ∧ Vs E (y :: S') O' (E y) S'' O'' ∧ SN w u' n gs V' (fun x => S''.contains x) (O'' ++ [y]) ∧ (O'' ++ [y]).length + unseen S'' n ≤ O'.length + unseen S' n) := IH.out (unseen S' n) (by have := HU1.out; omega) S' O' y _ wr rfl hyn hyS (by have := HL.out.2.2; have := HU1.out; omega) HL.out.2.1
          clear hmo hun
          go_wp2_with fail
          refine HC.out.mono ?_
          rintro e u2 ⟨V2, S2, O2, rfl, hv2, hs2, hl2⟩
          obtain ⟨a2, c2, rfl⟩ := own_slice hs2.list
          have HN : Hid (Vs E (b :: S) O ((E b).take (k + 1)) S2 (O2 ++ [y]) ∧ SN w u2 n gs (.slice a2 (O2 ++ [y]).length c2) (fun x => S2.contains x) (O2 ++ [y]) ∧ (O2 ++ [y]).length + unseen S2 n + 1 ≤ O.length + unseen S n) := by
            refine ⟨?_, hs2, by have := HL.out.2.2; omega⟩
            rw [HT.out]
            exact HL.out.1.app (.new hyS hv2 (.nil _ _))
          have hO2 : (O2 ++ [y]).length + 1 ≤ n := by have := HN.out.2.2; have := HU1.out; omega
          clear hv2 hs2 hl2 s0 y0 g0
          go_wp2
          go_roundw
          case rel => exact ⟨S2, O2 ++ [y], k + 1, a2, c2, by rw [List.length_append, List.length_singleton], by go_num, by omega, hO2, HN.out.1, by have := HN.out.2.1; rw [List.length_append, List.length_singleton] at this; exact this, HN.out.2.2⟩
          case measure => simp [intOf]; omega
        · simp only [hc] at s0
          have HN : Hid (Vs E (b :: S) O ((E b).take (k + 1)) S' O') := by
            show Vs E (b :: S) O ((E b).take (k + 1)) S' O'
            rw [HT.out]
            exact HL.out.1.app (.old (by simpa using hc) (.nil _ _))
          go_wp2
          go_roundw
          case rel => exact ⟨S', O', k + 1, aV, cV, rfl, by go_num, by omega, hO, HN.out, HL.out.2.1, HL.out.2.2⟩
          case measure => simp [intOf]; omega
      · obtain rfl : k = (E b).length := by omega
        have hO3 := HU1.out
        have hO4 := HL.out.2.2
        go_upto_region 7 with fail
        refine wp_world (fun u => Hid (SN w u n gs (.slice aV O'.length cV) (fun x => S'.contains x) O')) HL.out.2.1 ?_
        intro U HU
        clear g0
        go_wp2_with (at_builtin; refine wpList_append_lies _ rfl _ _ 48 rfl w.heap.size 2 k0 (.int .i64 0) 1 8 Tryz.underlying48 hk hx0 hx1 hx2 rfl (by decide) _ O'.length (nv O') rfl (HU.out.al (.cells #[.int .i64 (b : Int)] 2)).1 ⟨U.heap.size, 0, none⟩ 1 1 [.int .i64 (b : Int)] rfl rfl (one_cell U (b : Int)) (fun u hu => by simp at hu; subst hu; rfl) (by omega) (by simp [maxLen]; omega) (by omega) (HU.out.al (.cells #[.int .i64 (b : Int)] 2)).2 _ rfl ?_; intro g5 cap5 w5 hown hgrow hat hlt3; have HU5 : Hid (SN w w5 n gs (.slice (some ⟨g5, 0, none⟩) (O'.length + 1) cap5) (fun x => S'.contains x) (O' ++ [b])) := HU.out.app hown hgrow; clear hown hgrow hat hlt3)
        go_ret
        refine ⟨_, S', O', rfl, ?_, HU5.out, by rw [List.length_append, List.length_singleton]; omega⟩
        have := HL.out.1
        rw [List.take_of_length_le (Nat.le_refl _)] at this
        exact this
end Go.Proofs.YtdfmdgbolmbffaaGreat
