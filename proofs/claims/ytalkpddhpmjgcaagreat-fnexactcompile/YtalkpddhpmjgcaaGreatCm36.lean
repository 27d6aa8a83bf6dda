import Derived.Test.YtalkpddhpmjgcaaGreatCm20
import Derived.Test.YtalkpddhpmjgcaaGreatCm16
import Derived.Test.YtalkpddhpmjgcaaGreatCm7
import Derived.Test.YtalkpddhpmjgcaaGreatCm35
import Derived.Deep.DeepCutAuto
namespace Go.Proofs.YtalkpddhpmjgcaaGreat
open Go.ChangeShapes Go.WideShapes Go.ChangeAt Go.RowKit
set_option linter.unusedVariables false
/-- A list of statements, of whatever depth. -/
structure AT where
  n : Nat
  t : TL n
structure Mk3 where
  cs : List MC
  ts : List MT
  fs : List MF
def mkG (s : Mk3) (x : AT) : Gn := (genT x.n s.fs.length x.t 0 ⟨[], s.cs, s.ts⟩).put [⟨29, 0, 0, 0⟩]
def mkOne (s : Mk3) (x : AT) : Mk3 := ⟨(mkG s x).consts, (mkG s x).certs, s.fs ++ [fnOf x.n x.t (mkG s x)]⟩
def mkAll (xs : List AT) : Mk3 := xs.foldl mkOne ⟨[], [], []⟩
theorem mkAll_next {xs : List AT} {k : Nat} {x : AT} (hx : xs[k]? = some x) : mkAll (xs.take (k + 1)) = mkOne (mkAll (xs.take k)) x := by
  unfold mkAll
  obtain ⟨hlt, rfl⟩ := List.getElem?_eq_some_iff.1 hx
  rw [List.take_succ_eq_append_getElem hlt, List.foldl_append]
  rfl
def GoodX (N : Nat) (i : Nat) (x : AT) : Prop := CodeIs x.n x.t 0 ∧ callsT x.n x.t (i : Int) (N : Int)
/-- All that bars a list and its helpers. -/
def GoodA (xs : List AT) : Prop := xs.length ≤ 9 ∧ ∀ i x, xs[i]? = some x → GoodX (xs.length - 1) i x
def progA (xs : List AT) : MP := ⟨[[], [], List.replicate 8 3], (mkAll xs).cs, (mkAll xs).fs, (mkAll xs).ts⟩
/-- What Compile tells. -/
def CompIs (xs : List AT) (p : MP) : Prop := (GoodA xs ∧ FaultIs (progA xs) 0 ∧ p = progA xs) ∨ (¬ (GoodA xs ∧ FaultIs (progA xs) 0) ∧ p = ⟨[], [], [], []⟩)
theorem CompIs.one {xs : List AT} {p q : MP} (h : CompIs xs p) (h' : CompIs xs q) : p = q := by
  rcases h with ⟨a, b, rfl⟩ | ⟨a, rfl⟩ <;> rcases h' with ⟨c, d, rfl⟩ | ⟨c, rfl⟩
  · rfl
  · exact absurd ⟨a, b⟩ c
  · exact absurd ⟨c, d⟩ a
  · rfl
theorem code0 {n : Nat} {t : TL n} (h : CodeIs n t 0) : allOkT n t ∧ sizeT n t ≤ 60 ∧ levT n t ≤ 8 := by
  rcases h with ⟨e, _⟩ | ⟨e, _⟩ | ⟨e, _⟩ | ⟨_, h⟩
  · cases e
  · cases e
  · cases e
  · exact h
/-- What holds of what has been made. -/
structure MkOk (s : Mk3) (k : Nat) : Prop where
  cs : s.cs.length ≤ 60 * k ∧ ∀ x ∈ s.cs, x.type = 3 ∧ 0 ≤ x.word ∧ x.word < 256
  ts : s.ts.length ≤ 60 * k ∧ ∀ x ∈ s.ts, x.wf
  fs : s.fs.length = k ∧ ∀ f ∈ s.fs, f.wf ∧ f.small
theorem MkOk.next {s : Mk3} {k : Nat} (h : MkOk s k) (hk : k ≤ 100) {x : AT} (hx : CodeIs x.n x.t 0) : MkOk (mkOne s x) (k + 1) := by
  obtain ⟨h1, h2, h3⟩ := code0 hx
  have l := genT_le x.n s.fs.length x.t 0 ⟨[], s.cs, s.ts⟩
  have a1 := l.code
  have a2 := l.consts
  have a3 := l.certs
  simp only [List.length_nil] at a1 a2 a3
  have hc := h.cs.1
  have ht := h.ts.1
  have hf := h.fs.1
  have o := genT_ok x.n s.fs.length ⟨by omega, by omega⟩ x.t 0 ⟨[], s.cs, s.ts⟩ h1 ⟨fun y hy => (by cases hy), h.cs.2, h.ts.2⟩ (by simp; omega) (by simp; omega) (by omega)
  refine ⟨⟨?_, o.consts⟩, ⟨?_, o.certs⟩, ?_, ?_⟩
  · show (genT x.n s.fs.length x.t 0 ⟨[], s.cs, s.ts⟩).consts.length ≤ _
    omega
  · show (genT x.n s.fs.length x.t 0 ⟨[], s.cs, s.ts⟩).certs.length ≤ _
    omega
  · show (s.fs ++ [_]).length = _
    simp
    omega
  · intro f hm
    rcases List.mem_append.1 hm with hm | hm
    · exact h.fs.2 f hm
    · rw [List.mem_singleton.1 hm]
      refine ⟨⟨fun z hz => (by cases hz), W64_of (z := 0) (by omega) (by omega), fun z hz => ?_, fun y hy => ?_⟩, ⟨Nat.zero_le _, ?_, ?_⟩⟩
      · rw [List.eq_of_mem_replicate hz]
        exact W64_of (by omega) (by omega)
      · rcases List.mem_append.1 hy with hy | hy
        · exact o.code y hy
        · rw [List.mem_singleton.1 hy]
          exact mi_wf (by omega) (by omega) (by omega) (by omega)
      · show (List.replicate (levT x.n x.t) (3 : Int)).length ≤ _
        simp
        omega
      · show ((genT x.n s.fs.length x.t 0 ⟨[], s.cs, s.ts⟩).code ++ [_]).length ≤ _
        simp
        omega
theorem mkAll_ok {xs : List AT} (hl : xs.length ≤ 9) (k : Nat) (hk : k ≤ xs.length) (hx : ∀ i x, i < k → xs[i]? = some x → CodeIs x.n x.t 0) : MkOk (mkAll (xs.take k)) k := by
  induction k with
  | zero => exact ⟨⟨Nat.zero_le _, fun y hy => (by cases hy)⟩, ⟨Nat.zero_le _, fun y hy => (by cases hy)⟩, rfl, fun y hy => (by cases hy)⟩
  | succ k ih =>
    obtain ⟨x, hxk⟩ : ∃ x, xs[k]? = some x := ⟨xs[k], List.getElem?_eq_getElem (by omega)⟩
    rw [mkAll_next hxk]
    exact (ih (by omega) (fun i y hi hy => hx i y (by omega) hy)).next (by omega) (hx k x (by omega) hxk)
theorem GoodA.mk {xs : List AT} (h : GoodA xs) : MkOk (mkAll xs) xs.length := by
  have := mkAll_ok h.1 xs.length (Nat.le_refl _) (fun i x _ hx => (h.2 i x hx).1)
  rwa [List.take_length] at this
theorem GoodA.small {xs : List AT} (h : GoodA xs) : (progA xs).small ∧ (progA xs).wf := by
  have m := h.mk
  have hl := h.1
  refine ⟨⟨by simp [progA], fun r hr => ?_, by have := m.cs.1; show (mkAll xs).cs.length ≤ _; omega, by have := m.fs.1; show (mkAll xs).fs.length ≤ _; omega, fun f hf => (m.fs.2 f hf).2, by have := m.ts.1; show (mkAll xs).ts.length ≤ _; omega⟩, ⟨fun r hr z hz => ?_, fun y hy => ?_, fun f hf => (m.fs.2 f hf).1, m.ts.2⟩⟩
  · simp [progA] at hr
    rcases hr with rfl | rfl <;> simp
  · simp [progA] at hr
    rcases hr with rfl | rfl
    · cases hz
    · have e : z = 3 := by simpa using hz
      rw [e]
      exact W64_of (by omega) (by omega)
  · have := m.cs.2 y hy
    exact ⟨by rw [this.1]; exact W64_of (by omega) (by omega), W32_of (by omega) (by omega)⟩
/-- The rows of a program that is owned. -/
theorem Sep.ownP {w : World} {base : Nat} {v : VP} {F : List (List Int × Value)} {cs : List MC} {G : List (MF × VF)} {ts : List MT} {B : List RowI} (h : Sep w base (pItems v F cs G ts B)) : OwnP w base v ⟨F.map Prod.fst, cs, G.map Prod.fst, ts⟩ := by
  have h1 := h.own (rHead v.r F) (by simp [pItems])
  have h3 := h.own (fHead v.f G) (by simp [pItems])
  refine ⟨⟨F, rfl, by simpa [rHead, RowI.own] using h1, fun x hx => h.own (iRow x.2 x.1) ?_⟩, h.own (cRow v.k cs) (by simp [pItems]), ⟨G, rfl, by simpa [fHead, RowI.own] using h3, fun x hx => ⟨h.own (iRow x.2.p x.1.params) ?_, h.own (iRow x.2.l x.1.locals) ?_, h.own (nRow x.2.c x.1.code) ?_⟩⟩, h.own (tRow v.t ts) (by simp [pItems])⟩
  · have : iRow x.2 x.1 ∈ rItems F := List.mem_map.2 ⟨x, hx, rfl⟩
    simp [pItems, this]
  all_goals
    have e : ∀ r ∈ fItem x, r ∈ fItems G := fun r hr => List.mem_flatMap.2 ⟨x, hx, hr⟩
  · have := e (iRow x.2.p x.1.params) (by simp [fItem]); simp [pItems, this]
  · have := e (iRow x.2.l x.1.locals) (by simp [fItem]); simp [pItems, this]
  · have := e (nRow x.2.c x.1.code) (by simp [fItem]); simp [pItems, this]
/-- What both sides leave. -/
def CmRes (xs : List AT) (w : World) (e : Ending) (w' : World) : Prop := ∃ (v : VP) (F : List (List Int × Value)) (cs : List MC) (G : List (MF × VF)) (ts : List MT), e = .returned (.agg #[v.r, v.k, v.f, v.t]) ∧ Bl w w' (pItems v F cs G ts []) ∧ CompIs xs ⟨F.map Prod.fst, cs, G.map Prod.fst, ts⟩
/-- Lists of lists. -/
def RdHs (w : World) (n : Nat) (s : Value) (hs : List (TL n)) : Prop := ∃ xs : List (TL n × Value), xs.map Prod.fst = hs ∧ Rd w 1 s hs.length (xs.map Prod.snd) ∧ ∀ x ∈ xs, RdT w n x.2 x.1
theorem RdHs.keep {w w' : World} {n : Nat} {s : Value} {hs : List (TL n)} (h : RdHs w n s hs) {B : Nat} (hb : Below B w w') (hB : w.heap.size ≤ B) : RdHs w' n s hs := by
  obtain ⟨xs, h1, h2, h3⟩ := h
  exact ⟨xs, h1, h2.keep hb hB, fun x hx => (h3 x hx).keep hb hB⟩
theorem RdHs.is_slice {w : World} {n : Nat} {s : Value} {hs : List (TL n)} (h : RdHs w n s hs) : ∃ a c, s = .slice a hs.length c := by
  obtain ⟨xs, h1, h2, h3⟩ := h; exact h2.is_slice
theorem RdHs.elem {w : World} {n : Nat} {s : Value} {hs : List (TL n)} (h : RdHs w n s hs) {i : Nat} {t : TL n} (hi : hs[i]? = some t) : ∃ g o c v, s = .slice (some ⟨g, o, none⟩) hs.length c ∧ w.cell? ⟨g, o + i, none⟩ = some v ∧ RdT w n v t := by
  obtain ⟨xs, h1, h2, h3⟩ := h
  have hlt := (List.getElem?_eq_some_iff.1 hi).1
  rw [← h1, List.getElem?_map] at hi
  obtain ⟨y, hy, hy1⟩ : ∃ y, xs[i]? = some y ∧ y.1 = t := by
    cases hy : xs[i]? with
    | none => rw [hy] at hi; cases hi
    | some y => rw [hy] at hi; exact ⟨y, rfl, Option.some.inj hi⟩
  subst hy1
  rcases h2.2 with ⟨e, _⟩ | ⟨g, o, c, e, hc⟩
  · omega
  · exact ⟨g, o, c, y.2, e, hc i _ (by rw [List.getElem?_map, hy]; rfl), h3 y (List.mem_of_getElem? hy)⟩
def allA (n1 : Nat) (t : TL n1) (n2 : Nat) (hs : List (TL n2)) : List AT := ⟨n1, t⟩ :: hs.map (fun h => ⟨n2, h⟩)
theorem allA_len (n1 : Nat) (t : TL n1) (n2 : Nat) (hs : List (TL n2)) : (allA n1 t n2 hs).length = hs.length + 1 := by simp [allA]
theorem allA_at {n1 : Nat} {t : TL n1} {n2 : Nat} {hs : List (TL n2)} {i : Nat} {h : TL n2} (hi : hs[i]? = some h) : (allA n1 t n2 hs)[i + 1]? = some ⟨n2, h⟩ := by simp [allA, hi]
/-- All is good, told one by one. -/
theorem goodA_iff (n1 : Nat) (t : TL n1) (n2 : Nat) (hs : List (TL n2)) : GoodA (allA n1 t n2 hs) ↔ hs.length ≤ 8 ∧ GoodX hs.length 0 ⟨n1, t⟩ ∧ ∀ i h, hs[i]? = some h → GoodX hs.length (i + 1) ⟨n2, h⟩ := by
  unfold GoodA
  rw [allA_len]
  constructor
  · rintro ⟨h1, h2⟩
    exact ⟨by omega, h2 0 _ rfl, fun i h hi => h2 (i + 1) _ (allA_at hi)⟩
  · rintro ⟨h1, h2, h3⟩
    refine ⟨by omega, fun i x hx => ?_⟩
    cases i with
    | zero =>
      have : x = ⟨n1, t⟩ := by simpa [allA] using hx.symm
      subst this
      exact h2
    | succ i =>
      obtain ⟨h, hh, rfl⟩ : ∃ h, hs[i]? = some h ∧ x = ⟨n2, h⟩ := by
        have h0 : (hs.map (fun h => (⟨n2, h⟩ : AT)))[i]? = some x := by simpa [allA] using hx
        rw [List.getElem?_map] at h0
        cases hh : hs[i]? with
        | none => rw [hh] at h0; cases h0
        | some h => rw [hh] at h0; exact ⟨h, rfl, (Option.some.inj h0).symm⟩
      exact h3 i h hh
end Go.Proofs.YtalkpddhpmjgcaaGreat
namespace Go.Proofs.YtalkpddhpmjgcaaGreat
open Go.ChangeShapes Go.WideShapes Go.ChangeAt Go.RowKit
set_option linter.unusedVariables false
/-- What l10Calls is asked for. -/
def ClIs (n : Nat) : Prop := ∀ (v : Value) (t : TL n) (a b : Int) (w : World), RdT w n v t → sizeT n t ≤ 1048576 → Calls Tryz.prog 19 #[v, .int .i64 a, .int .i64 b] w fun e w' => SaysIff e (callsT n t a b) ∧ w' = w
/-- The first k call what they may. -/
def ClTo (n : Nat) (l : List (SS (TL n))) (a b : Int) (k : Nat) : Prop := ∀ j x, j < k → l[j]? = some x → (x.k = 4 → a ≤ x.a ∧ x.a < b) ∧ callsT n x.body a b ∧ callsT n x.els a b
theorem ClTo.next {n : Nat} {l : List (SS (TL n))} {a b : Int} {k : Nat} (h : ClTo n l a b k) {x : SS (TL n)} (hx : l[k]? = some x) (hk : (x.k = 4 → a ≤ x.a ∧ x.a < b) ∧ callsT n x.body a b ∧ callsT n x.els a b) : ClTo n l a b (k + 1) := fun j y hj hy => by
  by_cases e : j = k
  · subst e
    rw [hx] at hy
    obtain rfl := Option.some.inj hy
    exact hk
  · exact h j y (by omega) hy
theorem ClTo.all {n : Nat} {l : List (SS (TL n))} {a b : Int} {k : Nat} (h : ClTo n l a b k) (hk : l.length ≤ k) : callsT (n + 1) l a b := fun s hs => by
  obtain ⟨i, hi⟩ := List.getElem?_of_mem hs
  exact h i s (by have := (List.getElem?_eq_some_iff.1 hi).1; omega) hi
set_option maxHeartbeats 2000000 in
set_option maxRecDepth 100000 in
theorem l10Calls_none (a : Option Addr) (c : Nat) (x y : Int) (w : World) : Calls Tryz.prog 19 #[.slice a 0 c, .int .i64 x, .int .i64 y] w fun e w' => SaysIff e True ∧ w' = w := by
  go_enter Tryz.func19, Tryz.ntmps19
  go_wp2_with fail
  go_loopw [7] (fun i wr => i = .int .i64 0 ∧ wr = w) (fun _ _ => 0)
  case atStart => exact ⟨rfl, rfl⟩
  case round =>
    obtain ⟨rfl, rfl⟩ := hrel
    go_wp2_with fail
    go_ret
    exact ⟨.yes trivial, rfl⟩
set_option maxHeartbeats 4000000 in
set_option maxRecDepth 100000 in
theorem l10Calls_succ (n : Nat) (ih : ClIs n) (v : Value) (l : List (SS (TL n))) (a b : Int) (w : World) (h : RdT w (n + 1) v l) (hsz : sizeT (n + 1) l ≤ 1048576) : Calls Tryz.prog 19 #[v, .int .i64 a, .int .i64 b] w fun e w' => SaysIff e (callsT (n + 1) l a b) ∧ w' = w := by
  have HI : Hid (ClIs n) := ih
  obtain ⟨a1, c1, e1⟩ : ∃ a c, v = .slice a l.length c := h.is_slice
  subst e1
  have H : Hid (RdT w (n + 1) (.slice a1 l.length c1) l ∧ sizeT (n + 1) l ≤ 1048576) := ⟨h, hsz⟩
  have hL : l.length ≤ 1048576 := by have := len_le_size (n + 1) l; have e : lenT (n + 1) l = l.length := rfl; omega
  clear h ih hsz
  generalize hLL : l.length = L at H hL ⊢
  have HL : Hid (l.length = L) := hLL
  clear hLL
  go_enter Tryz.func19, Tryz.ntmps19
  go_wp2_with fail
  go_loopw [7] (fun i wr => ∃ k : Nat, k ≤ L ∧ i = .int .i64 k ∧ wr = w ∧ Hid (ClTo n l a b k)) (fun i _ => L - (intOf i).toNat)
  case atStart => exact ⟨0, by omega, rfl, rfl, fun j x hj => absurd hj (by omega)⟩
  case round =>
    obtain ⟨k, hk, rfl, rfl, HK⟩ := hrel
    by_cases hlt : k < L
    · obtain ⟨x, hx⟩ : ∃ x, l[k]? = some x := ⟨_, List.getElem?_eq_getElem (by rw [HL.out]; exact hlt)⟩
      obtain ⟨g, o, c, vb, ve, e1, i0, i1, i2, i3, i4, rb, re⟩ := H.out.1.elem hx
      rw [HL.out] at e1
      simp only [Value.slice.injEq, true_and] at e1
      obtain ⟨rfl, rfl⟩ := e1
      have hsm := Nat.le_trans (size_mem (List.mem_of_getElem? hx)) H.out.2
      have HX : Hid (l[k]? = some x ∧ RdT wr n vb x.body ∧ RdT wr n ve x.els ∧ 1 + sizeT n x.body + sizeT n x.els ≤ 1048576) := ⟨hx, rb, re, hsm⟩
      obtain ⟨ab, cb, rfl⟩ := rb.is_slice
      obtain ⟨ae, ce, rfl⟩ := re.is_slice
      clear rb re hx hsm
      by_cases hbad : x.k = 4 ∧ ¬ (a ≤ x.a ∧ x.a < b)
      · have HN : Hid (¬ callsT (n + 1) l a b) := fun e => hbad.2 ((e x (List.mem_of_getElem? HX.out.1)).1 hbad.1)
        have h4 : (x.k == 4) = true := by simpa using hbad.1
        by_cases hlo : x.a < a
        · have hlo' : decide (x.a < a) = true := by simpa using hlo
          clear hbad
          go_wp2_with fail
          go_ret
          exact ⟨.no HN.out, rfl⟩
        · have hlo' : decide (x.a < a) = false := by simpa using hlo
          have hhi : x.a ≥ b := by omega
          have hhi' : decide (x.a ≥ b) = true := by simpa using hhi
          clear hbad
          go_wp2_with fail
          go_ret
          exact ⟨.no HN.out, rfl⟩
      · have HG : Hid (x.k = 4 → a ≤ x.a ∧ x.a < b) := fun e => Classical.byContradiction fun hn => hbad ⟨e, hn⟩
        clear hbad
        have hor : ((x.k == 4) = true ∧ decide (x.a < a) = false ∧ decide (x.a ≥ b) = false ∧ ¬ x.a < a ∧ ¬ x.a ≥ b) ∨ (x.k == 4) = false := by
          by_cases hk4 : x.k = 4
          · have g := HG.out hk4
            exact .inl ⟨by simpa using hk4, by simpa using g.1, by simpa using g.2, by omega, by omega⟩
          · exact .inr (by simpa using hk4)
        rcases hor with ⟨h4, g1, g2, g3, g4⟩ | h4
        all_goals
          go_wp2_with fail
          refine (HI.out _ x.body a b wr HX.out.2.1 (by have := HX.out.2.2.2; omega)).mono ?_
          rintro e u1 ⟨⟨b1, rfl, hb1⟩, rfl⟩
          have HB1 : Hid (b1 = true ↔ callsT n x.body a b) := hb1
          clear hb1
          cases b1
          · have HN : Hid (¬ callsT (n + 1) l a b) := fun e => by
              have := HB1.out.2 (e x (List.mem_of_getElem? HX.out.1)).2.1
              cases this
            go_wp2_with fail
            go_ret
            exact ⟨.no HN.out, rfl⟩
          · have HC1 : Hid (callsT n x.body a b) := HB1.out.1 rfl
            clear HB1
            go_wp2_with fail
            refine (HI.out _ x.els a b _ HX.out.2.2.1 (by have := HX.out.2.2.2; omega)).mono ?_
            rintro e u2 ⟨⟨b2, rfl, hb2⟩, rfl⟩
            have HB2 : Hid (b2 = true ↔ callsT n x.els a b) := hb2
            clear hb2
            cases b2
            · have HN : Hid (¬ callsT (n + 1) l a b) := fun e => by
                have := HB2.out.2 (e x (List.mem_of_getElem? HX.out.1)).2.2
                cases this
              go_wp2_with fail
              go_ret
              exact ⟨.no HN.out, rfl⟩
            · have HK2 : Hid (ClTo n l a b (k + 1)) := HK.out.next HX.out.1 ⟨HG.out, HC1.out, HB2.out.1 rfl⟩
              go_wp2_with fail
              go_roundw
              case rel => exact ⟨k + 1, by omega, by go_num, (by first | rfl | trivial), HK2⟩
              case measure => simp [intOf]; omega
    · have hkn : k = L := by omega
      subst hkn
      have HY : Hid (callsT (n + 1) l a b) := HK.out.all (by rw [HL.out]; exact Nat.le_refl _)
      go_wp2_with fail
      go_ret
      exact ⟨.yes HY.out, rfl⟩
theorem l10Calls_any (n : Nat) : ClIs n := by
  induction n with
  | zero =>
    intro v t x y w h hs
    obtain ⟨a, c, rfl⟩ := h
    exact l10Calls_none a c x y w
  | succ n ih => exact fun v t a b w h hs => l10Calls_succ n ih v t a b w h hs
end Go.Proofs.YtalkpddhpmjgcaaGreat
