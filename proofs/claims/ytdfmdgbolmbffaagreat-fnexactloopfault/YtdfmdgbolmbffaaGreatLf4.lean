import Derived.Test.YtdfmdgbolmbffaaGreatLf3
import Derived.Lib.SmallJoins
import Derived.Deep.Slices
import Derived.Deep.Cut
import Derived.Deep.CutRange
namespace Go.Proofs.YtdfmdgbolmbffaaGreat
open Go.ChangeShapes Go.WideShapes Go.ChangeAt Go.RowKit
set_option linter.unusedVariables false
/-- What is left. -/
def szv (left n : Int) : Int := if left - n < 0 then -1 else left - n
set_option maxHeartbeats 1000000 in
theorem szInt64S_any (a : Option Addr) (n c : Nat) (left : Int) (w : World) (hn : n ≤ 9223372036854775807) (h0 : 0 ≤ left) (h1 : left ≤ 1048576) :
    Calls Tryz.prog 46 #[.slice a n c, .int .i64 left] w fun e w' => e = .returned (.int .i64 (szv left n)) ∧ w' = w := by
  by_cases hb : left - n < 0
  · have e : szv left n = -1 := if_pos hb
    rw [e]
    go_enter Tryz.func46, Tryz.ntmps46
    go_wp2
    go_ret
    exact ⟨rfl, rfl⟩
  · have e : szv left n = left - n := if_neg hb
    rw [e]
    go_enter Tryz.func46, Tryz.ntmps46
    go_wp2
    go_ret
    exact ⟨rfl, rfl⟩
set_option maxHeartbeats 1000000 in
theorem szInstrS_any (a : Option Addr) (n c : Nat) (left : Int) (w : World) (hn : n ≤ 9223372036854775807) (h0 : 0 ≤ left) (h1 : left ≤ 1048576) :
    Calls Tryz.prog 97 #[.slice a n c, .int .i64 left] w fun e w' => e = .returned (.int .i64 (szv left n)) ∧ w' = w := by
  by_cases hb : left - n < 0
  · have e : szv left n = -1 := if_pos hb
    rw [e]
    go_enter Tryz.func97, Tryz.ntmps97
    go_wp2
    go_ret
    exact ⟨rfl, rfl⟩
  · have e : szv left n = left - n := if_neg hb
    rw [e]
    go_enter Tryz.func97, Tryz.ntmps97
    go_wp2
    go_ret
    exact ⟨rfl, rfl⟩
set_option maxHeartbeats 1000000 in
theorem szConstS_any (a : Option Addr) (n c : Nat) (left : Int) (w : World) (hn : n ≤ 9223372036854775807) (h0 : 0 ≤ left) (h1 : left ≤ 1048576) :
    Calls Tryz.prog 25 #[.slice a n c, .int .i64 left] w fun e w' => e = .returned (.int .i64 (szv left n)) ∧ w' = w := by
  by_cases hb : left - n < 0
  · have e : szv left n = -1 := if_pos hb
    rw [e]
    go_enter Tryz.func25, Tryz.ntmps25
    go_wp2
    go_ret
    exact ⟨rfl, rfl⟩
  · have e : szv left n = left - n := if_neg hb
    rw [e]
    go_enter Tryz.func25, Tryz.ntmps25
    go_wp2
    go_ret
    exact ⟨rfl, rfl⟩
set_option maxHeartbeats 1000000 in
theorem szCertS_any (a : Option Addr) (n c : Nat) (left : Int) (w : World) (hn : n ≤ 9223372036854775807) (h0 : 0 ≤ left) (h1 : left ≤ 1048576) :
    Calls Tryz.prog 27 #[.slice a n c, .int .i64 left] w fun e w' => e = .returned (.int .i64 (szv left n)) ∧ w' = w := by
  by_cases hb : left - n < 0
  · have e : szv left n = -1 := if_pos hb
    rw [e]
    go_enter Tryz.func27, Tryz.ntmps27
    go_wp2
    go_ret
    exact ⟨rfl, rfl⟩
  · have e : szv left n = left - n := if_neg hb
    rw [e]
    go_enter Tryz.func27, Tryz.ntmps27
    go_wp2
    go_ret
    exact ⟨rfl, rfl⟩
set_option maxHeartbeats 2000000 in
set_option maxRecDepth 100000 in
theorem szInt64SS_any (s : Value) (fs : List (List Int)) (left : Int) (w : World) (hL : fs.length ≤ 9223372036854775807) (hs : ∀ f ∈ fs, f.length ≤ 9223372036854775807) (h : RdR w s fs) (h0 : 0 ≤ left) (h1 : left ≤ 1048576) :
    Calls Tryz.prog 15 #[s, .int .i64 left] w fun e w' => ∃ r : Int, e = .returned (.int .i64 r) ∧ (r = -1 ∨ 0 ≤ r ∧ r ≤ left ∧ (fs.length : Int) ≤ left ∧ ∀ f ∈ fs, (f.length : Int) ≤ left) ∧ w' = w := by
  obtain ⟨xs, hxs, hrd, hel⟩ := h
  have hxl : xs.length = fs.length := by rw [← hxs]; simp
  have H1 : Hid (Rd w 1 s fs.length (xs.flatMap rCells) ∧ xs.map Prod.fst = fs ∧ (∀ x ∈ xs, Rd w 1 x.2 x.1.length (x.1.flatMap intCell)) ∧ (∀ f ∈ fs, f.length ≤ 9223372036854775807) ∧ xs.length = fs.length) := ⟨hrd, hxs, hel, hs, hxl⟩
  obtain ⟨a1, c1, rfl⟩ := hrd.is_slice
  clear hrd hxs hel hs hxl
  generalize hLL : fs.length = n at hL H1 ⊢
  have HL : Hid (fs.length = n) := hLL
  clear hLL
  by_cases hb : left - n < 0
  · go_enter Tryz.func15, Tryz.ntmps15
    go_wp2
    go_ret
    exact ⟨-1, rfl, .inl rfl, rfl⟩
  · go_enter Tryz.func15, Tryz.ntmps15
    go_wp2
    go_loopw [1, 5] (fun l i wr => ∃ (k : Nat) (q : Int), k ≤ n ∧ l = .int .i64 q ∧ i = .int .i64 k ∧ 0 ≤ q ∧ q ≤ left ∧ Hid (∀ f ∈ fs.take k, (f.length : Int) ≤ left) ∧ wr = w) (fun _ i _ => n - (intOf i).toNat)
    case atStart => exact ⟨0, left - n, by omega, rfl, rfl, by omega, by omega, (fun f hf => by simp at hf), rfl⟩
    case round =>
      obtain ⟨k, q, hk, rfl, rfl, q0, q1, HQ, rfl⟩ := hrel
      by_cases hlt : k < n
      · obtain ⟨⟨f, v⟩, hx⟩ : ∃ x, xs[k]? = some x := ⟨_, List.getElem?_eq_getElem (by rw [H1.out.2.2.2.2]; exact hlt)⟩
        have e1 := fst_at H1.out.2.1 hx
        have hv := H1.out.2.2.1 _ (List.mem_of_getElem? hx)
        have hfl := H1.out.2.2.2.1 _ (List.mem_of_getElem? e1)
        simp only [] at hv hfl e1
        obtain ⟨av, cv, rfl⟩ := hv.is_slice
        rcases H1.out.1.2 with ⟨e0, _⟩ | ⟨g, o, c, e2, hc1⟩
        · omega
        · simp only [Value.slice.injEq, true_and] at e2
          obtain ⟨rfl, rfl⟩ := e2
          have i0 := Rd.elem rCells_length hc1 k _ hx 0 _ rfl
          rw [Nat.mul_one, Nat.add_zero] at i0
          simp only [] at i0
          have HE : Hid (fs[k]? = some f) := e1
          clear hc1 hx hv e1
          by_cases hq : q - f.length < 0
          · have hz : szv q f.length = -1 := if_pos hq
            go_wp2_with fail
            refine (szInt64S_any av f.length cv q wr hfl q0 (by omega)).mono ?_
            rw [hz]
            rintro e u ⟨rfl, rfl⟩
            clear hz
            go_wp2
            go_ret
            exact ⟨-1, rfl, .inl rfl, rfl⟩
          · have hz : szv q f.length = q - f.length := if_neg hq
            go_wp2_with fail
            refine (szInt64S_any av f.length cv q wr hfl q0 (by omega)).mono ?_
            rw [hz]
            rintro e u ⟨rfl, rfl⟩
            clear hz
            go_wp2
            go_roundw
            case rel =>
              refine ⟨k + 1, q - f.length, by omega, rfl, by go_num, by omega, by omega, ?_, by trivial⟩
              intro y hy
              obtain ⟨hlt', hf'⟩ := List.getElem?_eq_some_iff.1 HE.out
              rw [List.take_succ_eq_append_getElem hlt', hf'] at hy
              rcases List.mem_append.1 hy with hy | hy
              · exact HQ.out y hy
              · simp only [List.mem_singleton] at hy
                subst hy
                omega
            case measure => simp [intOf]; omega
      · have hkn : k = n := by omega
        subst hkn
        have HA : Hid (∀ f ∈ fs, (f.length : Int) ≤ left) := by
          have := HQ.out
          rw [← HL.out, List.take_length] at this
          exact this
        clear HQ
        go_wp2
        go_ret
        exact ⟨q, rfl, .inr ⟨q0, q1, by omega, HA.out⟩, rfl⟩

def MF.fits (f : MF) : Prop := f.params.length ≤ 9223372036854775807 ∧ f.locals.length ≤ 9223372036854775807 ∧ f.code.length ≤ 9223372036854775807
set_option maxHeartbeats 2000000 in
set_option maxRecDepth 100000 in
theorem szFunc_any (v : VF) (f : MF) (left : Int) (w : World) (hf : f.fits) (h : RdF w v f) (h0 : 0 ≤ left) (h1 : left ≤ 1048576) :
    Calls Tryz.prog 61 #[.agg #[v.p, .int .i64 f.result, v.l, v.c], .int .i64 left] w fun e w' => ∃ r : Int, e = .returned (.int .i64 r) ∧ (r = -1 ∨ 0 ≤ r ∧ r ≤ left ∧ f.small) ∧ Below w.heap.size w w' := by
  obtain ⟨a1, c1, e1⟩ := h.1.is_slice
  obtain ⟨a2, c2, e2⟩ := h.2.1.is_slice
  obtain ⟨a3, c3, e3⟩ := h.2.2.is_slice
  rw [e1, e2, e3]
  clear e1 e2 e3 h
  have hbel : Below w.heap.size w (w.alloc (.cells #[.slice a1 f.params.length c1, .int .i64 f.result, .slice a2 f.locals.length c2, .slice a3 f.code.length c3] 112)) := (Below.refl _ _).alloc (Nat.le_refl _) _
  obtain ⟨f1, f2, f3⟩ := hf
  unfold MF.small
  generalize f.params.length = n1 at f1 hbel
  generalize f.locals.length = n2 at f2 hbel
  generalize f.code.length = n3 at f3 hbel
  have HB : Hid _ := hbel
  clear hbel
  by_cases q1 : left - n1 < 0
  · have z1 : szv left n1 = -1 := if_pos q1
    go_enter Tryz.func61, Tryz.ntmps61
    go_wp2_with fail
    refine (szInt64S_any a1 n1 c1 left _ f1 h0 h1).mono ?_
    rw [z1]
    rintro e u ⟨rfl, rfl⟩
    clear z1
    go_wp2
    go_ret
    exact ⟨-1, rfl, .inl rfl, HB.out⟩
  · have z1 : szv left n1 = left - n1 := if_neg q1
    by_cases q2 : left - n1 - n2 < 0
    · have z2 : szv (left - n1) n2 = -1 := if_pos q2
      go_enter Tryz.func61, Tryz.ntmps61
      go_wp2_with fail
      refine (szInt64S_any a1 n1 c1 left _ f1 h0 h1).mono ?_
      rw [z1]
      rintro e u ⟨rfl, rfl⟩
      go_wp2_with fail
      refine (szInt64S_any a2 n2 c2 (left - n1) _ f2 (by omega) (by omega)).mono ?_
      rw [z2]
      rintro e u ⟨rfl, rfl⟩
      clear z1 z2
      go_wp2
      go_ret
      exact ⟨-1, rfl, .inl rfl, HB.out⟩
    · have z2 : szv (left - n1) n2 = left - n1 - n2 := if_neg q2
      by_cases q3 : left - n1 - n2 - n3 < 0
      · have z3 : szv (left - n1 - n2) n3 = -1 := if_pos q3
        go_enter Tryz.func61, Tryz.ntmps61
        go_wp2_with fail
        refine (szInt64S_any a1 n1 c1 left _ f1 h0 h1).mono ?_
        rw [z1]
        rintro e u ⟨rfl, rfl⟩
        go_wp2_with fail
        refine (szInt64S_any a2 n2 c2 (left - n1) _ f2 (by omega) (by omega)).mono ?_
        rw [z2]
        rintro e u ⟨rfl, rfl⟩
        go_wp2_with fail
        refine (szInstrS_any a3 n3 c3 (left - n1 - n2) _ f3 (by omega) (by omega)).mono ?_
        rw [z3]
        rintro e u ⟨rfl, rfl⟩
        clear z1 z2 z3
        go_wp2
        go_ret
        exact ⟨-1, rfl, .inl rfl, HB.out⟩
      · have z3 : szv (left - n1 - n2) n3 = left - n1 - n2 - n3 := if_neg q3
        go_enter Tryz.func61, Tryz.ntmps61
        go_wp2_with fail
        refine (szInt64S_any a1 n1 c1 left _ f1 h0 h1).mono ?_
        rw [z1]
        rintro e u ⟨rfl, rfl⟩
        go_wp2_with fail
        refine (szInt64S_any a2 n2 c2 (left - n1) _ f2 (by omega) (by omega)).mono ?_
        rw [z2]
        rintro e u ⟨rfl, rfl⟩
        go_wp2_with fail
        refine (szInstrS_any a3 n3 c3 (left - n1 - n2) _ f3 (by omega) (by omega)).mono ?_
        rw [z3]
        rintro e u ⟨rfl, rfl⟩
        clear z1 z2 z3
        go_wp2
        go_ret
        exact ⟨left - n1 - n2 - n3, rfl, .inr ⟨by omega, by omega, by omega, by omega, by omega⟩, HB.out⟩

set_option maxHeartbeats 2000000 in
set_option maxRecDepth 100000 in
theorem szFuncS_any (s : Value) (fs : List MF) (left : Int) (w : World) (hL : fs.length ≤ 9223372036854775807) (hs : ∀ f ∈ fs, f.fits) (h : RdFs w s fs) (h0 : 0 ≤ left) (h1 : left ≤ 1048576) :
    Calls Tryz.prog 26 #[s, .int .i64 left] w fun e w' => ∃ r : Int, e = .returned (.int .i64 r) ∧ (r = -1 ∨ 0 ≤ r ∧ r ≤ left ∧ (fs.length : Int) ≤ left ∧ ∀ f ∈ fs, f.small) ∧ Below w.heap.size w w' := by
  obtain ⟨xs, hxs, hrd, hel⟩ := h
  have hxl : xs.length = fs.length := by rw [← hxs]; simp
  have H1 : Hid (Rd w 4 s fs.length (xs.flatMap fCells) ∧ xs.map Prod.fst = fs ∧ (∀ x ∈ xs, RdF w x.2 x.1) ∧ (∀ f ∈ fs, f.fits) ∧ xs.length = fs.length) := ⟨hrd, hxs, hel, hs, hxl⟩
  obtain ⟨a1, c1, rfl⟩ := hrd.is_slice
  clear hrd hxs hel hs hxl
  generalize hLL : fs.length = n at hL H1 ⊢
  have HL : Hid (fs.length = n) := hLL
  clear hLL
  by_cases hb : left - n < 0
  · go_enter Tryz.func26, Tryz.ntmps26
    go_wp2
    go_ret
    exact ⟨-1, rfl, .inl rfl, Below.refl _ _⟩
  · go_enter Tryz.func26, Tryz.ntmps26
    go_wp2
    go_loopw [1, 5] (fun l i wr => ∃ (k : Nat) (q : Int), k ≤ n ∧ l = .int .i64 q ∧ i = .int .i64 k ∧ 0 ≤ q ∧ q ≤ left ∧ Hid (∀ f ∈ fs.take k, f.small) ∧ Below w.heap.size w wr) (fun _ i _ => n - (intOf i).toNat)
    case atStart => exact ⟨0, left - n, by omega, rfl, rfl, by omega, by omega, (fun f hf => by simp at hf), Below.refl _ _⟩
    case round =>
      obtain ⟨k, q, hk, rfl, rfl, q0, q1, HQ, hbel⟩ := hrel
      have HB : Hid (Below w.heap.size w wr) := hbel
      clear hbel
      by_cases hlt : k < n
      · obtain ⟨⟨f, v⟩, hx⟩ : ∃ x, xs[k]? = some x := ⟨_, List.getElem?_eq_getElem (by rw [H1.out.2.2.2.2]; exact hlt)⟩
        have e1 := fst_at H1.out.2.1 hx
        have hv := H1.out.2.2.1 _ (List.mem_of_getElem? hx)
        have hfl := H1.out.2.2.2.1 _ (List.mem_of_getElem? e1)
        simp only [] at hv hfl e1
        rcases H1.out.1.2 with ⟨e0, _⟩ | ⟨g, o, c, e2, hc1⟩
        · omega
        · simp only [Value.slice.injEq, true_and] at e2
          obtain ⟨rfl, rfl⟩ := e2
          have i0 := Rd.elem fCells_length hc1 k _ hx 0 _ rfl
          have i1 := Rd.elem fCells_length hc1 k _ hx 1 _ rfl
          have i2 := Rd.elem fCells_length hc1 k _ hx 2 _ rfl
          have i3 := Rd.elem fCells_length hc1 k _ hx 3 _ rfl
          rw [← HB.out.cell (block_lt_of_cell i0), Nat.add_zero] at i0
          rw [← HB.out.cell (block_lt_of_cell i1)] at i1
          rw [← HB.out.cell (block_lt_of_cell i2)] at i2
          rw [← HB.out.cell (block_lt_of_cell i3)] at i3
          simp only [] at i0 i1 i2 i3
          have HE : Hid (fs[k]? = some f ∧ RdF wr v f ∧ f.fits) := ⟨e1, hv.keep HB.out (Nat.le_refl _), hfl⟩
          clear hc1 hx hv e1 hfl
          go_wp2_with fail
          refine (szFunc_any v f q wr HE.out.2.2 HE.out.2.1 q0 (by omega)).mono ?_
          rintro e u ⟨r, rfl, hr, hbu⟩
          have HB2 : Hid (Below w.heap.size w u) := HB.out.trans (hbu.mono HB.out.size)
          clear hbu HB i0 i1 i2 i3
          rcases hr with rfl | ⟨r0, r1, hsm⟩
          · go_wp2
            go_ret
            exact ⟨-1, rfl, .inl rfl, HB2.out⟩
          · have HS : Hid f.small := hsm
            clear hsm
            go_wp2
            go_roundw
            case rel =>
              refine ⟨k + 1, r, by omega, rfl, by go_num, by omega, by omega, ?_, HB2.out⟩
              intro y hy
              obtain ⟨hlt', hf'⟩ := List.getElem?_eq_some_iff.1 HE.out.1
              rw [List.take_succ_eq_append_getElem hlt', hf'] at hy
              rcases List.mem_append.1 hy with hy | hy
              · exact HQ.out y hy
              · simp only [List.mem_singleton] at hy
                subst hy
                exact HS.out
            case measure => simp [intOf]; omega
      · have hkn : k = n := by omega
        subst hkn
        have HA : Hid (∀ f ∈ fs, f.small) := by
          have := HQ.out
          rw [← HL.out, List.take_length] at this
          exact this
        clear HQ
        go_wp2
        go_ret
        exact ⟨q, rfl, .inr ⟨q0, q1, by omega, HA.out⟩, HB.out⟩
end Go.Proofs.YtdfmdgbolmbffaaGreat
namespace Go.Proofs.YtdfmdgbolmbffaaGreat
open Go.ChangeShapes Go.WideShapes Go.ChangeAt Go.RowKit
set_option linter.unusedVariables false
structure MP.fits (p : MP) : Prop where
  regions : p.regions.length ≤ 9223372036854775807
  region : ∀ r ∈ p.regions, r.length ≤ 9223372036854775807
  consts : p.consts.length ≤ 9223372036854775807
  funcs : p.funcs.length ≤ 9223372036854775807
  func : ∀ f ∈ p.funcs, f.fits
  certs : p.certs.length ≤ 9223372036854775807
theorem szv_cases {left : Int} {n : Nat} (h0 : 0 ≤ left) (h1 : left ≤ 1048576) : szv left n = -1 ∨ 0 ≤ szv left n ∧ szv left n ≤ left ∧ (n : Int) ≤ left := by
  unfold szv
  by_cases h : left - n < 0
  · rw [if_pos h]; exact .inl rfl
  · rw [if_neg h]; exact .inr ⟨by omega, by omega, by omega⟩
/-- A call's one argument of four cells. -/
structure Fr1 (w u : World) (tp : TypeId) (p : List Value) : Prop where
  par : u.ownsRow w.heap.size tp 4 (.slice (some ⟨w.heap.size, 0, none⟩) 1 1) 1 p
  bel : Below w.heap.size w u
theorem Fr1.of (w : World) (tp : TypeId) (p : Array Value) (hp : p.size = 4) : Fr1 w (w.alloc (.cells p tp)) tp p.toList :=
  ⟨World.ownsRow_lit (base := w.heap.size) (e := tp) (size := 4) w p 1 (Nat.le_refl _) (by unfold maxLen; omega) (by omega), (Below.refl _ _).alloc (Nat.le_refl _) _⟩
theorem Fr1.keep {w u u' : World} {tp : TypeId} {p : List Value} (h : Fr1 w u tp p) (hb : Below u.heap.size u u') : Fr1 w u' tp p :=
  ⟨own_keep h.par hb (Nat.le_refl _), h.bel.trans (hb.mono h.bel.size)⟩

set_option maxHeartbeats 2000000 in
set_option maxRecDepth 100000 in
theorem szProgram_any (v : VP) (p : MP) (left : Int) (w : World) (hf : p.fits) (h : RdP w v p) (h0 : 0 ≤ left) (h1 : left ≤ 1048576) :
    Calls Tryz.prog 6 #[.agg #[v.r, v.k, v.f, v.t], .int .i64 left] w fun e w' => ∃ r : Int, e = .returned (.int .i64 r) ∧ (r = -1 ∨ 0 ≤ r ∧ r ≤ left ∧ p.small) ∧ Below w.heap.size w w' := by
  obtain ⟨a2, c2, e2⟩ := h.consts.is_slice
  obtain ⟨a4, c4, e4⟩ := h.certs.is_slice
  obtain ⟨vr, vk, vf, vt⟩ := v
  simp only [] at e2 e4
  subst e2
  subst e4
  have F0 := Fr1.of w 27 #[vr, .slice a2 p.consts.length c2, vf, .slice a4 p.certs.length c4] rfl
  have HF : Hid p.fits := hf
  clear hf
  go_enter Tryz.func6, Tryz.ntmps6
  go_wp2_with fail
  refine (szInt64SS_any vr p.regions left _ HF.out.regions HF.out.region (h.regions.keep F0.bel (Nat.le_refl _)) h0 h1).mono ?_
  rintro e u1 ⟨r1, rfl, hr, rfl⟩
  rcases hr with rfl | ⟨r10, r11, r12, r13⟩
  · go_wp2
    go_ret
    exact ⟨-1, rfl, .inl rfl, F0.bel⟩
  have HR : Hid (∀ f ∈ p.regions, (f.length : Int) ≤ left) := r13
  clear r13
  obtain ⟨p0, p1, p2, p3, _⟩ := row4 F0.par
  go_wp2_with fail
  refine (szConstS_any a2 p.consts.length c2 r1 _ HF.out.consts r10 (by omega)).mono ?_
  rintro e u2 ⟨rfl, rfl⟩
  have hz := szv_cases (n := p.consts.length) r10 (by omega)
  generalize szv r1 p.consts.length = r2 at hz
  rcases hz with rfl | ⟨r20, r21, r22⟩
  · go_wp2
    go_ret
    exact ⟨-1, rfl, .inl rfl, F0.bel⟩
  go_wp2_with fail
  refine (szFuncS_any vf p.funcs r2 _ HF.out.funcs HF.out.func (h.funcs.keep F0.bel (Nat.le_refl _)) r20 (by omega)).mono ?_
  rintro e u3 ⟨r3, rfl, hr, b3⟩
  have F3 := F0.keep b3
  clear b3 p0 p1 p2 p3
  rcases hr with rfl | ⟨r30, r31, r32, r33⟩
  · go_wp2
    go_ret
    exact ⟨-1, rfl, .inl rfl, F3.bel⟩
  have HS : Hid (∀ f ∈ p.funcs, f.small) := r33
  clear r33
  obtain ⟨p0, p1, p2, p3, _⟩ := row4 F3.par
  go_wp2_with fail
  refine (szCertS_any a4 p.certs.length c4 r3 _ HF.out.certs r30 (by omega)).mono ?_
  rintro e u4 ⟨rfl, rfl⟩
  have hz := szv_cases (n := p.certs.length) r30 (by omega)
  generalize szv r3 p.certs.length = r4 at hz
  rcases hz with rfl | ⟨r40, r41, r42⟩
  · go_wp2
    go_ret
    exact ⟨-1, rfl, .inl rfl, F3.bel⟩
  go_wp2
  go_ret
  refine ⟨r4, rfl, .inr ⟨r40, by omega, ⟨by omega, fun f hf => ?_, by omega, by omega, HS.out, by omega⟩⟩, F3.bel⟩
  have := HR.out f hf
  omega
end Go.Proofs.YtdfmdgbolmbffaaGreat
namespace Go.Proofs.YtdfmdgbolmbffaaGreat
open Go.ChangeShapes Go.WideShapes Go.ChangeAt Go.RowKit
set_option linter.unusedVariables false
section
variable {H : Type} {enc : TypeId × Value → H} {P : Program} {w : World} {spare : Nat → Bool} {held : Bool}
theorem add_at (b off : Nat) (i : Nat) : (⟨b, off, none⟩ : Addr).add i = ⟨b, off + i, none⟩ := by unfold Addr.add; split <;> simp_all
/-- A slice whose elements read each as one of a family. -/
theorem open_rows {α : Type} [Inhabited α] (f : α → List Value) (G : α → Prop) (m : Nat) (hf : ∀ y, (f y).length = m) (h0 : 0 < m) {t e : TypeId} (ht : P.underlying t = some (.slice e)) (hm : P.cellsOf e = m)
    (hel : ∀ fuel cs x, DataW.trod enc P w 0 spare held fuel e cs = some x → ∃ y, cs = f y ∧ G y) {fuel : Nat} {cs : List Value} {x : DataW H × List MemPlace} (h : DataW.trod enc P w 0 spare held fuel t cs = some x) :
    ∃ (s : Value) (ys : List α), cs = [s] ∧ Rd w m s ys.length (ys.flatMap f) ∧ ys.length ≤ maxLen ∧ ∀ y ∈ ys, G y := by
  rcases DataW.trod_slice ht h with ⟨rfl, _⟩ | ⟨a, len, cap, elems, rest, n, _, rfl, _, _, hl, hmx, hlen, hE, _, _⟩
  · exact ⟨_, [], rfl, ⟨by simp, .inl ⟨rfl, _, _, rfl⟩⟩, by simp, fun y hy => by cases hy⟩
  · rw [hm] at hE
    have hy : ∀ i, i < len → ∃ y, w.cells? 0 (a.add (i * m)) m = some (f y) ∧ G y := by
      intro i hi
      have h1 := hE i hi
      rw [List.getElem?_eq_getElem (by omega)] at h1
      obtain ⟨cs', hc, hx⟩ := Option.bind_eq_some_iff.1 h1
      obtain ⟨y, rfl, hg⟩ := hel _ _ _ hx
      exact ⟨y, hc, hg⟩
    obtain ⟨F, hF⟩ := Go.Deep.choose_lt hy
    refine ⟨_, (List.range len).map F, rfl, ⟨?_, ?_⟩, by simp; omega, ?_⟩
    · rw [flat_length f m hf]
    · by_cases hz : len = 0
      · subst hz
        exact .inl ⟨by simp, _, _, rfl⟩
      · obtain ⟨b, off, spot⟩ := a
        have hc0 := (World.cells?_some (hF 0 (by omega)).1).2.2 0 h0
        have hfl : 0 < (f (F 0)).length := by rw [hf]; exact h0
        rw [List.getElem?_eq_getElem hfl] at hc0
        have hspot : spot = none := by simpa [Addr.add] using World.cell?_spot hc0
        subst hspot
        refine .inr ⟨b, off, cap, by simp, fun j u hj => ?_⟩
        have hjl : j < len * m := by
          have := (List.getElem?_eq_some_iff.1 hj).1
          rw [flat_length f m hf] at this
          simpa using this
        have hq : j / m < len := (Nat.div_lt_iff_lt_mul h0).2 hjl
        have hr := Nat.mod_lt j h0
        have ej : j = j / m * m + j % m := by rw [Nat.mul_comm]; exact (Nat.div_add_mod j m).symm
        have hk : ((List.range len).map F)[j / m]? = some (F (j / m)) := by simp [hq]
        have hcell := (World.cells?_some (hF (j / m) hq).1).2.2 (j % m) hr
        have hat := flat_at f m hf _ (j / m) (j % m) _ hk hr
        rw [← ej, hj] at hat
        rw [add_at, add_at, Nat.add_assoc, ← ej] at hcell
        rw [hcell, ← hat]
    · intro y hy'
      obtain ⟨i, hi, rfl⟩ := List.mem_map.1 hy'
      exact (hF i (List.mem_range.1 hi)).2
end
end Go.Proofs.YtdfmdgbolmbffaaGreat
namespace Go.Proofs.YtdfmdgbolmbffaaGreat
open Go.ChangeShapes Go.WideShapes Go.ChangeAt Go.RowKit
set_option linter.unusedVariables false
instance : Inhabited MI := ⟨⟨0, 0, 0, 0⟩⟩
instance : Inhabited MC := ⟨⟨0, 0⟩⟩
instance : Inhabited MT := ⟨⟨0, 0, 0, 0⟩⟩
instance : Inhabited MF := ⟨⟨[], 0, [], []⟩⟩
instance : Inhabited VF := ⟨⟨.bool true, .bool true, .bool true⟩⟩
def W64 (z : Int) : Prop := (Lit.int .i64 z).wf = true
def W32 (z : Int) : Prop := (Lit.int .u32 z).wf = true
def MI.wf (x : MI) : Prop := W64 x.op ∧ W64 x.a ∧ W64 x.b ∧ W64 x.c
def MC.wf (x : MC) : Prop := W64 x.type ∧ W32 x.word
def MT.wf (x : MT) : Prop := W64 x.func ∧ W64 x.head ∧ W64 x.counter ∧ W32 x.init
structure MF.wf (f : MF) : Prop where
  params : ∀ z ∈ f.params, W64 z
  result : W64 f.result
  locals : ∀ z ∈ f.locals, W64 z
  code : ∀ x ∈ f.code, x.wf
structure MP.wf (p : MP) : Prop where
  regions : ∀ r ∈ p.regions, ∀ z ∈ r, W64 z
  consts : ∀ x ∈ p.consts, x.wf
  funcs : ∀ f ∈ p.funcs, f.wf
  certs : ∀ x ∈ p.certs, x.wf
theorem cells64 : Tryz.prog.cellsOf 2 = 1 := by kernel_rfl
theorem cells32 : Tryz.prog.cellsOf 98 = 1 := by kernel_rfl
theorem cellsS64 : Tryz.prog.cellsOf 48 = 1 := by kernel_rfl
theorem cellsSS64 : Tryz.prog.cellsOf 22 = 1 := by kernel_rfl
theorem cellsLI : Tryz.prog.cellsOf 192 = 4 := by kernel_rfl
theorem cellsLC : Tryz.prog.cellsOf 130 = 2 := by kernel_rfl
theorem cellsLT : Tryz.prog.cellsOf 133 = 4 := by kernel_rfl
theorem cellsLF : Tryz.prog.cellsOf 112 = 4 := by kernel_rfl
theorem cellsLP : Tryz.prog.cellsOf 27 = 4 := by kernel_rfl
theorem cellsSI : Tryz.prog.cellsOf 110 = 1 := by kernel_rfl
theorem cellsSC : Tryz.prog.cellsOf 23 = 1 := by kernel_rfl
theorem cellsST : Tryz.prog.cellsOf 25 = 1 := by kernel_rfl
theorem cellsSF : Tryz.prog.cellsOf 24 = 1 := by kernel_rfl
section
variable {H : Type} {enc : TypeId × Value → H} {w : World} {spare : Nat → Bool} {held : Bool} {fuel : Nat} {cs : List Value} {x : DataW H × List MemPlace}
theorem four {cs : List Value} (h : cs.length = 4) : ∃ a b c d, cs = [a, b, c, d] := by
  match cs, h with
  | [a, b, c, d], _ => exact ⟨a, b, c, d, rfl⟩
theorem two {cs : List Value} (h : cs.length = 2) : ∃ a b, cs = [a, b] := by
  match cs, h with
  | [a, b], _ => exact ⟨a, b, rfl⟩
theorem open_i64 (h : DataW.trod enc Tryz.prog w 0 spare held fuel 2 cs = some x) : ∃ z, cs = intCell z ∧ W64 z := by
  obtain ⟨n, h1, _, h2⟩ := DataW.trod_int Tryz.underlying2 h
  exact ⟨n, h1, h2⟩
theorem open_u32 (h : DataW.trod enc Tryz.prog w 0 spare held fuel 98 cs = some x) : ∃ z, cs = [.int .u32 z] ∧ W32 z := by
  obtain ⟨n, h1, _, h2⟩ := DataW.trod_int Tryz.underlying98 h
  exact ⟨n, h1, h2⟩
theorem open_instr (h : DataW.trod enc Tryz.prog w 0 spare held fuel 192 cs = some x) : ∃ y : MI, cs = y.cells ∧ y.wf := by
  obtain ⟨y0, y1, y2, y3, n, _, hl, g0, g1, g2, g3⟩ := Go.Joins.trod_struct4 Tryz.underlying192 h
  rw [cellsLI] at hl
  obtain ⟨a, b, c, d, rfl⟩ := four hl
  simp only [cells64, List.drop_zero, List.drop_succ_cons, List.take_succ_cons, List.take_zero] at g0 g1 g2 g3
  obtain ⟨z0, e0, w0⟩ := open_i64 g0
  obtain ⟨z1, e1, w1⟩ := open_i64 g1
  obtain ⟨z2, e2, w2⟩ := open_i64 g2
  obtain ⟨z3, e3, w3⟩ := open_i64 g3
  simp only [intCell, List.cons.injEq, and_true] at e0 e1 e2 e3
  subst e0 e1 e2 e3
  exact ⟨⟨z0, z1, z2, z3⟩, rfl, w0, w1, w2, w3⟩
theorem open_cert (h : DataW.trod enc Tryz.prog w 0 spare held fuel 133 cs = some x) : ∃ y : MT, cs = y.cells ∧ y.wf := by
  obtain ⟨y0, y1, y2, y3, n, _, hl, g0, g1, g2, g3⟩ := Go.Joins.trod_struct4 Tryz.underlying133 h
  rw [cellsLT] at hl
  obtain ⟨a, b, c, d, rfl⟩ := four hl
  simp only [cells64, cells32, List.drop_zero, List.drop_succ_cons, List.take_succ_cons, List.take_zero] at g0 g1 g2 g3
  obtain ⟨z0, e0, w0⟩ := open_i64 g0
  obtain ⟨z1, e1, w1⟩ := open_i64 g1
  obtain ⟨z2, e2, w2⟩ := open_i64 g2
  obtain ⟨z3, e3, w3⟩ := open_u32 g3
  simp only [intCell, List.cons.injEq, and_true] at e0 e1 e2 e3
  subst e0 e1 e2 e3
  exact ⟨⟨z0, z1, z2, z3⟩, rfl, w0, w1, w2, w3⟩
theorem open_const (h : DataW.trod enc Tryz.prog w 0 spare held fuel 130 cs = some x) : ∃ y : MC, cs = y.cells ∧ y.wf := by
  obtain ⟨y0, y1, n, _, hl, g0, g1⟩ := trod_struct2 Tryz.underlying130 h
  rw [cellsLC] at hl
  obtain ⟨a, b, rfl⟩ := two hl
  simp only [cells64, cells32, List.drop_zero, List.drop_succ_cons, List.take_succ_cons, List.take_zero] at g0 g1
  obtain ⟨z0, e0, w0⟩ := open_i64 g0
  obtain ⟨z1, e1, w1⟩ := open_u32 g1
  simp only [intCell, List.cons.injEq, and_true] at e0 e1
  subst e0 e1
  exact ⟨⟨z0, z1⟩, rfl, w0, w1⟩
theorem open_ints64 (h : DataW.trod enc Tryz.prog w 0 spare held fuel 48 cs = some x) : ∃ y : List Int × Value, cs = rCells y ∧ Rd w 1 y.2 y.1.length (y.1.flatMap intCell) ∧ y.1.length ≤ maxLen ∧ ∀ z ∈ y.1, W64 z := by
  obtain ⟨s, ys, e, h1, h2, h3⟩ := open_rows intCell W64 1 intCell_length (by omega) Tryz.underlying48 cells64 (fun _ _ _ => open_i64) h
  exact ⟨(ys, s), e, h1, h2, h3⟩
theorem open_func (h : DataW.trod enc Tryz.prog w 0 spare held fuel 112 cs = some x) : ∃ y : MF × VF, cs = fCells y ∧ RdF w y.2 y.1 ∧ y.1.fits ∧ y.1.wf := by
  obtain ⟨y0, y1, y2, y3, n, _, hl, g0, g1, g2, g3⟩ := Go.Joins.trod_struct4 Tryz.underlying112 h
  rw [cellsLF] at hl
  obtain ⟨a, b, c, d, rfl⟩ := four hl
  simp only [cells64, cellsS64, cellsSI, List.drop_zero, List.drop_succ_cons, List.take_succ_cons, List.take_zero] at g0 g1 g2 g3
  obtain ⟨⟨l0, s0⟩, e0, w0, m0, k0⟩ := open_ints64 g0
  obtain ⟨z1, e1, w1⟩ := open_i64 g1
  obtain ⟨⟨l2, s2⟩, e2, w2, m2, k2⟩ := open_ints64 g2
  obtain ⟨s3, l3, e3, w3, m3, k3⟩ := open_rows MI.cells MI.wf 4 MI.cells_length (by omega) Tryz.underlying110 cellsLI (fun _ _ _ => open_instr) g3
  simp only [intCell, rCells, List.cons.injEq, and_true] at e0 e1 e2 e3
  subst e0 e1 e2 e3
  exact ⟨(⟨l0, z1, l2, l3⟩, ⟨a, c, d⟩), rfl, ⟨w0, w2, w3⟩, ⟨by simp [maxLen] at m0; exact m0, by simp [maxLen] at m2; exact m2, by simp [maxLen] at m3; exact m3⟩, ⟨k0, w1, k2, k3⟩⟩
theorem open_program (h : DataW.trod enc Tryz.prog w 0 spare held fuel 27 cs = some x) : ∃ (p : MP) (v : VP), cs = [v.r, v.k, v.f, v.t] ∧ RdP w v p ∧ p.fits ∧ p.wf := by
  obtain ⟨y0, y1, y2, y3, n, _, hl, g0, g1, g2, g3⟩ := Go.Joins.trod_struct4 Tryz.underlying27 h
  rw [cellsLP] at hl
  obtain ⟨a, b, c, d, rfl⟩ := four hl
  simp only [cellsSS64, cellsSC, cellsSF, cellsST, List.drop_zero, List.drop_succ_cons, List.take_succ_cons, List.take_zero] at g0 g1 g2 g3
  obtain ⟨s0, l0, e0, w0, m0, k0⟩ := open_rows rCells (fun y => Rd w 1 y.2 y.1.length (y.1.flatMap intCell) ∧ y.1.length ≤ maxLen ∧ ∀ z ∈ y.1, W64 z) 1 rCells_length (by omega) Tryz.underlying22 cellsS64 (fun _ _ _ => open_ints64) g0
  obtain ⟨s1, l1, e1, w1, m1, k1⟩ := open_rows MC.cells MC.wf 2 MC.cells_length (by omega) Tryz.underlying23 cellsLC (fun _ _ _ => open_const) g1
  obtain ⟨s2, l2, e2, w2, m2, k2⟩ := open_rows fCells (fun y => RdF w y.2 y.1 ∧ y.1.fits ∧ y.1.wf) 4 fCells_length (by omega) Tryz.underlying24 cellsLF (fun _ _ _ => open_func) g2
  obtain ⟨s3, l3, e3, w3, m3, k3⟩ := open_rows MT.cells MT.wf 4 MT.cells_length (by omega) Tryz.underlying25 cellsLT (fun _ _ _ => open_cert) g3
  simp only [List.cons.injEq, and_true] at e0 e1 e2 e3
  subst e0 e1 e2 e3
  have hm : ∀ n : Nat, n ≤ maxLen → n ≤ 9223372036854775807 := fun n h => by simp [maxLen] at h; exact h
  refine ⟨⟨l0.map Prod.fst, l1, l2.map Prod.fst, l3⟩, ⟨a, b, c, d⟩, rfl, ⟨⟨l0, rfl, by simpa using w0, fun y hy => (k0 y hy).1⟩, w1, ⟨l2, rfl, by simpa using w2, fun y hy => (k2 y hy).1⟩, w3⟩, ⟨by simpa using hm _ m0, ?_, hm _ m1, by simpa using hm _ m2, ?_, hm _ m3⟩, ⟨?_, k1, ?_, k3⟩⟩
  · intro r hr
    obtain ⟨y, hy, rfl⟩ := List.mem_map.1 hr
    exact hm _ (k0 y hy).2.1
  · intro r hr
    obtain ⟨y, hy, rfl⟩ := List.mem_map.1 hr
    exact (k2 y hy).2.1
  · intro r hr
    obtain ⟨y, hy, rfl⟩ := List.mem_map.1 hr
    exact (k0 y hy).2.2
  · intro r hr
    obtain ⟨y, hy, rfl⟩ := List.mem_map.1 hr
    exact (k2 y hy).2.2
end
end Go.Proofs.YtdfmdgbolmbffaaGreat
namespace Go.Proofs.YtdfmdgbolmbffaaGreat
open Go.ChangeShapes Go.WideShapes Go.ChangeAt Go.RowKit
set_option linter.unusedVariables false
theorem own_row {w : World} {base : Nat} {e : TypeId} {s : Value} {k n : Nat} {xs : List Value} (h : w.ownsRow base e k s n xs) : (s = .slice none 0 0 ∧ n = 0) ∨ ∃ g c, s = .slice (some ⟨g, 0, none⟩) n c := by
  rcases h.2 with h | ⟨g, cap, cur, rfl, hb, _⟩
  · exact .inl h
  · exact .inr ⟨g, cap, rfl⟩
theorem own_slice {w : World} {base : Nat} {e : TypeId} {s : Value} {k n : Nat} {xs : List Value} (h : w.ownsRow base e k s n xs) : ∃ a c, s = .slice a n c := by
  rcases own_row h with ⟨rfl, rfl⟩ | ⟨g, c, rfl⟩ <;> exact ⟨_, _, rfl⟩
end Go.Proofs.YtdfmdgbolmbffaaGreat
namespace Go.Proofs.YtdfmdgbolmbffaaGreat
open Go.ChangeShapes Go.WideShapes Go.ChangeAt Go.RowKit
set_option linter.unusedVariables false
structure At4 (w : World) (b : Nat) (x y z t : Value) : Prop where
  c0 : w.cell? ⟨b, 0, none⟩ = some x
  c1 : w.cell? ⟨b, 1, none⟩ = some y
  c2 : w.cell? ⟨b, 2, none⟩ = some z
  c3 : w.cell? ⟨b, 3, none⟩ = some t
theorem At4.lt {w : World} {b : Nat} {x y z t : Value} (h : At4 w b x y z t) : b < w.heap.size := block_lt_of_cell h.c0
theorem At4.keep {w w' : World} {b : Nat} {x y z t : Value} (h : At4 w b x y z t) (hb : Below w.heap.size w w') : At4 w' b x y z t :=
  ⟨by rw [hb.cell h.lt]; exact h.c0, by rw [hb.cell h.lt]; exact h.c1, by rw [hb.cell h.lt]; exact h.c2, by rw [hb.cell h.lt]; exact h.c3⟩
theorem At4.new (w : World) (x y z t : Value) (ty : TypeId) : At4 (w.alloc (.cells #[x, y, z, t] ty)) w.heap.size x y z t := by
  have h := World.ownsRow_lit (base := w.heap.size) (e := ty) (size := 4) w #[x, y, z, t] 1 (Nat.le_refl _) (by unfold maxLen; omega) (by simp)
  exact ⟨h.cellAt 0 (by omega), h.cellAt 1 (by omega), h.cellAt 2 (by omega), h.cellAt 3 (by omega)⟩
theorem At4.alloc {w : World} {b : Nat} {x y z t : Value} (h : At4 w b x y z t) (o : Obj) : At4 (w.alloc o) b x y z t := h.keep ((Below.refl _ _).alloc (Nat.le_refl _) _)
theorem below_alloc (w : World) (o : Obj) : Below w.heap.size w (w.alloc o) := (Below.refl _ _).alloc (Nat.le_refl _) _
theorem below_drew1 (w : World) : Below w.heap.size w w.drew := ⟨rfl, rfl, rfl, Nat.le_refl _, fun _ _ => rfl⟩
theorem below_on {B : Nat} {w u u' : World} (h : Below B w u) (hB : B ≤ w.heap.size) (h' : Below u.heap.size u u') : Below B w u' := h.trans (h'.mono (Nat.le_trans hB h.size))
end Go.Proofs.YtdfmdgbolmbffaaGreat
namespace Go.Proofs.YtdfmdgbolmbffaaGreat
open Go.ChangeShapes Go.WideShapes Go.ChangeAt Go.RowKit
set_option linter.unusedVariables false
def Blk (w : World) (b : Nat) (cur : Array Value) (t : TypeId) : Prop := w.heap[b]? = some (.cells cur t (0, 0))
theorem Blk.new (w : World) (cur : Array Value) (t : TypeId) : Blk (w.alloc (.cells cur t)) w.heap.size cur t := Array.getElem?_push_size
theorem Blk.lt {w : World} {b : Nat} {cur : Array Value} {t : TypeId} (h : Blk w b cur t) : b < w.heap.size := (Array.getElem?_eq_some_iff.1 h).1
theorem Blk.keep {w w' : World} {b : Nat} {cur : Array Value} {t : TypeId} (h : Blk w b cur t) (hb : Below w.heap.size w w') : Blk w' b cur t := by
  unfold Blk at *
  rw [hb.block b (Array.getElem?_eq_some_iff.1 h).1]
  exact h
theorem Blk.cell {w : World} {b : Nat} {cur : Array Value} {t : TypeId} (h : Blk w b cur t) (i : Nat) : w.cell? ⟨b, i, none⟩ = cur[i]? := cell_of_row w b i cur t _ h
theorem Blk.frozen {w : World} {b : Nat} {cur : Array Value} {t : TypeId} (h : Blk w b cur t) (i : Nat) : w.frozen? ⟨b, i, none⟩ = false := frozen_of_row w b i cur t h
theorem Blk.set {w : World} {b : Nat} {cur : Array Value} {t : TypeId} (h : Blk w b cur t) (i : Nat) (x : Value) : Blk (w.setCell ⟨b, i, none⟩ x) b (cur.setIfInBounds i x) t := heap_setCell_same w b i cur t x h
theorem Blk.other {w : World} {b : Nat} {cur : Array Value} {t : TypeId} (h : Blk w b cur t) {a : Addr} (ha : b ≠ a.block) (x : Value) : Blk (w.setCell a x) b cur t := by
  unfold Blk at *
  rw [heap_setCell_other w a b x ha]
  exact h
theorem Blk.grown {w w' : World} {b : Nat} {cur : Array Value} {t e : TypeId} (h : Blk w b cur t) {B k m : Nat} {v : Value} {bs : List Value} (hg : w.grownBy w' v.ownBlock) (ho : w.ownsRow B e k v m bs) (hne : t ≠ e) : Blk w' b cur t := by
  unfold Blk at *
  rw [hg.block b (Array.getElem?_eq_some_iff.1 h).1 ?_]
  · exact h
  · intro hv
    rcases ho.2 with ⟨rfl, _⟩ | ⟨g', cap', cur', rfl, _, hg', _⟩
    · cases hv
    · simp only [Value.ownBlock, Option.some.injEq] at hv
      subst hv
      rw [h] at hg'
      simp only [Option.some.injEq, Obj.cells.injEq] at hg'
      exact hne hg'.2.1
end Go.Proofs.YtdfmdgbolmbffaaGreat
namespace Go.Proofs.YtdfmdgbolmbffaaGreat
open Go.ChangeShapes Go.WideShapes Go.ChangeAt Go.RowKit
set_option linter.unusedVariables false
/-- What mark leaves of n numbers, from k on. -/
def markIs (k : Int) (n : Nat) : List Int := (List.range n).map fun (i : Nat) => k + (i : Int)
theorem markIs_length (k : Int) (n : Nat) : (markIs k n).length = n := by simp [markIs]
theorem markIs_succ (k : Int) (n : Nat) : markIs k (n + 1) = markIs k n ++ [k + (n : Int)] := by simp [markIs, List.range_succ]
/-- Marked up to j. -/
def markITo (k : Int) (cs : List Int) (j : Nat) : List Int := markIs k j ++ cs.drop j
theorem markITo_zero (k : Int) (cs : List Int) : markITo k cs 0 = cs := by simp [markITo, markIs]
theorem markITo_all (k : Int) (cs : List Int) (n : Nat) (h : cs.length = n) : markITo k cs n = markIs k n := by simp [markITo, ← h]
theorem markITo_parts (k : Int) (cs : List Int) (j : Nat) (x : Int) (h : cs[j]? = some x) : (markITo k cs j).flatMap intCell = (markIs k j).flatMap intCell ++ (intCell x ++ (cs.drop (j + 1)).flatMap intCell) := by
  obtain ⟨hlt, rfl⟩ := List.getElem?_eq_some_iff.1 h
  unfold markITo
  rw [List.flatMap_append, List.drop_eq_getElem_cons hlt, List.flatMap_cons]
theorem markITo_next (k : Int) (cs : List Int) (j : Nat) (x : Int) (h : cs[j]? = some x) : ((markITo k cs j).flatMap intCell).set j (.int .i64 (k + (j : Int))) = (markITo k cs (j + 1)).flatMap intCell := by
  have hA : ((markIs k j).flatMap intCell).length = j := by rw [flat_length intCell 1 intCell_length, markIs_length, Nat.mul_one]
  rw [markITo_parts k cs j x h]
  have := set1 ((markIs k j).flatMap intCell) ((cs.drop (j + 1)).flatMap intCell) (.int .i64 x) (.int .i64 (k + (j : Int))) j hA
  refine this.trans ?_
  unfold markITo
  rw [markIs_succ, List.flatMap_append, List.flatMap_append, List.append_assoc]
  simp [intCell]
theorem grown_set' {w wr : World} {g : Nat} (h : w.grownBy wr (some g)) (i : Nat) (x : Value) : w.grownBy (wr.setCell ⟨g, i, none⟩ x) (some g) :=
  ⟨h.os, h.tape, h.output, by rw [World.size_setCell]; exact h.size, fun k hk hne => (heap_setCell_other wr _ k x (fun e => hne (by rw [e]))).trans (h.block k hk hne)⟩
theorem own_apart' {w w' : World} {base : Nat} {e : TypeId} {s : Value} {k n : Nat} {xs : List Value} {row : Option Nat} (h : w.ownsRow base e k s n xs) (hg : w.grownBy w' row) (hne : ∀ g, s.ownBlock = some g → some g ≠ row) : w'.ownsRow base e k s n xs := by
  refine ⟨h.1, ?_⟩
  rcases h.2 with h | ⟨g, cap, cur, rfl, hb1, hgg, hr⟩
  · exact .inl h
  · refine .inr ⟨g, cap, cur, rfl, hb1, ?_, hr⟩
    rw [hg.block g (Array.getElem?_eq_some_iff.1 hgg).1 (hne g rfl)]
    exact hgg
/-- Two rows that are not one. -/
def Apart (x y : Value × List Int) : Prop := ∀ g, x.1.ownBlock = some g → y.1.ownBlock ≠ some g
theorem Apart.symm {x y : Value × List Int} (h : Apart x y) : Apart y x := fun g hg e => h g e hg
/-- Rows of values, no two of them one. -/
structure Fam (w : World) (base : Nat) (L : List (Value × List Int)) : Prop where
  own : ∀ x ∈ L, w.ownsRow base 2 1 x.1 x.2.length (x.2.flatMap intCell)
  sep : L.Pairwise Apart
/-- Rows of values from base on have turned; all else is as it was. -/
structure Wv (base : Nat) (w w' : World) : Prop where
  bel : Below base w w'
  blk : ∀ (k : Nat) (cur : Array Value) (t : TypeId), w.heap[k]? = some (Obj.cells cur t (0, 0)) → t ≠ 2 → w'.heap[k]? = some (Obj.cells cur t (0, 0))
theorem Wv.refl (base : Nat) (w : World) : Wv base w w := ⟨Below.refl _ _, fun _ _ _ h _ => h⟩
theorem Wv.trans {base : Nat} {u v w : World} (h : Wv base u v) (h' : Wv base v w) : Wv base u w := ⟨h.bel.trans h'.bel, fun k cur t hk h1 => h'.blk k cur t (h.blk k cur t hk h1) h1⟩
theorem Wv.of_row {base n : Nat} {w w' : World} {s : Value} {xs : List Value} (ho : w.ownsRow base 2 1 s n xs) (hg : w.grownBy w' s.ownBlock) (hB : base ≤ w.heap.size) : Wv base w w' := by
  refine ⟨⟨hg.os, hg.tape, hg.output, hg.size, fun k hk => hg.block k (by omega) (fun e => by have := (ho.lt k e.symm).1; omega)⟩, fun k cur t hk h1 => ?_⟩
  rw [hg.block k (Array.getElem?_eq_some_iff.1 hk).1 ?_]
  · exact hk
  · intro e
    rcases ho.2 with ⟨rfl, _⟩ | ⟨g', cap', cur', rfl, _, hg', _⟩
    · cases e
    · simp only [Value.ownBlock, Option.some.injEq] at e
      subst e
      rw [hk] at hg'
      simp only [Option.some.injEq, Obj.cells.injEq] at hg'
      exact h1 hg'.2.1
theorem Wv.own {base b : Nat} {w w' : World} (h : Wv base w w') {e : TypeId} {s : Value} {k n : Nat} {xs : List Value} (ho : w.ownsRow b e k s n xs) (h1 : e ≠ 2) : w'.ownsRow b e k s n xs := by
  refine ⟨ho.1, ?_⟩
  rcases ho.2 with h' | ⟨g, cap, cur, e1, hb1, hg, hr⟩
  · exact .inl h'
  · exact .inr ⟨g, cap, cur, e1, hb1, h.blk g cur e hg h1, hr⟩
theorem Fam.put {w w' : World} {base : Nat} {A B : List (Value × List Int)} {v : Value} {c c' : List Int} (h : Fam w base (A ++ (v, c) :: B)) (hl : c'.length = c.length) (ho : w'.ownsRow base 2 1 v c.length (c'.flatMap intCell)) (hg : w.grownBy w' v.ownBlock) : Fam w' base (A ++ (v, c') :: B) := by
  obtain ⟨pA, pB, pAB⟩ := List.pairwise_append.1 h.sep
  obtain ⟨pv, pB'⟩ := List.pairwise_cons.1 pB
  refine ⟨fun x hx => ?_, List.pairwise_append.2 ⟨pA, List.pairwise_cons.2 ⟨fun y hy => pv y hy, pB'⟩, fun a ha b hb => ?_⟩⟩
  · rcases List.mem_append.1 hx with hx | hx
    · exact own_apart' (h.own x (List.mem_append.2 (.inl hx))) hg (fun g hgx e => pAB x hx (v, c) (by simp) g hgx e.symm)
    · rcases List.mem_cons.1 hx with rfl | hx
      · simp only []
        rw [hl]
        exact ho
      · exact own_apart' (h.own x (List.mem_append.2 (.inr (List.mem_cons_of_mem _ hx)))) hg (fun g hgx e => pv x hx g e.symm hgx)
  · rcases List.mem_cons.1 hb with rfl | hb
    · exact fun g hga => pAB a ha (v, c) (by simp) g hga
    · exact pAB a ha b (List.mem_cons_of_mem _ hb)
end Go.Proofs.YtdfmdgbolmbffaaGreat
namespace Go.Proofs.YtdfmdgbolmbffaaGreat
open Go.ChangeShapes Go.WideShapes Go.ChangeAt Go.RowKit
set_option linter.unusedVariables false
/-- A block. -/
structure MB where
  first : Int
  last : Int
  next : List Int
def bCells (x : MB × Value) : List Value := [.int .i64 x.1.first, .int .i64 x.1.last, x.2]
theorem bCells_length (x : MB × Value) : (bCells x).length = 3 := rfl
theorem infoB : (Tryz.prog.info? 71).map (fun i => (i.zero, i.size, i.bytes)) = some (some (.agg #[.int .i64 0, .int .i64 0, .slice none 0 0]), 3, 40) := by kernel_rfl
/-- The rows of frames' locals. -/
def nrows (F : List (MB × Value)) : List (Value × List Int) := F.map fun x => (x.2, x.1.next)
def markB (k : Int) (x : MB × Value) : MB × Value := (⟨k, k + 1, markIs (k + 1 + 1) x.1.next.length⟩, x.2)
def nextB (k : Int) (x : MB × Value) : Int := k + 1 + 1 + (x.1.next.length : Int)
def markBs : Int → List (MB × Value) → List (MB × Value)
  | _, [] => []
  | k, x :: r => markB k x :: markBs (nextB k x) r
def endB : Int → List (MB × Value) → Int
  | k, [] => k
  | k, x :: r => endB (nextB k x) r
theorem endB_snoc (k : Int) (L : List (MB × Value)) (x : MB × Value) : endB k (L ++ [x]) = nextB (endB k L) x := by
  induction L generalizing k with
  | nil => rfl
  | cons y r ih => simp only [List.cons_append, endB]; exact ih _
theorem markBs_app (k : Int) (L M : List (MB × Value)) : markBs k (L ++ M) = markBs k L ++ markBs (endB k L) M := by
  induction L generalizing k with
  | nil => rfl
  | cons y r ih => simp only [List.cons_append, markBs, endB]; rw [ih]
theorem markBs_snoc (k : Int) (L : List (MB × Value)) (x : MB × Value) : markBs k (L ++ [x]) = markBs k L ++ [markB (endB k L) x] := by rw [markBs_app]; rfl
theorem markBs_length (k : Int) (L : List (MB × Value)) : (markBs k L).length = L.length := by
  induction L generalizing k with
  | nil => rfl
  | cons x r ih => simp [markBs, ih]
theorem endB_le (k : Int) (L : List (MB × Value)) (h : ∀ x ∈ L, x.1.next.length ≤ 1048576) : k ≤ endB k L ∧ endB k L ≤ k + 1048578 * (L.length : Int) := by
  induction L generalizing k with
  | nil => simp [endB]
  | cons x r ih =>
    have h1 := h x (by simp)
    have h2 := ih (nextB k x) (fun y hy => h y (by simp [hy]))
    simp only [endB, List.length_cons]
    unfold nextB at h2 ⊢
    omega
theorem type_apart {w : World} {base g k n : Nat} {e t : TypeId} {s : Value} {xs : List Value} {cur : Array Value} {fr : Nat × Nat} (h : w.ownsRow base e k s n xs) (hg : w.heap[g]? = some (Obj.cells cur t fr)) (hne : e ≠ t) : ∀ j, s.ownBlock = some j → j ≠ g := by
  intro j hj e1
  subst e1
  rcases h.2 with ⟨rfl, _⟩ | ⟨g', cap', cur', rfl, _, hg', _⟩
  · cases hj
  · simp only [Value.ownBlock, Option.some.injEq] at hj
    subst hj
    rw [hg] at hg'
    simp only [Option.some.injEq, Obj.cells.injEq] at hg'
    exact hne hg'.2.1.symm
theorem Fam.set {w : World} {base g : Nat} {L : List (Value × List Int)} (h : Fam w base L) {cur : Array Value} {t : TypeId} {fr : Nat × Nat} (hg : w.heap[g]? = some (Obj.cells cur t fr)) (hne : 2 ≠ t) (i : Nat) (x : Value) : Fam (w.setCell ⟨g, i, none⟩ x) base L :=
  ⟨fun y hy => ownsRow_setCell_other (h.own y hy) (a := ⟨g, i, none⟩) (fun e => type_apart (h.own y hy) hg hne g e rfl) x, h.sep⟩
/-- Rows of values and of frames from base on have turned; all else is as it was. -/
structure Wb (base : Nat) (w w' : World) : Prop where
  bel : Below base w w'
  blk : ∀ (k : Nat) (cur : Array Value) (t : TypeId), w.heap[k]? = some (Obj.cells cur t (0, 0)) → t ≠ 2 → t ≠ 71 → w'.heap[k]? = some (Obj.cells cur t (0, 0))
theorem Wb.refl (base : Nat) (w : World) : Wb base w w := ⟨Below.refl _ _, fun _ _ _ h _ _ => h⟩
theorem Wb.trans {base : Nat} {u v w : World} (h : Wb base u v) (h' : Wb base v w) : Wb base u w := ⟨h.bel.trans h'.bel, fun k cur t hk h1 h2 => h'.blk k cur t (h.blk k cur t hk h1 h2) h1 h2⟩
theorem Wv.wb {base : Nat} {w w' : World} (h : Wv base w w') : Wb base w w' := ⟨h.bel, fun k cur t hk h1 _ => h.blk k cur t hk h1⟩
theorem Wb.of_set {base g : Nat} {w : World} {cur : Array Value} (hg : w.heap[g]? = some (Obj.cells cur 71 (0, 0))) (hb : base ≤ g) (i : Nat) (x : Value) : Wb base w (w.setCell ⟨g, i, none⟩ x) := by
  refine ⟨(Below.refl _ _).setCell hb _, fun k c t hk h1 h2 => ?_⟩
  rw [heap_setCell_other w _ k x ?_]
  · exact hk
  · intro e
    simp only [] at e
    subst e
    rw [hk] at hg
    simp only [Option.some.injEq, Obj.cells.injEq] at hg
    exact h2 hg.2.1
theorem own_blk {w : World} {base g k n c : Nat} {e : TypeId} {xs : List Value} (h : w.ownsRow base e k (.slice (some ⟨g, 0, none⟩) n c) n xs) : base ≤ g ∧ ∃ cur, w.heap[g]? = some (Obj.cells cur e (0, 0)) := by
  rcases h.2 with ⟨h', _⟩ | ⟨g', cap', cur, h', hb, hg, _⟩
  · cases h'
  · cases h'
    exact ⟨hb, cur, hg⟩
theorem set2of3 (A R : List Value) (z0 z1 z2 c0 c1 : Value) (i : Nat) (h : A.length = i) : ((A ++ ([z0, z1, z2] ++ R)).set i c0).set (i + 1) c1 = A ++ ([c0, c1, z2] ++ R) := by
  subst h
  simp [List.set_append_right]
end Go.Proofs.YtdfmdgbolmbffaaGreat
