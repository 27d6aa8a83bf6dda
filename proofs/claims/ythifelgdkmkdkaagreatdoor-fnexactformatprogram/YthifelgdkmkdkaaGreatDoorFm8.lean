import Derived.Test.YthifelgdkmkdkaaGreatDoorFm7
namespace Go.Proofs.YthifelgdkmkdkaaGreatDoor
open Go.ChangeShapes Go.WideShapes Go.ChangeAt Go.RowKit
set_option linter.unusedVariables false
/-- What is left. -/
def szv (left n : Int) : Int := if left - n < 0 then -1 else left - n
set_option maxHeartbeats 1000000 in
theorem szInt64S_any (a : Option Addr) (n c : Nat) (left : Int) (w : World) (hn : n ≤ 9223372036854775807) (h0 : 0 ≤ left) (h1 : left ≤ 1048576) :
    Calls Tryz.prog 33 #[.slice a n c, .int .i64 left] w fun e w' => e = .returned (.int .i64 (szv left n)) ∧ w' = w := by
  by_cases hb : left - n < 0
  · have e : szv left n = -1 := if_pos hb
    rw [e]
    go_enter Tryz.func33, Tryz.ntmps33
    go_wp2
    go_ret
    exact ⟨rfl, rfl⟩
  · have e : szv left n = left - n := if_neg hb
    rw [e]
    go_enter Tryz.func33, Tryz.ntmps33
    go_wp2
    go_ret
    exact ⟨rfl, rfl⟩
set_option maxHeartbeats 1000000 in
theorem szInstrS_any (a : Option Addr) (n c : Nat) (left : Int) (w : World) (hn : n ≤ 9223372036854775807) (h0 : 0 ≤ left) (h1 : left ≤ 1048576) :
    Calls Tryz.prog 59 #[.slice a n c, .int .i64 left] w fun e w' => e = .returned (.int .i64 (szv left n)) ∧ w' = w := by
  by_cases hb : left - n < 0
  · have e : szv left n = -1 := if_pos hb
    rw [e]
    go_enter Tryz.func59, Tryz.ntmps59
    go_wp2
    go_ret
    exact ⟨rfl, rfl⟩
  · have e : szv left n = left - n := if_neg hb
    rw [e]
    go_enter Tryz.func59, Tryz.ntmps59
    go_wp2
    go_ret
    exact ⟨rfl, rfl⟩
set_option maxHeartbeats 1000000 in
theorem szConstS_any (a : Option Addr) (n c : Nat) (left : Int) (w : World) (hn : n ≤ 9223372036854775807) (h0 : 0 ≤ left) (h1 : left ≤ 1048576) :
    Calls Tryz.prog 10 #[.slice a n c, .int .i64 left] w fun e w' => e = .returned (.int .i64 (szv left n)) ∧ w' = w := by
  by_cases hb : left - n < 0
  · have e : szv left n = -1 := if_pos hb
    rw [e]
    go_enter Tryz.func10, Tryz.ntmps10
    go_wp2
    go_ret
    exact ⟨rfl, rfl⟩
  · have e : szv left n = left - n := if_neg hb
    rw [e]
    go_enter Tryz.func10, Tryz.ntmps10
    go_wp2
    go_ret
    exact ⟨rfl, rfl⟩
set_option maxHeartbeats 1000000 in
theorem szCertS_any (a : Option Addr) (n c : Nat) (left : Int) (w : World) (hn : n ≤ 9223372036854775807) (h0 : 0 ≤ left) (h1 : left ≤ 1048576) :
    Calls Tryz.prog 12 #[.slice a n c, .int .i64 left] w fun e w' => e = .returned (.int .i64 (szv left n)) ∧ w' = w := by
  by_cases hb : left - n < 0
  · have e : szv left n = -1 := if_pos hb
    rw [e]
    go_enter Tryz.func12, Tryz.ntmps12
    go_wp2
    go_ret
    exact ⟨rfl, rfl⟩
  · have e : szv left n = left - n := if_neg hb
    rw [e]
    go_enter Tryz.func12, Tryz.ntmps12
    go_wp2
    go_ret
    exact ⟨rfl, rfl⟩
set_option maxHeartbeats 2000000 in
set_option maxRecDepth 100000 in
theorem szInt64SS_any (s : Value) (fs : List (List Int)) (left : Int) (w : World) (hL : fs.length ≤ 9223372036854775807) (hs : ∀ f ∈ fs, f.length ≤ 9223372036854775807) (h : RdR w s fs) (h0 : 0 ≤ left) (h1 : left ≤ 1048576) :
    Calls Tryz.prog 9 #[s, .int .i64 left] w fun e w' => ∃ r : Int, e = .returned (.int .i64 r) ∧ (r = -1 ∨ 0 ≤ r ∧ r ≤ left ∧ (fs.length : Int) ≤ left ∧ ∀ f ∈ fs, (f.length : Int) ≤ left) ∧ w' = w := by
  obtain ⟨xs, hxs, hrd, hel⟩ := h
  have hxl : xs.length = fs.length := by rw [← hxs]; simp
  have H1 : Hid (Rd w 1 s fs.length (xs.flatMap rCells) ∧ xs.map Prod.fst = fs ∧ (∀ x ∈ xs, Rd w 1 x.2 x.1.length (x.1.flatMap intCell)) ∧ (∀ f ∈ fs, f.length ≤ 9223372036854775807) ∧ xs.length = fs.length) := ⟨hrd, hxs, hel, hs, hxl⟩
  obtain ⟨a1, c1, rfl⟩ := hrd.is_slice
  clear hrd hxs hel hs hxl
  generalize hLL : fs.length = n at hL H1 ⊢
  have HL : Hid (fs.length = n) := hLL
  clear hLL
  by_cases hb : left - n < 0
  · go_enter Tryz.func9, Tryz.ntmps9
    go_wp2
    go_ret
    exact ⟨-1, rfl, .inl rfl, rfl⟩
  · go_enter Tryz.func9, Tryz.ntmps9
    go_wp2
    go_loopw [1, 5] (fun l i wr => ∃ (k : Nat) (q : Int), k ≤ n ∧ l = .int .i64 q ∧ i = .int .i64 k ∧ 0 ≤ q ∧ q ≤ left ∧ Hid (∀ f ∈ fs.take k, (f.length : Int) ≤ left) ∧ wr = w) (fun _ i _ => n - (intOf i).toNat)
    case atStart => exact ⟨0, left - n, by omega, rfl, rfl, by omega, by omega, (fun f hf => by simp at hf), rfl⟩
    case round =>
      obtain ⟨k, q, hk, rfl, rfl, q0, q1, HQ, rfl⟩ := hrel
      by_cases hlt : k < n
      · obtain ⟨⟨f, v⟩, hx⟩ : ∃ x, xs[k]? = some x := ⟨_, List.getElem?_eq_getElem (by rw [H1.out.2.2.2.2]; exact hlt)⟩
        have e1 := fst_at H1.out.2.1 hx
        have hv := H1.out.2.2.1 _ (List.mem_of_getElem? hx)
        have hfl := H1.out.2.2.2.1 _ (List.mem_of_getElem? e1)
        simp only [] at hv hfl e1
        obtain ⟨av, cv, rfl⟩ := hv.is_slice
        rcases H1.out.1.2 with ⟨e0, _⟩ | ⟨g, o, c, e2, hc1⟩
        · omega
        · simp only [Value.slice.injEq, true_and] at e2
          obtain ⟨rfl, rfl⟩ := e2
          have i0 := Rd.elem rCells_length hc1 k _ hx 0 _ rfl
          rw [Nat.mul_one, Nat.add_zero] at i0
          simp only [] at i0
          have HE : Hid (fs[k]? = some f) := e1
          clear hc1 hx hv e1
          by_cases hq : q - f.length < 0
          · have hz : szv q f.length = -1 := if_pos hq
            go_wp2_with fail
            refine (szInt64S_any av f.length cv q wr hfl q0 (by omega)).mono ?_
            rw [hz]
            rintro e u ⟨rfl, rfl⟩
            clear hz
            go_wp2
            go_ret
            exact ⟨-1, rfl, .inl rfl, rfl⟩
          · have hz : szv q f.length = q - f.length := if_neg hq
            go_wp2_with fail
            refine (szInt64S_any av f.length cv q wr hfl q0 (by omega)).mono ?_
            rw [hz]
            rintro e u ⟨rfl, rfl⟩
            clear hz
            go_wp2
            go_roundw
            case rel =>
              refine ⟨k + 1, q - f.length, by omega, rfl, by go_num, by omega, by omega, ?_, by trivial⟩
              intro y hy
              obtain ⟨hlt', hf'⟩ := List.getElem?_eq_some_iff.1 HE.out
              rw [List.take_succ_eq_append_getElem hlt', hf'] at hy
              rcases List.mem_append.1 hy with hy | hy
              · exact HQ.out y hy
              · simp only [List.mem_singleton] at hy
                subst hy
                omega
            case measure => simp [intOf]; omega
      · have hkn : k = n := by omega
        subst hkn
        have HA : Hid (∀ f ∈ fs, (f.length : Int) ≤ left) := by
          have := HQ.out
          rw [← HL.out, List.take_length] at this
          exact this
        clear HQ
        go_wp2
        go_ret
        exact ⟨q, rfl, .inr ⟨q0, q1, by omega, HA.out⟩, rfl⟩

def MF.fits (f : MF) : Prop := f.params.length ≤ 9223372036854775807 ∧ f.locals.length ≤ 9223372036854775807 ∧ f.code.length ≤ 9223372036854775807
set_option maxHeartbeats 2000000 in
set_option maxRecDepth 100000 in
theorem szFunc_any (v : VF) (f : MF) (left : Int) (w : World) (hf : f.fits) (h : RdF w v f) (h0 : 0 ≤ left) (h1 : left ≤ 1048576) :
    Calls Tryz.prog 34 #[.agg #[v.p, .int .i64 f.result, v.l, v.c], .int .i64 left] w fun e w' => ∃ r : Int, e = .returned (.int .i64 r) ∧ (r = -1 ∨ 0 ≤ r ∧ r ≤ left ∧ f.small) ∧ Below w.heap.size w w' := by
  obtain ⟨a1, c1, e1⟩ := h.1.is_slice
  obtain ⟨a2, c2, e2⟩ := h.2.1.is_slice
  obtain ⟨a3, c3, e3⟩ := h.2.2.is_slice
  rw [e1, e2, e3]
  clear e1 e2 e3 h
  have hbel : Below w.heap.size w (w.alloc (.cells #[.slice a1 f.params.length c1, .int .i64 f.result, .slice a2 f.locals.length c2, .slice a3 f.code.length c3] 85)) := (Below.refl _ _).alloc (Nat.le_refl _) _
  obtain ⟨f1, f2, f3⟩ := hf
  unfold MF.small
  generalize f.params.length = n1 at f1 hbel
  generalize f.locals.length = n2 at f2 hbel
  generalize f.code.length = n3 at f3 hbel
  have HB : Hid _ := hbel
  clear hbel
  by_cases q1 : left - n1 < 0
  · have z1 : szv left n1 = -1 := if_pos q1
    go_enter Tryz.func34, Tryz.ntmps34
    go_wp2_with fail
    refine (szInt64S_any a1 n1 c1 left _ f1 h0 h1).mono ?_
    rw [z1]
    rintro e u ⟨rfl, rfl⟩
    clear z1
    go_wp2
    go_ret
    exact ⟨-1, rfl, .inl rfl, HB.out⟩
  · have z1 : szv left n1 = left - n1 := if_neg q1
    by_cases q2 : left - n1 - n2 < 0
    · have z2 : szv (left - n1) n2 = -1 := if_pos q2
      go_enter Tryz.func34, Tryz.ntmps34
      go_wp2_with fail
      refine (szInt64S_any a1 n1 c1 left _ f1 h0 h1).mono ?_
      rw [z1]
      rintro e u ⟨rfl, rfl⟩
      go_wp2_with fail
      refine (szInt64S_any a2 n2 c2 (left - n1) _ f2 (by omega) (by omega)).mono ?_
      rw [z2]
      rintro e u ⟨rfl, rfl⟩
      clear z1 z2
      go_wp2
      go_ret
      exact ⟨-1, rfl, .inl rfl, HB.out⟩
    · have z2 : szv (left - n1) n2 = left - n1 - n2 := if_neg q2
      by_cases q3 : left - n1 - n2 - n3 < 0
      · have z3 : szv (left - n1 - n2) n3 = -1 := if_pos q3
        go_enter Tryz.func34, Tryz.ntmps34
        go_wp2_with fail
        refine (szInt64S_any a1 n1 c1 left _ f1 h0 h1).mono ?_
        rw [z1]
        rintro e u ⟨rfl, rfl⟩
        go_wp2_with fail
        refine (szInt64S_any a2 n2 c2 (left - n1) _ f2 (by omega) (by omega)).mono ?_
        rw [z2]
        rintro e u ⟨rfl, rfl⟩
        go_wp2_with fail
        refine (szInstrS_any a3 n3 c3 (left - n1 - n2) _ f3 (by omega) (by omega)).mono ?_
        rw [z3]
        rintro e u ⟨rfl, rfl⟩
        clear z1 z2 z3
        go_wp2
        go_ret
        exact ⟨-1, rfl, .inl rfl, HB.out⟩
      · have z3 : szv (left - n1 - n2) n3 = left - n1 - n2 - n3 := if_neg q3
        go_enter Tryz.func34, Tryz.ntmps34
        go_wp2_with fail
        refine (szInt64S_any a1 n1 c1 left _ f1 h0 h1).mono ?_
        rw [z1]
        rintro e u ⟨rfl, rfl⟩
        go_wp2_with fail
        refine (szInt64S_any a2 n2 c2 (left - n1) _ f2 (by omega) (by omega)).mono ?_
        rw [z2]
        rintro e u ⟨rfl, rfl⟩
        go_wp2_with fail
        refine (szInstrS_any a3 n3 c3 (left - n1 - n2) _ f3 (by omega) (by omega)).mono ?_
        rw [z3]
        rintro e u ⟨rfl, rfl⟩
        clear z1 z2 z3
        go_wp2
        go_ret
        exact ⟨left - n1 - n2 - n3, rfl, .inr ⟨by omega, by omega, by omega, by omega, by omega⟩, HB.out⟩

set_option maxHeartbeats 2000000 in
set_option maxRecDepth 100000 in
theorem szFuncS_any (s : Value) (fs : List MF) (left : Int) (w : World) (hL : fs.length ≤ 9223372036854775807) (hs : ∀ f ∈ fs, f.fits) (h : RdFs w s fs) (h0 : 0 ≤ left) (h1 : left ≤ 1048576) :
    Calls Tryz.prog 11 #[s, .int .i64 left] w fun e w' => ∃ r : Int, e = .returned (.int .i64 r) ∧ (r = -1 ∨ 0 ≤ r ∧ r ≤ left ∧ (fs.length : Int) ≤ left ∧ ∀ f ∈ fs, f.small) ∧ Below w.heap.size w w' := by
  obtain ⟨xs, hxs, hrd, hel⟩ := h
  have hxl : xs.length = fs.length := by rw [← hxs]; simp
  have H1 : Hid (Rd w 4 s fs.length (xs.flatMap fCells) ∧ xs.map Prod.fst = fs ∧ (∀ x ∈ xs, RdF w x.2 x.1) ∧ (∀ f ∈ fs, f.fits) ∧ xs.length = fs.length) := ⟨hrd, hxs, hel, hs, hxl⟩
  obtain ⟨a1, c1, rfl⟩ := hrd.is_slice
  clear hrd hxs hel hs hxl
  generalize hLL : fs.length = n at hL H1 ⊢
  have HL : Hid (fs.length = n) := hLL
  clear hLL
  by_cases hb : left - n < 0
  · go_enter Tryz.func11, Tryz.ntmps11
    go_wp2
    go_ret
    exact ⟨-1, rfl, .inl rfl, Below.refl _ _⟩
  · go_enter Tryz.func11, Tryz.ntmps11
    go_wp2
    go_loopw [1, 5] (fun l i wr => ∃ (k : Nat) (q : Int), k ≤ n ∧ l = .int .i64 q ∧ i = .int .i64 k ∧ 0 ≤ q ∧ q ≤ left ∧ Hid (∀ f ∈ fs.take k, f.small) ∧ Below w.heap.size w wr) (fun _ i _ => n - (intOf i).toNat)
    case atStart => exact ⟨0, left - n, by omega, rfl, rfl, by omega, by omega, (fun f hf => by simp at hf), Below.refl _ _⟩
    case round =>
      obtain ⟨k, q, hk, rfl, rfl, q0, q1, HQ, hbel⟩ := hrel
      have HB : Hid (Below w.heap.size w wr) := hbel
      clear hbel
      by_cases hlt : k < n
      · obtain ⟨⟨f, v⟩, hx⟩ : ∃ x, xs[k]? = some x := ⟨_, List.getElem?_eq_getElem (by rw [H1.out.2.2.2.2]; exact hlt)⟩
        have e1 := fst_at H1.out.2.1 hx
        have hv := H1.out.2.2.1 _ (List.mem_of_getElem? hx)
        have hfl := H1.out.2.2.2.1 _ (List.mem_of_getElem? e1)
        simp only [] at hv hfl e1
        rcases H1.out.1.2 with ⟨e0, _⟩ | ⟨g, o, c, e2, hc1⟩
        · omega
        · simp only [Value.slice.injEq, true_and] at e2
          obtain ⟨rfl, rfl⟩ := e2
          have i0 := Rd.elem fCells_length hc1 k _ hx 0 _ rfl
          have i1 := Rd.elem fCells_length hc1 k _ hx 1 _ rfl
          have i2 := Rd.elem fCells_length hc1 k _ hx 2 _ rfl
          have i3 := Rd.elem fCells_length hc1 k _ hx 3 _ rfl
          rw [← HB.out.cell (block_lt_of_cell i0), Nat.add_zero] at i0
          rw [← HB.out.cell (block_lt_of_cell i1)] at i1
          rw [← HB.out.cell (block_lt_of_cell i2)] at i2
          rw [← HB.out.cell (block_lt_of_cell i3)] at i3
          simp only [] at i0 i1 i2 i3
          have HE : Hid (fs[k]? = some f ∧ RdF wr v f ∧ f.fits) := ⟨e1, hv.keep HB.out (Nat.le_refl _), hfl⟩
          clear hc1 hx hv e1 hfl
          go_wp2_with fail
          refine (szFunc_any v f q wr HE.out.2.2 HE.out.2.1 q0 (by omega)).mono ?_
          rintro e u ⟨r, rfl, hr, hbu⟩
          have HB2 : Hid (Below w.heap.size w u) := HB.out.trans (hbu.mono HB.out.size)
          clear hbu HB i0 i1 i2 i3
          rcases hr with rfl | ⟨r0, r1, hsm⟩
          · go_wp2
            go_ret
            exact ⟨-1, rfl, .inl rfl, HB2.out⟩
          · have HS : Hid f.small := hsm
            clear hsm
            go_wp2
            go_roundw
            case rel =>
              refine ⟨k + 1, r, by omega, rfl, by go_num, by omega, by omega, ?_, HB2.out⟩
              intro y hy
              obtain ⟨hlt', hf'⟩ := List.getElem?_eq_some_iff.1 HE.out.1
              rw [List.take_succ_eq_append_getElem hlt', hf'] at hy
              rcases List.mem_append.1 hy with hy | hy
              · exact HQ.out y hy
              · simp only [List.mem_singleton] at hy
                subst hy
                exact HS.out
            case measure => simp [intOf]; omega
      · have hkn : k = n := by omega
        subst hkn
        have HA : Hid (∀ f ∈ fs, f.small) := by
          have := HQ.out
          rw [← HL.out, List.take_length] at this
          exact this
        clear HQ
        go_wp2
        go_ret
        exact ⟨q, rfl, .inr ⟨q0, q1, by omega, HA.out⟩, HB.out⟩
end Go.Proofs.YthifelgdkmkdkaaGreatDoor
