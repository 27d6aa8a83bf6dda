/- Mem1: lists of words: toUint32S, eqUint32S, szUint32S; a call's blocks of k cells. -/
import Derived.Test.YtadkabiipkngiaaProg12
namespace Go.Proofs.Ytadkabiipkngiaa
open Go.ChangeShapes Go.WideShapes Go.ChangeAt Go.RowKit
set_option linter.unusedVariables false
def wCell (z : Int) : List Value := [.int .u32 z]
theorem wCell_length (z : Int) : (wCell z).length = 1 := rfl
theorem info32 : (Try.prog.info? 102).map (fun i => (i.zero, i.size, i.bytes)) = some (some (.int .u32 0), 1, 4) := by kernel_rfl
set_option maxHeartbeats 1000000 in
set_option maxRecDepth 100000 in
theorem toUint32S_any (s : Value) (L : Nat) (ys : List Int) (w : World) (hL : L ≤ 1048576) (h : Rd w 1 s L (ys.flatMap wCell)) (hlen : ys.length = L) :
    Calls Try.prog 49 #[s] w fun e w' => e = .returned (.slice (some ⟨w.heap.size, 0, none⟩) L L) ∧ w'.ownsRow w.heap.size 102 1 (.slice (some ⟨w.heap.size, 0, none⟩) L L) L (ys.flatMap wCell) ∧ Below w.heap.size w w' := by
  obtain ⟨i0, hi, hz0, hz1, hz2⟩ := info_parts info32
  have H1 : Hid (Rd w 1 s L (ys.flatMap wCell) ∧ ys.length = L) := ⟨h, hlen⟩
  obtain ⟨a1, c1, rfl⟩ := h.is_slice
  clear h hlen
  go_enter Try.func49, Try.ntmps49
  go_wp2_with (at_make; refine wpList_make_full _ rfl _ _ 28 rfl w.heap.size 102 i0 (.int .u32 0) 1 Try.underlying28 hi hz0 hz1 .i64 .i64 _ _ L rfl rfl rfl rfl (by rw [hz2]; omega) (by unfold maxLen; omega) (Nat.le_refl _) ?_; intro w1 hown hgrow)
  rw [flatTo_zero wCell [.int .u32 0] ys L (.int .u32 0) 1 rfl rfl (by omega)] at hown
  have hB : Below w.heap.size w w1 := (Below.refl _ _).grown hgrow (Nat.le_refl _) (fun k hk => by cases hk)
  clear hgrow
  go_loopw [4] (fun i wr => ∃ k : Nat, k ≤ L ∧ i = .int .i64 k ∧ wr.ownsRow w.heap.size 102 1 (.slice (some ⟨w.heap.size, 0, none⟩) L L) L (flatTo wCell [.int .u32 0] ys k L) ∧ Below w.heap.size w wr) (fun i _ => L - (intOf i).toNat)
  case atStart => exact ⟨0, by omega, rfl, hown, hB⟩
  case round =>
    clear hown hB
    obtain ⟨k, hk, rfl, hown, hbel⟩ := hrel
    by_cases hlt : k < L
    · obtain ⟨x, hx⟩ : ∃ x, ys[k]? = some x := ⟨_, List.getElem?_eq_getElem (by rw [H1.out.2]; exact hlt)⟩
      have hnext := flatTo_next wCell [.int .u32 0] ys k L x hx
      rw [flatTo_parts wCell [.int .u32 0] ys k L hlt] at hown
      have hA : ((ys.take k).flatMap wCell).length = k * 1 := by rw [flat_length wCell 1 wCell_length, List.length_take, H1.out.2, Nat.min_eq_left hk]
      generalize (ys.take k).flatMap wCell = A at hown hnext hA
      generalize (List.replicate (L - (k + 1)) [Value.int .u32 0]).flatten = R at hown hnext
      rcases H1.out.1.2 with ⟨e0, _⟩ | ⟨g, o, c, e1, hc1⟩
      · omega
      · simp only [Value.slice.injEq, true_and] at e1
        obtain ⟨rfl, rfl⟩ := e1
        have i0 := Rd.elem wCell_length hc1 k x hx 0 _ rfl
        rw [← hbel.cell (block_lt_of_cell i0)] at i0
        rw [Nat.mul_one, Nat.add_zero] at i0
        have f0 := hown.frozenAt k
        have d0 := hown.cellAt k (by omega)
        rw [Nat.mul_one] at hA
        rw [List.getElem?_append_right (by omega), hA, Nat.sub_self] at d0
        have HO : Hid (wr.ownsRow w.heap.size 102 1 (.slice (some ⟨w.heap.size, 0, none⟩) L L) L (A ++ ([.int .u32 0] ++ R)) ∧ A.length = k ∧ flatTo wCell [.int .u32 0] ys (k + 1) L = A ++ (wCell x ++ R)) := ⟨hown, hA, hnext⟩
        clear hown hA hnext hc1 hx
        simp only [List.cons_append, List.getElem?_cons_zero] at d0
        go_wp2
        go_roundw
        case rel =>
          refine ⟨k + 1, by omega, by go_num, ?_, hbel.setCell (Nat.le_refl _) _⟩
          have hst := (HO.out.1.stored k (.int .u32 x)).1
          rw [set1 A R _ _ k HO.out.2.1] at hst
          rw [HO.out.2.2]
          exact hst
        case measure => simp [intOf]; omega
    · have hkn : k = L := by omega
      subst hkn
      rw [flatTo_all _ _ _ _ H1.out.2] at hown
      have HO : Hid (wr.ownsRow w.heap.size 102 1 (.slice (some ⟨w.heap.size, 0, none⟩) k k) k (ys.flatMap wCell)) := hown
      clear hown
      go_wp2
      go_ret
      exact ⟨rfl, HO.out, hbel⟩
theorem toUint32S_new (s : Value) (ys : List Int) (w : World) (hL : ys.length ≤ 1048576) (h : Rd w 1 s ys.length (ys.flatMap wCell)) :
    Calls Try.prog 49 #[s] w fun e w' => ∃ a c, e = .returned (.slice a ys.length c) ∧ w'.ownsRow w.heap.size 102 1 (.slice a ys.length c) ys.length (ys.flatMap wCell) ∧ Below w.heap.size w w' :=
  (toUint32S_any s ys.length ys w hL h rfl).mono fun e w' h => ⟨_, _, h.1, h.2.1, h.2.2⟩
set_option maxHeartbeats 1000000 in
theorem eqUint32S_quiet (s s' : Value) (ys : List Int) (w : World) (hn : ys.length ≤ 140737488355328) (h : Rd w 1 s ys.length (ys.flatMap wCell)) (h' : Rd w 1 s' ys.length (ys.flatMap wCell)) :
    Calls Try.prog 29 #[s, s'] w fun e w' => e = .returned (.bool true) ∧ ∃ m, w' = w.drewN m := by
  have H1 : Hid (Rd w 1 s ys.length (ys.flatMap wCell)) := h
  have H2 : Hid (Rd w 1 s' ys.length (ys.flatMap wCell)) := h'
  obtain ⟨a1, c1, rfl⟩ := h.is_slice
  obtain ⟨a2, c2, rfl⟩ := h'.is_slice
  clear h h'
  generalize hLL : ys.length = n at hn H1 H2
  have HL : Hid (ys.length = n) := hLL
  clear hLL
  go_enter Try.func29, Try.ntmps29
  go_wp2
  go_loopw [5] (fun i wr => ∃ k : Nat, k ≤ n ∧ i = .int .i64 k ∧ ∃ m, wr = w.drewN m) (fun i _ => n - (intOf i).toNat)
  case atStart => exact ⟨0, by omega, rfl, 0, rfl⟩
  case round =>
    obtain ⟨k, hk, rfl, m, rfl⟩ := hrel
    by_cases hlt : k < n
    · obtain ⟨x, hx⟩ : ∃ x, ys[k]? = some x := ⟨_, List.getElem?_eq_getElem (by rw [HL.out]; exact hlt)⟩
      rcases H1.out.2 with ⟨e0, _⟩ | ⟨g, o, c, e1, hc1⟩
      · omega
      · rcases H2.out.2 with ⟨e0, _⟩ | ⟨g', o', c', e2, hc2⟩
        · omega
        · simp only [Value.slice.injEq, true_and] at e1 e2
          obtain ⟨rfl, rfl⟩ := e1
          obtain ⟨rfl, rfl⟩ := e2
          have i0 := Rd.elem wCell_length hc1 k x hx 0 _ rfl
          have j0 := Rd.elem wCell_length hc2 k x hx 0 _ rfl
          rw [Nat.mul_one, Nat.add_zero] at i0 j0
          clear hc1 hc2 hx
          go_wp2
          go_quiet (fail)
          go_wp2
          go_roundw
          case rel => exact ⟨k + 1, by omega, by go_num, _, rfl⟩
          case measure => simp [intOf]; omega
    · go_wp2
      go_ret
      exact ⟨rfl, _, rfl⟩
theorem eqUint32S_same (s s' : Value) (ys : List Int) (w : World) (hn : ys.length ≤ 140737488355328) (h : Rd w 1 s ys.length (ys.flatMap wCell)) (h' : Rd w 1 s' ys.length (ys.flatMap wCell)) :
    Calls Try.prog 29 #[s, s'] w fun e w' => e = .returned (.bool true) ∧ Below w.heap.size w w' :=
  (eqUint32S_quiet s s' ys w hn h h').mono fun e w' ⟨h1, m, h2⟩ => ⟨h1, h2 ▸ below_drewN _ _ _⟩
set_option maxHeartbeats 1000000 in
theorem szUint32S_any (a : Option Addr) (n c : Nat) (left : Int) (w : World) (hn : n ≤ 9223372036854775807) (h0 : 0 ≤ left) (h1 : left ≤ 1048576) :
    Calls Try.prog 42 #[.slice a n c, .int .i64 left] w fun e w' => e = .returned (.int .i64 (szv left n)) ∧ w' = w := by
  by_cases hb : left - n < 0
  · have e : szv left n = -1 := if_pos hb
    rw [e]
    go_enter Try.func42, Try.ntmps42
    go_wp2
    go_ret
    exact ⟨rfl, rfl⟩
  · have e : szv left n = left - n := if_neg hb
    rw [e]
    go_enter Try.func42, Try.ntmps42
    go_wp2
    go_ret
    exact ⟨rfl, rfl⟩
/-- A call's three blocks of k cells: the argument, the result, the local. -/
structure FrK (k : Nat) (w u : World) (tp tr : TypeId) (p r o : List Value) : Prop where
  par : u.ownsRow w.heap.size tp k (.slice (some ⟨w.heap.size, 0, none⟩) 1 1) 1 p
  res : u.ownsRow w.heap.size tr k (.slice (some ⟨w.heap.size + 1, 0, none⟩) 1 1) 1 r
  loc : u.ownsRow w.heap.size tr k (.slice (some ⟨w.heap.size + 1 + 1, 0, none⟩) 1 1) 1 o
  bel : Below w.heap.size w u
  siz : w.heap.size + 3 ≤ u.heap.size
theorem FrK.of (k : Nat) (w : World) (tp tr : TypeId) (p r o : Array Value) (hp : p.size = k) (hr : r.size = k) (ho : o.size = k) :
    FrK k w (((w.alloc (.cells p tp)).alloc (.cells r tr)).alloc (.cells o tr)) tp tr p.toList r.toList o.toList := by
  have b1 : Below w.heap.size w (w.alloc (.cells p tp)) := (Below.refl _ _).alloc (Nat.le_refl _) _
  have c2 : Below (w.alloc (.cells p tp)).heap.size (w.alloc (.cells p tp)) ((w.alloc (.cells p tp)).alloc (.cells r tr)) := (Below.refl _ _).alloc (Nat.le_refl _) _
  have c3 : Below ((w.alloc (.cells p tp)).alloc (.cells r tr)).heap.size ((w.alloc (.cells p tp)).alloc (.cells r tr)) (((w.alloc (.cells p tp)).alloc (.cells r tr)).alloc (.cells o tr)) := (Below.refl _ _).alloc (Nat.le_refl _) _
  have r1 := World.ownsRow_lit (base := w.heap.size) (e := tp) (size := k) w p 1 (Nat.le_refl _) (by unfold maxLen; omega) (by omega)
  have r2 := World.ownsRow_lit (base := w.heap.size) (e := tr) (size := k) (w.alloc (.cells p tp)) r 1 (by simp) (by unfold maxLen; omega) (by omega)
  have r3 := World.ownsRow_lit (base := w.heap.size) (e := tr) (size := k) ((w.alloc (.cells p tp)).alloc (.cells r tr)) o 1 (by simp <;> omega) (by unfold maxLen; omega) (by omega)
  refine ⟨own_keep (own_keep r1 c2 (Nat.le_refl _)) c3 (Nat.le_refl _), ?_, ?_, (b1.trans (c2.mono (by simp))).trans (c3.mono (by simp <;> omega)), by simp <;> omega⟩
  · have := own_keep r2 c3 (Nat.le_refl _)
    simpa using this
  · simpa using r3
theorem FrK.keep {k : Nat} {w u u' : World} {tp tr : TypeId} {p r o : List Value} (h : FrK k w u tp tr p r o) (hb : Below u.heap.size u u') : FrK k w u' tp tr p r o :=
  ⟨own_keep h.par hb (Nat.le_refl _), own_keep h.res hb (Nat.le_refl _), own_keep h.loc hb (Nat.le_refl _), h.bel.trans (hb.mono (by have := h.siz; omega)), Nat.le_trans h.siz hb.size⟩
theorem FrK.set {k : Nat} {w u : World} {tp tr : TypeId} {p r o : List Value} (h : FrK k w u tp tr p r o) (j : Nat) (x : Value) : FrK k w (u.setCell ⟨w.heap.size + 1 + 1, j, none⟩ x) tp tr p r (o.set j x) :=
  ⟨ownsRow_setCell_other h.par (by simp [Value.ownBlock] <;> omega) x, ownsRow_setCell_other h.res (by simp [Value.ownBlock]) x, (h.loc.stored j x).1, h.bel.setCell (by simp <;> omega) x, by have := h.siz; simpa using this⟩
theorem FrK.set' {k : Nat} {w u : World} {tp tr : TypeId} {p r o : List Value} (h : FrK k w u tp tr p r o) (j : Nat) (x : Value) : FrK k w (u.setCell ⟨w.heap.size + 1, j, none⟩ x) tp tr p (r.set j x) o :=
  ⟨ownsRow_setCell_other h.par (by simp [Value.ownBlock] <;> omega) x, (h.res.stored j x).1, ownsRow_setCell_other h.loc (by simp [Value.ownBlock]) x, h.bel.setCell (by simp) x, by have := h.siz; simpa using this⟩
end Go.Proofs.Ytadkabiipkngiaa
