/- Mem1, Mem2 -/
import Derived.Test.YtkpajiahpmdobaaGreatMProg12
/- Mem1: lists of words: toUint32S, eqUint32S, szUint32S; a call's blocks of k cells. -/
namespace Go.Proofs.YtkpajiahpmdobaaGreat
open Go.ChangeShapes Go.WideShapes Go.ChangeAt Go.RowKit
set_option linter.unusedVariables false
def wCell (z : Int) : List Value := [.int .u32 z]
theorem wCell_length (z : Int) : (wCell z).length = 1 := rfl
theorem info32 : (Tryz.prog.info? 99).map (fun i => (i.zero, i.size, i.bytes)) = some (some (.int .u32 0), 1, 4) := by kernel_rfl
set_option maxHeartbeats 1000000 in
set_option maxRecDepth 100000 in
theorem toUint32S_any (s : Value) (L : Nat) (ys : List Int) (w : World) (hL : L ≤ 1048576) (h : Rd w 1 s L (ys.flatMap wCell)) (hlen : ys.length = L) :
    Calls Tryz.prog 29 #[s] w fun e w' => e = .returned (.slice (some ⟨w.heap.size, 0, none⟩) L L) ∧ w'.ownsRow w.heap.size 99 1 (.slice (some ⟨w.heap.size, 0, none⟩) L L) L (ys.flatMap wCell) ∧ Below w.heap.size w w' := by
  obtain ⟨i0, hi, hz0, hz1, hz2⟩ := info_parts info32
  have H1 : Hid (Rd w 1 s L (ys.flatMap wCell) ∧ ys.length = L) := ⟨h, hlen⟩
  obtain ⟨a1, c1, rfl⟩ := h.is_slice
  clear h hlen
  go_enter Tryz.func29, Tryz.ntmps29
  go_wp2_with (at_make; refine wpList_make_full _ rfl _ _ 28 rfl w.heap.size 99 i0 (.int .u32 0) 1 Tryz.underlying28 hi hz0 hz1 .i64 .i64 _ _ L rfl rfl rfl rfl (by rw [hz2]; omega) (by unfold maxLen; omega) (Nat.le_refl _) ?_; intro w1 hown hgrow)
  rw [flatTo_zero wCell [.int .u32 0] ys L (.int .u32 0) 1 rfl rfl (by omega)] at hown
  have hB : Below w.heap.size w w1 := (Below.refl _ _).grown hgrow (Nat.le_refl _) (fun k hk => by cases hk)
  clear hgrow
  go_loopw [4] (fun i wr => ∃ k : Nat, k ≤ L ∧ i = .int .i64 k ∧ wr.ownsRow w.heap.size 99 1 (.slice (some ⟨w.heap.size, 0, none⟩) L L) L (flatTo wCell [.int .u32 0] ys k L) ∧ Below w.heap.size w wr) (fun i _ => L - (intOf i).toNat)
  case atStart => exact ⟨0, by omega, rfl, hown, hB⟩
  case round =>
    clear hown hB
    obtain ⟨k, hk, rfl, hown, hbel⟩ := hrel
    by_cases hlt : k < L
    · obtain ⟨x, hx⟩ : ∃ x, ys[k]? = some x := ⟨_, List.getElem?_eq_getElem (by rw [H1.out.2]; exact hlt)⟩
      have hnext := flatTo_next wCell [.int .u32 0] ys k L x hx
      rw [flatTo_parts wCell [.int .u32 0] ys k L hlt] at hown
      have hA : ((ys.take k).flatMap wCell).length = k * 1 := by rw [flat_length wCell 1 wCell_length, List.length_take, H1.out.2, Nat.min_eq_left hk]
      generalize (ys.take k).flatMap wCell = A at hown hnext hA
      generalize (List.replicate (L - (k + 1)) [Value.int .u32 0]).flatten = R at hown hnext
      rcases H1.out.1.2 with ⟨e0, _⟩ | ⟨g, o, c, e1, hc1⟩
      · omega
      · simp only [Value.slice.injEq, true_and] at e1
        obtain ⟨rfl, rfl⟩ := e1
        have i0 := Rd.elem wCell_length hc1 k x hx 0 _ rfl
        rw [← hbel.cell (block_lt_of_cell i0)] at i0
        rw [Nat.mul_one, Nat.add_zero] at i0
        have f0 := hown.frozenAt k
        have d0 := hown.cellAt k (by omega)
        rw [Nat.mul_one] at hA
        rw [List.getElem?_append_right (by omega), hA, Nat.sub_self] at d0
        have HO : Hid (wr.ownsRow w.heap.size 99 1 (.slice (some ⟨w.heap.size, 0, none⟩) L L) L (A ++ ([.int .u32 0] ++ R)) ∧ A.length = k ∧ flatTo wCell [.int .u32 0] ys (k + 1) L = A ++ (wCell x ++ R)) := ⟨hown, hA, hnext⟩
        clear hown hA hnext hc1 hx
        simp only [List.cons_append, List.getElem?_cons_zero] at d0
        go_wp2
        go_roundw
        case rel =>
          refine ⟨k + 1, by omega, by go_num, ?_, hbel.setCell (Nat.le_refl _) _⟩
          have hst := (HO.out.1.stored k (.int .u32 x)).1
          rw [set1 A R _ _ k HO.out.2.1] at hst
          rw [HO.out.2.2]
          exact hst
        case measure => simp [intOf]; omega
    · have hkn : k = L := by omega
      subst hkn
      rw [flatTo_all _ _ _ _ H1.out.2] at hown
      have HO : Hid (wr.ownsRow w.heap.size 99 1 (.slice (some ⟨w.heap.size, 0, none⟩) k k) k (ys.flatMap wCell)) := hown
      clear hown
      go_wp2
      go_ret
      exact ⟨rfl, HO.out, hbel⟩
theorem toUint32S_new (s : Value) (ys : List Int) (w : World) (hL : ys.length ≤ 1048576) (h : Rd w 1 s ys.length (ys.flatMap wCell)) :
    Calls Tryz.prog 29 #[s] w fun e w' => ∃ a c, e = .returned (.slice a ys.length c) ∧ w'.ownsRow w.heap.size 99 1 (.slice a ys.length c) ys.length (ys.flatMap wCell) ∧ Below w.heap.size w w' :=
  (toUint32S_any s ys.length ys w hL h rfl).mono fun e w' h => ⟨_, _, h.1, h.2.1, h.2.2⟩
set_option maxHeartbeats 1000000 in
theorem eqUint32S_quiet (s s' : Value) (ys : List Int) (w : World) (hn : ys.length ≤ 140737488355328) (h : Rd w 1 s ys.length (ys.flatMap wCell)) (h' : Rd w 1 s' ys.length (ys.flatMap wCell)) :
    Calls Tryz.prog 42 #[s, s'] w fun e w' => e = .returned (.bool true) ∧ ∃ m, w' = w.drewN m := by
  have H1 : Hid (Rd w 1 s ys.length (ys.flatMap wCell)) := h
  have H2 : Hid (Rd w 1 s' ys.length (ys.flatMap wCell)) := h'
  obtain ⟨a1, c1, rfl⟩ := h.is_slice
  obtain ⟨a2, c2, rfl⟩ := h'.is_slice
  clear h h'
  generalize hLL : ys.length = n at hn H1 H2
  have HL : Hid (ys.length = n) := hLL
  clear hLL
  go_enter Tryz.func42, Tryz.ntmps42
  go_wp2
  go_loopw [5] (fun i wr => ∃ k : Nat, k ≤ n ∧ i = .int .i64 k ∧ ∃ m, wr = w.drewN m) (fun i _ => n - (intOf i).toNat)
  case atStart => exact ⟨0, by omega, rfl, 0, rfl⟩
  case round =>
    obtain ⟨k, hk, rfl, m, rfl⟩ := hrel
    by_cases hlt : k < n
    · obtain ⟨x, hx⟩ : ∃ x, ys[k]? = some x := ⟨_, List.getElem?_eq_getElem (by rw [HL.out]; exact hlt)⟩
      rcases H1.out.2 with ⟨e0, _⟩ | ⟨g, o, c, e1, hc1⟩
      · omega
      · rcases H2.out.2 with ⟨e0, _⟩ | ⟨g', o', c', e2, hc2⟩
        · omega
        · simp only [Value.slice.injEq, true_and] at e1 e2
          obtain ⟨rfl, rfl⟩ := e1
          obtain ⟨rfl, rfl⟩ := e2
          have i0 := Rd.elem wCell_length hc1 k x hx 0 _ rfl
          have j0 := Rd.elem wCell_length hc2 k x hx 0 _ rfl
          rw [Nat.mul_one, Nat.add_zero] at i0 j0
          clear hc1 hc2 hx
          go_wp2
          go_quiet (fail)
          go_wp2
          go_roundw
          case rel => exact ⟨k + 1, by omega, by go_num, _, rfl⟩
          case measure => simp [intOf]; omega
    · go_wp2
      go_ret
      exact ⟨rfl, _, rfl⟩
theorem eqUint32S_same (s s' : Value) (ys : List Int) (w : World) (hn : ys.length ≤ 140737488355328) (h : Rd w 1 s ys.length (ys.flatMap wCell)) (h' : Rd w 1 s' ys.length (ys.flatMap wCell)) :
    Calls Tryz.prog 42 #[s, s'] w fun e w' => e = .returned (.bool true) ∧ Below w.heap.size w w' :=
  (eqUint32S_quiet s s' ys w hn h h').mono fun e w' ⟨h1, m, h2⟩ => ⟨h1, h2 ▸ below_drewN _ _ _⟩
set_option maxHeartbeats 1000000 in
theorem szUint32S_any (a : Option Addr) (n c : Nat) (left : Int) (w : World) (hn : n ≤ 9223372036854775807) (h0 : 0 ≤ left) (h1 : left ≤ 1048576) :
    Calls Tryz.prog 21 #[.slice a n c, .int .i64 left] w fun e w' => e = .returned (.int .i64 (szv left n)) ∧ w' = w := by
  by_cases hb : left - n < 0
  · have e : szv left n = -1 := if_pos hb
    rw [e]
    go_enter Tryz.func21, Tryz.ntmps21
    go_wp2
    go_ret
    exact ⟨rfl, rfl⟩
  · have e : szv left n = left - n := if_neg hb
    rw [e]
    go_enter Tryz.func21, Tryz.ntmps21
    go_wp2
    go_ret
    exact ⟨rfl, rfl⟩
/-- A call's three blocks of k cells: the argument, the result, the local. -/
structure FrK (k : Nat) (w u : World) (tp tr : TypeId) (p r o : List Value) : Prop where
  par : u.ownsRow w.heap.size tp k (.slice (some ⟨w.heap.size, 0, none⟩) 1 1) 1 p
  res : u.ownsRow w.heap.size tr k (.slice (some ⟨w.heap.size + 1, 0, none⟩) 1 1) 1 r
  loc : u.ownsRow w.heap.size tr k (.slice (some ⟨w.heap.size + 1 + 1, 0, none⟩) 1 1) 1 o
  bel : Below w.heap.size w u
  siz : w.heap.size + 3 ≤ u.heap.size
theorem FrK.of (k : Nat) (w : World) (tp tr : TypeId) (p r o : Array Value) (hp : p.size = k) (hr : r.size = k) (ho : o.size = k) :
    FrK k w (((w.alloc (.cells p tp)).alloc (.cells r tr)).alloc (.cells o tr)) tp tr p.toList r.toList o.toList := by
  have b1 : Below w.heap.size w (w.alloc (.cells p tp)) := (Below.refl _ _).alloc (Nat.le_refl _) _
  have c2 : Below (w.alloc (.cells p tp)).heap.size (w.alloc (.cells p tp)) ((w.alloc (.cells p tp)).alloc (.cells r tr)) := (Below.refl _ _).alloc (Nat.le_refl _) _
  have c3 : Below ((w.alloc (.cells p tp)).alloc (.cells r tr)).heap.size ((w.alloc (.cells p tp)).alloc (.cells r tr)) (((w.alloc (.cells p tp)).alloc (.cells r tr)).alloc (.cells o tr)) := (Below.refl _ _).alloc (Nat.le_refl _) _
  have r1 := World.ownsRow_lit (base := w.heap.size) (e := tp) (size := k) w p 1 (Nat.le_refl _) (by unfold maxLen; omega) (by omega)
  have r2 := World.ownsRow_lit (base := w.heap.size) (e := tr) (size := k) (w.alloc (.cells p tp)) r 1 (by simp) (by unfold maxLen; omega) (by omega)
  have r3 := World.ownsRow_lit (base := w.heap.size) (e := tr) (size := k) ((w.alloc (.cells p tp)).alloc (.cells r tr)) o 1 (by simp <;> omega) (by unfold maxLen; omega) (by omega)
  refine ⟨own_keep (own_keep r1 c2 (Nat.le_refl _)) c3 (Nat.le_refl _), ?_, ?_, (b1.trans (c2.mono (by simp))).trans (c3.mono (by simp <;> omega)), by simp <;> omega⟩
  · have := own_keep r2 c3 (Nat.le_refl _)
    simpa using this
  · simpa using r3
theorem FrK.keep {k : Nat} {w u u' : World} {tp tr : TypeId} {p r o : List Value} (h : FrK k w u tp tr p r o) (hb : Below u.heap.size u u') : FrK k w u' tp tr p r o :=
  ⟨own_keep h.par hb (Nat.le_refl _), own_keep h.res hb (Nat.le_refl _), own_keep h.loc hb (Nat.le_refl _), h.bel.trans (hb.mono (by have := h.siz; omega)), Nat.le_trans h.siz hb.size⟩
theorem FrK.set {k : Nat} {w u : World} {tp tr : TypeId} {p r o : List Value} (h : FrK k w u tp tr p r o) (j : Nat) (x : Value) : FrK k w (u.setCell ⟨w.heap.size + 1 + 1, j, none⟩ x) tp tr p r (o.set j x) :=
  ⟨ownsRow_setCell_other h.par (by simp [Value.ownBlock] <;> omega) x, ownsRow_setCell_other h.res (by simp [Value.ownBlock]) x, (h.loc.stored j x).1, h.bel.setCell (by simp <;> omega) x, by have := h.siz; simpa using this⟩
theorem FrK.set' {k : Nat} {w u : World} {tp tr : TypeId} {p r o : List Value} (h : FrK k w u tp tr p r o) (j : Nat) (x : Value) : FrK k w (u.setCell ⟨w.heap.size + 1, j, none⟩ x) tp tr p (r.set j x) o :=
  ⟨ownsRow_setCell_other h.par (by simp [Value.ownBlock] <;> omega) x, (h.res.stored j x).1, ownsRow_setCell_other h.loc (by simp [Value.ownBlock]) x, h.bel.setCell (by simp) x, by have := h.siz; simpa using this⟩
end Go.Proofs.YtkpajiahpmdobaaGreat
/- Mem2: a memory: toMemory, eqMemory, szMemory, one that came in. -/
namespace Go.Proofs.YtkpajiahpmdobaaGreat
open Go.ChangeShapes Go.WideShapes Go.ChangeAt Go.RowKit
set_option linter.unusedVariables false
/-- A memory. -/
structure MM where
  ins : List Int
  outs : List Int
  keeps : List Int
/-- Its three lists, as values. -/
structure VM where
  i : Value
  o : Value
  k : Value
structure RdM (w : World) (v : VM) (m : MM) : Prop where
  ins : Rd w 1 v.i m.ins.length (m.ins.flatMap wCell)
  outs : Rd w 1 v.o m.outs.length (m.outs.flatMap wCell)
  keeps : Rd w 1 v.k m.keeps.length (m.keeps.flatMap wCell)
structure OwnM (w : World) (base : Nat) (v : VM) (m : MM) : Prop where
  ins : w.ownsRow base 99 1 v.i m.ins.length (m.ins.flatMap wCell)
  outs : w.ownsRow base 99 1 v.o m.outs.length (m.outs.flatMap wCell)
  keeps : w.ownsRow base 99 1 v.k m.keeps.length (m.keeps.flatMap wCell)
structure MM.small (m : MM) : Prop where
  ins : m.ins.length ≤ 1048576
  outs : m.outs.length ≤ 1048576
  keeps : m.keeps.length ≤ 1048576
structure MM.fits (m : MM) : Prop where
  ins : m.ins.length ≤ 9223372036854775807
  outs : m.outs.length ≤ 9223372036854775807
  keeps : m.keeps.length ≤ 9223372036854775807
structure MM.wf (m : MM) : Prop where
  ins : ∀ z ∈ m.ins, W32 z
  outs : ∀ z ∈ m.outs, W32 z
  keeps : ∀ z ∈ m.keeps, W32 z
theorem OwnM.rd {w : World} {base : Nat} {v : VM} {m : MM} (h : OwnM w base v m) : RdM w v m := ⟨Rd.of_own h.ins, Rd.of_own h.outs, Rd.of_own h.keeps⟩
theorem RdM.keep {w w' : World} {v : VM} {m : MM} (h : RdM w v m) {B : Nat} (hb : Below B w w') (hB : w.heap.size ≤ B) : RdM w' v m := ⟨h.ins.keep hb hB, h.outs.keep hb hB, h.keeps.keep hb hB⟩
theorem OwnM.keep {w w' : World} {base : Nat} {v : VM} {m : MM} (h : OwnM w base v m) {B : Nat} (hb : Below B w w') (hB : w.heap.size ≤ B) : OwnM w' base v m := ⟨own_keep h.ins hb hB, own_keep h.outs hb hB, own_keep h.keeps hb hB⟩
theorem OwnM.base {w : World} {base base' : Nat} {v : VM} {m : MM} (h : OwnM w base v m) (hb : base' ≤ base) : OwnM w base' v m := ⟨own_base h.ins hb, own_base h.outs hb, own_base h.keeps hb⟩
theorem OwnM.below {w : World} {base : Nat} {v : VM} {m : MM} (h : OwnM w base v m) {a : Addr} (ha : a.block < base) (u : Value) : OwnM (w.setCell a u) base v m := ⟨ownsRow_setCell_below h.ins ha u, ownsRow_setCell_below h.outs ha u, ownsRow_setCell_below h.keeps ha u⟩
/-- A block of three cells. -/
theorem row3 {w : World} {base : Nat} {e : TypeId} {g : Nat} {a b c : Value} (h : w.ownsRow base e 3 (.slice (some ⟨g, 0, none⟩) 1 1) 1 [a, b, c]) :
    w.cell? ⟨g, 0, none⟩ = some a ∧ w.cell? ⟨g, 1, none⟩ = some b ∧ w.cell? ⟨g, 2, none⟩ = some c ∧ w.frozen? ⟨g, 0, none⟩ = false ∧ w.frozen? ⟨g, 1, none⟩ = false ∧ w.frozen? ⟨g, 2, none⟩ = false :=
  ⟨h.cellAt 0 (by omega), h.cellAt 1 (by omega), h.cellAt 2 (by omega), h.frozenAt 0, h.frozenAt 1, h.frozenAt 2⟩
set_option maxHeartbeats 4000000 in
set_option maxRecDepth 100000 in
theorem toMemory_any (v : VM) (m : MM) (w : World) (hs : m.small) (h : RdM w v m) :
    Calls Tryz.prog 8 #[.agg #[v.i, v.o, v.k]] w fun e w' => ∃ a1 c1 a2 c2 a3 c3, e = .returned (.agg #[.slice a1 m.ins.length c1, .slice a2 m.outs.length c2, .slice a3 m.keeps.length c3]) ∧ OwnM w' w.heap.size ⟨.slice a1 m.ins.length c1, .slice a2 m.outs.length c2, .slice a3 m.keeps.length c3⟩ m ∧ Below w.heap.size w w' := by
  have F0 := FrK.of 3 w 30 45 #[v.i, v.o, v.k] #[.slice none 0 0, .slice none 0 0, .slice none 0 0] #[.slice none 0 0, .slice none 0 0, .slice none 0 0] rfl rfl rfl
  go_enter Tryz.func8, Tryz.ntmps8
  go_wp2_with fail
  refine (toUint32S_new v.i m.ins _ hs.ins (h.ins.keep F0.bel (Nat.le_refl _))).mono ?_
  rintro e u1 ⟨a1, c1, rfl, own1, b1⟩
  have O1 : Hid (u1.ownsRow (w.heap.size + 3) 99 1 (.slice a1 m.ins.length c1) m.ins.length (m.ins.flatMap wCell)) := own_base own1 F0.siz
  have F1 := F0.keep b1
  clear own1 b1 F0
  obtain ⟨p0, p1, p2, _⟩ := row3 F1.par
  obtain ⟨o0, o1, o2, z0, z1, z2⟩ := row3 F1.loc
  go_wp2_with fail
  have F2 := F1.set 0 (.slice a1 m.ins.length c1)
  have O2 : Hid _ := own_set (w := w) O1.out (w.heap.size + 1 + 1) 0 (by omega) (.slice a1 m.ins.length c1)
  clear O1 F1 p0 p1 p2 o0 o1 o2 z0 z1 z2
  simp only [List.set_cons_zero] at F2
  refine (toUint32S_new v.o m.outs _ hs.outs (h.outs.keep F2.bel (Nat.le_refl _))).mono ?_
  rintro e u2 ⟨a2, c2, rfl, own2, b2⟩
  have O3 : Hid (u2.ownsRow (w.heap.size + 3) 99 1 (.slice a1 m.ins.length c1) m.ins.length (m.ins.flatMap wCell) ∧ u2.ownsRow (w.heap.size + 3) 99 1 (.slice a2 m.outs.length c2) m.outs.length (m.outs.flatMap wCell)) := ⟨own_keep O2.out b2 (Nat.le_refl _), own_base own2 F2.siz⟩
  have F3 := F2.keep b2
  clear own2 b2 F2 O2
  obtain ⟨p0, p1, p2, _⟩ := row3 F3.par
  obtain ⟨o0, o1, o2, z0, z1, z2⟩ := row3 F3.loc
  go_wp2_with fail
  have F4 := F3.set 1 (.slice a2 m.outs.length c2)
  have O4 : Hid _ := And.intro (own_set (w := w) O3.out.1 (w.heap.size + 1 + 1) 1 (by omega) (.slice a2 m.outs.length c2)) (own_set (w := w) O3.out.2 (w.heap.size + 1 + 1) 1 (by omega) (.slice a2 m.outs.length c2))
  clear O3 F3 p0 p1 p2 o0 o1 o2 z0 z1 z2
  simp only [List.set_cons_zero, List.set_cons_succ] at F4
  refine (toUint32S_new v.k m.keeps _ hs.keeps (h.keeps.keep F4.bel (Nat.le_refl _))).mono ?_
  rintro e u3 ⟨a3, c3, rfl, own3, b3⟩
  have O5 : Hid (OwnM u3 (w.heap.size + 3) ⟨.slice a1 m.ins.length c1, .slice a2 m.outs.length c2, .slice a3 m.keeps.length c3⟩ m) := ⟨own_keep O4.out.1 b3 (Nat.le_refl _), own_keep O4.out.2 b3 (Nat.le_refl _), own_base own3 F4.siz⟩
  have F5 := F4.keep b3
  clear own3 b3 F4 O4
  obtain ⟨p0, p1, p2, _⟩ := row3 F5.par
  obtain ⟨o0, o1, o2, z0, z1, z2⟩ := row3 F5.loc
  obtain ⟨q0, q1, q2, y0, y1, y2⟩ := row3 F5.res
  go_wp2_with fail
  clear p0 p1 p2 o0 o1 o2 z0 z1 z2 q0 q1 q2 y0 y1 y2
  have F6 := (((F5.set 2 (.slice a3 m.keeps.length c3)).set' 0 (.slice a1 m.ins.length c1)).set' 1 (.slice a2 m.outs.length c2)).set' 2 (.slice a3 m.keeps.length c3)
  simp only [List.set_cons_zero, List.set_cons_succ] at F6
  obtain ⟨q0, q1, q2, _⟩ := row3 F6.res
  have hall := (((O5.out.below (a := ⟨w.heap.size + 1 + 1, 2, none⟩) (by simp) (.slice a3 m.keeps.length c3)).below (a := ⟨w.heap.size + 1, 0, none⟩) (by simp <;> omega) (.slice a1 m.ins.length c1)).below (a := ⟨w.heap.size + 1, 1, none⟩) (by simp <;> omega) (.slice a2 m.outs.length c2)).below (a := ⟨w.heap.size + 1, 2, none⟩) (by simp <;> omega) (.slice a3 m.keeps.length c3)
  exact bodyPost_ret (v := .agg #[.slice a1 m.ins.length c1, .slice a2 m.outs.length c2, .slice a3 m.keeps.length c3]) (by simp [results, Tryz.results8, go_sem, q0, q1, q2]) rfl ⟨a1, c1, a2, c2, a3, c3, rfl, hall.base (by omega), F6.bel⟩
set_option maxHeartbeats 2000000 in
set_option maxRecDepth 100000 in
theorem eqMemory_same (v v' : VM) (m : MM) (w : World) (hs : m.small) (h : RdM w v m) (h' : RdM w v' m) :
    Calls Tryz.prog 12 #[.agg #[v.i, v.o, v.k], .agg #[v'.i, v'.o, v'.k]] w fun e w' => e = .returned (.bool true) ∧ Below w.heap.size w w' := by
  have HB0 : Hid (Below w.heap.size w ((w.alloc (.cells #[v.i, v.o, v.k] 45)).alloc (.cells #[v'.i, v'.o, v'.k] 45))) := ((Below.refl _ _).alloc (Nat.le_refl _) _).alloc (by simp) _
  go_enter Tryz.func12, Tryz.ntmps12
  go_wp2_with fail
  refine (eqUint32S_quiet v.i v'.i m.ins _ (Nat.le_trans hs.ins (by omega)) (h.ins.keep HB0.out (Nat.le_refl _)) (h'.ins.keep HB0.out (Nat.le_refl _))).mono ?_
  rintro e u1 ⟨rfl, n1, rfl⟩
  have HB1 : Hid _ := HB0.out.trans (below_drewN _ _ n1)
  go_wp2_with fail
  refine (eqUint32S_quiet v.o v'.o m.outs _ (Nat.le_trans hs.outs (by omega)) (h.outs.keep HB1.out (Nat.le_refl _)) (h'.outs.keep HB1.out (Nat.le_refl _))).mono ?_
  rintro e u1 ⟨rfl, n2, rfl⟩
  have HB2 : Hid _ := HB0.out.trans (below_drewN _ _ (n1 + n2))
  go_wp2_with fail
  refine (eqUint32S_quiet v.k v'.k m.keeps _ (Nat.le_trans hs.keeps (by omega)) (h.keeps.keep HB2.out (Nat.le_refl _)) (h'.keeps.keep HB2.out (Nat.le_refl _))).mono ?_
  rintro e u1 ⟨rfl, n3, rfl⟩
  have HB3 : Hid _ := HB0.out.trans (below_drewN _ _ (n1 + n2 + n3))
  go_wp2
  go_ret
  exact ⟨rfl, HB3.out⟩
set_option maxHeartbeats 2000000 in
set_option maxRecDepth 100000 in
theorem szMemory_any (v : VM) (m : MM) (left : Int) (w : World) (hf : m.fits) (h : RdM w v m) (h0 : 0 ≤ left) (h1 : left ≤ 1048576) :
    Calls Tryz.prog 5 #[.agg #[v.i, v.o, v.k], .int .i64 left] w fun e w' => ∃ r : Int, e = .returned (.int .i64 r) ∧ (r = -1 ∨ 0 ≤ r ∧ r ≤ left ∧ m.small) ∧ Below w.heap.size w w' := by
  obtain ⟨a1, c1, e1⟩ := h.ins.is_slice
  obtain ⟨a2, c2, e2⟩ := h.outs.is_slice
  obtain ⟨a3, c3, e3⟩ := h.keeps.is_slice
  obtain ⟨vi, vo, vk⟩ := v
  simp only [] at e1 e2 e3
  subst e1 e2 e3
  have HB0 : Hid (Below w.heap.size w (w.alloc (.cells #[.slice a1 m.ins.length c1, .slice a2 m.outs.length c2, .slice a3 m.keeps.length c3] 30))) := (Below.refl _ _).alloc (Nat.le_refl _) _
  have HF : Hid m.fits := hf
  clear hf h
  go_enter Tryz.func5, Tryz.ntmps5
  go_wp2_with fail
  refine (szUint32S_any a1 m.ins.length c1 left _ HF.out.ins h0 h1).mono ?_
  rintro e u2 ⟨rfl, rfl⟩
  have hz := szv_cases (n := m.ins.length) h0 h1
  generalize szv left m.ins.length = r1 at hz
  rcases hz with rfl | ⟨r10, r11, r12⟩
  · go_wp2
    go_ret
    exact ⟨-1, rfl, .inl rfl, HB0.out⟩
  go_wp2_with fail
  refine (szUint32S_any a2 m.outs.length c2 r1 _ HF.out.outs r10 (by omega)).mono ?_
  rintro e u2 ⟨rfl, rfl⟩
  have hz := szv_cases (n := m.outs.length) r10 (by omega)
  generalize szv r1 m.outs.length = r2 at hz
  rcases hz with rfl | ⟨r20, r21, r22⟩
  · go_wp2
    go_ret
    exact ⟨-1, rfl, .inl rfl, HB0.out⟩
  go_wp2_with fail
  refine (szUint32S_any a3 m.keeps.length c3 r2 _ HF.out.keeps r20 (by omega)).mono ?_
  rintro e u2 ⟨rfl, rfl⟩
  have hz := szv_cases (n := m.keeps.length) r20 (by omega)
  generalize szv r2 m.keeps.length = r3 at hz
  rcases hz with rfl | ⟨r30, r31, r32⟩
  · go_wp2
    go_ret
    exact ⟨-1, rfl, .inl rfl, HB0.out⟩
  go_wp2
  go_ret
  exact ⟨r3, rfl, .inr ⟨r30, by omega, ⟨by omega, by omega, by omega⟩⟩, HB0.out⟩
theorem cellsLM : Tryz.prog.cellsOf 30 = 3 := by kernel_rfl
theorem cellsSW : Tryz.prog.cellsOf 28 = 1 := by kernel_rfl
section
variable {H : Type} {enc : TypeId × Value → H} {w : World} {spare : Nat → Bool} {held : Bool} {fuel : Nat} {cs : List Value} {x : DataW H × List MemPlace}
theorem three {cs : List Value} (h : cs.length = 3) : ∃ a b c, cs = [a, b, c] := by
  match cs, h with
  | [a, b, c], _ => exact ⟨a, b, c, rfl⟩
theorem open_words (h : DataW.trod enc Tryz.prog w 0 spare held fuel 28 cs = some x) : ∃ (s : Value) (l : List Int), cs = [s] ∧ Rd w 1 s l.length (l.flatMap wCell) ∧ l.length ≤ 9223372036854775807 ∧ ∀ z ∈ l, W32 z := by
  obtain ⟨s, ys, e, h1, h2, h3⟩ := open_rows wCell W32 1 wCell_length (by omega) Tryz.underlying28 cells32 (fun _ _ _ => open_u32) h
  exact ⟨s, ys, e, h1, by simp [maxLen] at h2; exact h2, h3⟩
theorem open_memory (h : DataW.trod enc Tryz.prog w 0 spare held fuel 30 cs = some x) : ∃ (m : MM) (v : VM), cs = [v.i, v.o, v.k] ∧ RdM w v m ∧ m.fits ∧ m.wf := by
  obtain ⟨y0, y1, y2, n, _, hl, g0, g1, g2⟩ := Go.Deep.trod_struct3 Tryz.underlying30 h
  rw [cellsLM] at hl
  obtain ⟨a, b, c, rfl⟩ := three hl
  simp only [cellsSW, List.drop_zero, List.drop_succ_cons, List.take_succ_cons, List.take_zero] at g0 g1 g2
  obtain ⟨s0, l0, e0, w0, m0, k0⟩ := open_words g0
  obtain ⟨s1, l1, e1, w1, m1, k1⟩ := open_words g1
  obtain ⟨s2, l2, e2, w2, m2, k2⟩ := open_words g2
  simp only [List.cons.injEq, and_true] at e0 e1 e2
  subst e0 e1 e2
  exact ⟨⟨l0, l1, l2⟩, ⟨a, b, c⟩, rfl, ⟨w0, w1, w2⟩, ⟨m0, m1, m2⟩, ⟨k0, k1, k2⟩⟩
end
end Go.Proofs.YtkpajiahpmdobaaGreat
