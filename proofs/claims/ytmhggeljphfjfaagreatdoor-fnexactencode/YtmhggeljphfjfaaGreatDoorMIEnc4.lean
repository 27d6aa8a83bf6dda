/- IEnc2, IEnc3, IEnc4 -/
import Derived.Test.YtmhggeljphfjfaaGreatDoorIEnc1
/- IEnc2: (*writer).typeByte, constant, instruction, cert. -/
namespace Go.Proofs.YtmhggeljphfjfaaGreatDoor
open Go.ChangeShapes Go.WideShapes Go.ChangeAt Go.RowKit
set_option linter.unusedVariables false
theorem blk2 {w : World} {b : Nat} {x y : Value} {t : TypeId} (h : Blk w b #[x, y] t) : w.cell? ⟨b, 0, none⟩ = some x ∧ w.cell? ⟨b, 1, none⟩ = some y := ⟨h.cell 0, h.cell 1⟩
theorem blk4 {w : World} {b : Nat} {x y z v : Value} {t : TypeId} (h : Blk w b #[x, y, z, v] t) : w.cell? ⟨b, 0, none⟩ = some x ∧ w.cell? ⟨b, 1, none⟩ = some y ∧ w.cell? ⟨b, 2, none⟩ = some z ∧ w.cell? ⟨b, 3, none⟩ = some v := ⟨h.cell 0, h.cell 1, h.cell 2, h.cell 3⟩
set_option maxHeartbeats 1000000 in
theorem typeByte_any (B wb : Nat) (bs : List Value) (x : Int) (w : World) (h : WAt B w wb bs) (hb : bs.length ≤ 1073741000) (hB : B ≤ w.heap.size) (hw : B ≤ wb) :
    Calls Tryz.prog 35 #[.pointer (some ⟨wb, 0, none⟩), .int .i64 x] w fun e w' => e = .returned (.tuple #[]) ∧ WAt B w' wb (bs ++ numL x 1) ∧ Wg B w w' := by
  have H : Hid (WAt B w wb bs) := h
  clear h
  go_enter Tryz.func35, Tryz.ntmps35
  go_wp2_with fail
  refine (wnumber_any B wb bs x 1 _ (by omega) (by omega) (by omega) hB hw H.out).mono ?_
  rintro e u ⟨rfl, hW, hG⟩
  have K : Hid (WAt B u wb (bs ++ numL x 1) ∧ Wg B w u) := ⟨hW, hG⟩
  clear hW hG
  go_wp2
  go_end0
  exact ⟨rfl, K.out.1, K.out.2⟩
set_option maxHeartbeats 2000000 in
set_option maxRecDepth 100000 in
theorem winstr_any (B wb : Nat) (bs : List Value) (x : MI) (w : World) (h : WAt B w wb bs) (hb : bs.length ≤ 1073741000) (hB : B ≤ w.heap.size) (hw : B ≤ wb) :
    Calls Tryz.prog 74 #[.pointer (some ⟨wb, 0, none⟩), .agg #[.int .i64 x.op, .int .i64 x.a, .int .i64 x.b, .int .i64 x.c]] w fun e w' => e = .returned (.tuple #[]) ∧ WAt B w' wb (bs ++ encInstr x) ∧ Wg B w w' := by
  have HA : Hid (Blk (w.alloc (.cells #[.int .i64 x.op, .int .i64 x.a, .int .i64 x.b, .int .i64 x.c] 64)) w.heap.size #[.int .i64 x.op, .int .i64 x.a, .int .i64 x.b, .int .i64 x.c] 64 ∧ WAt B (w.alloc (.cells #[.int .i64 x.op, .int .i64 x.a, .int .i64 x.b, .int .i64 x.c] 64)) wb bs ∧ Wg B w (w.alloc (.cells #[.int .i64 x.op, .int .i64 x.a, .int .i64 x.b, .int .i64 x.c] 64))) := ⟨Blk.new _ _ _, h.call (below_alloc _ _), Wg.of_below (below_alloc _ _) hB⟩
  have hE : bs ++ encInstr x = ((((bs ++ numL (x.op) 1) ++ numL (x.a) 1) ++ numL (x.b) 2) ++ numL (x.c) 4) := by simp [encInstr, numsL]
  rw [hE]
  clear h hE
  go_enter Tryz.func74, Tryz.ntmps74
  go_wp2_with fail
  refine (wnumber_any B wb (bs) (x.op) 1 _ (by omega) (by omega) (by omega) (Nat.le_trans hB HA.out.2.2.size) hw HA.out.2.1).mono ?_
  rintro e u1 ⟨rfl, hW1, hG1⟩
  have K1 : Hid (Blk u1 w.heap.size #[.int .i64 x.op, .int .i64 x.a, .int .i64 x.b, .int .i64 x.c] 64 ∧ WAt B u1 wb ((bs) ++ numL (x.op) 1) ∧ Wg B w u1) := ⟨hG1.block HA.out.1 (by decide) (by decide), hW1, HA.out.2.2.trans hG1⟩
  clear hW1 hG1 HA
  obtain ⟨c0, c1, c2, c3⟩ := blk4 K1.out.1
  go_wp2_with fail
  refine (wnumber_any B wb ((bs) ++ numL (x.op) 1) (x.a) 1 _ (by omega) (by omega) (by simp only [List.length_append, numL_length]; omega) (Nat.le_trans hB K1.out.2.2.size) hw K1.out.2.1).mono ?_
  rintro e u2 ⟨rfl, hW2, hG2⟩
  have K2 : Hid (Blk u2 w.heap.size #[.int .i64 x.op, .int .i64 x.a, .int .i64 x.b, .int .i64 x.c] 64 ∧ WAt B u2 wb (((bs) ++ numL (x.op) 1) ++ numL (x.a) 1) ∧ Wg B w u2) := ⟨hG2.block K1.out.1 (by decide) (by decide), hW2, K1.out.2.2.trans hG2⟩
  clear hW2 hG2 K1 c0 c1 c2 c3
  obtain ⟨c0, c1, c2, c3⟩ := blk4 K2.out.1
  go_wp2_with fail
  refine (wnumber_any B wb (((bs) ++ numL (x.op) 1) ++ numL (x.a) 1) (x.b) 2 _ (by omega) (by omega) (by simp only [List.length_append, numL_length]; omega) (Nat.le_trans hB K2.out.2.2.size) hw K2.out.2.1).mono ?_
  rintro e u3 ⟨rfl, hW3, hG3⟩
  have K3 : Hid (Blk u3 w.heap.size #[.int .i64 x.op, .int .i64 x.a, .int .i64 x.b, .int .i64 x.c] 64 ∧ WAt B u3 wb ((((bs) ++ numL (x.op) 1) ++ numL (x.a) 1) ++ numL (x.b) 2) ∧ Wg B w u3) := ⟨hG3.block K2.out.1 (by decide) (by decide), hW3, K2.out.2.2.trans hG3⟩
  clear hW3 hG3 K2 c0 c1 c2 c3
  obtain ⟨c0, c1, c2, c3⟩ := blk4 K3.out.1
  go_wp2_with fail
  refine (wnumber_any B wb ((((bs) ++ numL (x.op) 1) ++ numL (x.a) 1) ++ numL (x.b) 2) (x.c) 4 _ (by omega) (by omega) (by simp only [List.length_append, numL_length]; omega) (Nat.le_trans hB K3.out.2.2.size) hw K3.out.2.1).mono ?_
  rintro e u4 ⟨rfl, hW4, hG4⟩
  have K4 : Hid (Blk u4 w.heap.size #[.int .i64 x.op, .int .i64 x.a, .int .i64 x.b, .int .i64 x.c] 64 ∧ WAt B u4 wb (((((bs) ++ numL (x.op) 1) ++ numL (x.a) 1) ++ numL (x.b) 2) ++ numL (x.c) 4) ∧ Wg B w u4) := ⟨hG4.block K3.out.1 (by decide) (by decide), hW4, K3.out.2.2.trans hG4⟩
  clear hW4 hG4 K3 c0 c1 c2 c3
  go_wp2
  go_end0
  exact ⟨rfl, K4.out.2.1, K4.out.2.2⟩
set_option maxHeartbeats 2000000 in
set_option maxRecDepth 100000 in
theorem wcert_any (B wb : Nat) (bs : List Value) (x : MT) (w : World) (h : WAt B w wb bs) (hb : bs.length ≤ 1073741000) (hB : B ≤ w.heap.size) (hw : B ≤ wb) (hx0 : 0 ≤ x.init) (hx1 : x.init ≤ 4294967295) :
    Calls Tryz.prog 41 #[.pointer (some ⟨wb, 0, none⟩), .agg #[.int .i64 x.func, .int .i64 x.head, .int .i64 x.counter, .int .u32 x.init]] w fun e w' => e = .returned (.tuple #[]) ∧ WAt B w' wb (bs ++ encCert x) ∧ Wg B w w' := by
  have HA : Hid (Blk (w.alloc (.cells #[.int .i64 x.func, .int .i64 x.head, .int .i64 x.counter, .int .u32 x.init] 66)) w.heap.size #[.int .i64 x.func, .int .i64 x.head, .int .i64 x.counter, .int .u32 x.init] 66 ∧ WAt B (w.alloc (.cells #[.int .i64 x.func, .int .i64 x.head, .int .i64 x.counter, .int .u32 x.init] 66)) wb bs ∧ Wg B w (w.alloc (.cells #[.int .i64 x.func, .int .i64 x.head, .int .i64 x.counter, .int .u32 x.init] 66))) := ⟨Blk.new _ _ _, h.call (below_alloc _ _), Wg.of_below (below_alloc _ _) hB⟩
  have hE : bs ++ encCert x = ((((bs ++ numL (x.func) 2) ++ numL (x.head) 2) ++ numL (x.counter) 1) ++ numL (x.init) 4) := by simp [encCert, numsL]
  rw [hE]
  clear h hE
  go_enter Tryz.func41, Tryz.ntmps41
  go_wp2_with fail
  refine (wnumber_any B wb (bs) (x.func) 2 _ (by omega) (by omega) (by omega) (Nat.le_trans hB HA.out.2.2.size) hw HA.out.2.1).mono ?_
  rintro e u1 ⟨rfl, hW1, hG1⟩
  have K1 : Hid (Blk u1 w.heap.size #[.int .i64 x.func, .int .i64 x.head, .int .i64 x.counter, .int .u32 x.init] 66 ∧ WAt B u1 wb ((bs) ++ numL (x.func) 2) ∧ Wg B w u1) := ⟨hG1.block HA.out.1 (by decide) (by decide), hW1, HA.out.2.2.trans hG1⟩
  clear hW1 hG1 HA
  obtain ⟨c0, c1, c2, c3⟩ := blk4 K1.out.1
  go_wp2_with fail
  refine (wnumber_any B wb ((bs) ++ numL (x.func) 2) (x.head) 2 _ (by omega) (by omega) (by simp only [List.length_append, numL_length]; omega) (Nat.le_trans hB K1.out.2.2.size) hw K1.out.2.1).mono ?_
  rintro e u2 ⟨rfl, hW2, hG2⟩
  have K2 : Hid (Blk u2 w.heap.size #[.int .i64 x.func, .int .i64 x.head, .int .i64 x.counter, .int .u32 x.init] 66 ∧ WAt B u2 wb (((bs) ++ numL (x.func) 2) ++ numL (x.head) 2) ∧ Wg B w u2) := ⟨hG2.block K1.out.1 (by decide) (by decide), hW2, K1.out.2.2.trans hG2⟩
  clear hW2 hG2 K1 c0 c1 c2 c3
  obtain ⟨c0, c1, c2, c3⟩ := blk4 K2.out.1
  go_wp2_with fail
  refine (wnumber_any B wb (((bs) ++ numL (x.func) 2) ++ numL (x.head) 2) (x.counter) 1 _ (by omega) (by omega) (by simp only [List.length_append, numL_length]; omega) (Nat.le_trans hB K2.out.2.2.size) hw K2.out.2.1).mono ?_
  rintro e u3 ⟨rfl, hW3, hG3⟩
  have K3 : Hid (Blk u3 w.heap.size #[.int .i64 x.func, .int .i64 x.head, .int .i64 x.counter, .int .u32 x.init] 66 ∧ WAt B u3 wb ((((bs) ++ numL (x.func) 2) ++ numL (x.head) 2) ++ numL (x.counter) 1) ∧ Wg B w u3) := ⟨hG3.block K2.out.1 (by decide) (by decide), hW3, K2.out.2.2.trans hG3⟩
  clear hW3 hG3 K2 c0 c1 c2 c3
  obtain ⟨c0, c1, c2, c3⟩ := blk4 K3.out.1
  go_wp2_with fail
  refine (wnumber_any B wb ((((bs) ++ numL (x.func) 2) ++ numL (x.head) 2) ++ numL (x.counter) 1) (x.init) 4 _ (by omega) (by omega) (by simp only [List.length_append, numL_length]; omega) (Nat.le_trans hB K3.out.2.2.size) hw K3.out.2.1).mono ?_
  rintro e u4 ⟨rfl, hW4, hG4⟩
  have K4 : Hid (Blk u4 w.heap.size #[.int .i64 x.func, .int .i64 x.head, .int .i64 x.counter, .int .u32 x.init] 66 ∧ WAt B u4 wb (((((bs) ++ numL (x.func) 2) ++ numL (x.head) 2) ++ numL (x.counter) 1) ++ numL (x.init) 4) ∧ Wg B w u4) := ⟨hG4.block K3.out.1 (by decide) (by decide), hW4, K3.out.2.2.trans hG4⟩
  clear hW4 hG4 K3 c0 c1 c2 c3
  go_wp2
  go_end0
  exact ⟨rfl, K4.out.2.1, K4.out.2.2⟩
set_option maxHeartbeats 2000000 in
set_option maxRecDepth 100000 in
theorem wconst_any (B wb : Nat) (bs : List Value) (x : MC) (w : World) (h : WAt B w wb bs) (hb : bs.length ≤ 1073741000) (hB : B ≤ w.heap.size) (hw : B ≤ wb) (hx0 : 0 ≤ x.word) (hx1 : x.word ≤ 4294967295) :
    Calls Tryz.prog 37 #[.pointer (some ⟨wb, 0, none⟩), .agg #[.int .i64 x.type, .int .u32 x.word]] w fun e w' => e = .returned (.tuple #[]) ∧ WAt B w' wb (bs ++ encConst x) ∧ Wg B w w' := by
  have HA : Hid (Blk (w.alloc (.cells #[.int .i64 x.type, .int .u32 x.word] 59)) w.heap.size #[.int .i64 x.type, .int .u32 x.word] 59 ∧ WAt B (w.alloc (.cells #[.int .i64 x.type, .int .u32 x.word] 59)) wb bs ∧ Wg B w (w.alloc (.cells #[.int .i64 x.type, .int .u32 x.word] 59))) := ⟨Blk.new _ _ _, h.call (below_alloc _ _), Wg.of_below (below_alloc _ _) hB⟩
  have hE : bs ++ encConst x = ((bs ++ numL (x.type) 1) ++ numL (x.word) 4) := by simp [encConst]
  rw [hE]
  clear h hE
  go_enter Tryz.func37, Tryz.ntmps37
  go_wp2_with fail
  refine (typeByte_any B wb (bs) (x.type) _ HA.out.2.1 (by omega) (Nat.le_trans hB HA.out.2.2.size) hw).mono ?_
  rintro e u1 ⟨rfl, hW1, hG1⟩
  have K1 : Hid (Blk u1 w.heap.size #[.int .i64 x.type, .int .u32 x.word] 59 ∧ WAt B u1 wb ((bs) ++ numL (x.type) 1) ∧ Wg B w u1) := ⟨hG1.block HA.out.1 (by decide) (by decide), hW1, HA.out.2.2.trans hG1⟩
  clear hW1 hG1 HA
  obtain ⟨c0, c1⟩ := blk2 K1.out.1
  go_wp2_with fail
  refine (wnumber_any B wb ((bs) ++ numL (x.type) 1) (x.word) 4 _ (by omega) (by omega) (by simp only [List.length_append, numL_length]; omega) (Nat.le_trans hB K1.out.2.2.size) hw K1.out.2.1).mono ?_
  rintro e u2 ⟨rfl, hW2, hG2⟩
  have K2 : Hid (Blk u2 w.heap.size #[.int .i64 x.type, .int .u32 x.word] 59 ∧ WAt B u2 wb (((bs) ++ numL (x.type) 1) ++ numL (x.word) 4) ∧ Wg B w u2) := ⟨hG2.block K1.out.1 (by decide) (by decide), hW2, K1.out.2.2.trans hG2⟩
  clear hW2 hG2 K1 c0 c1
  go_wp2
  go_end0
  exact ⟨rfl, K2.out.2.1, K2.out.2.2⟩
end Go.Proofs.YtmhggeljphfjfaaGreatDoor
/- IEnc3: putList over types, constants, instructions, certificates. -/
namespace Go.Proofs.YtmhggeljphfjfaaGreatDoor
open Go.ChangeShapes Go.WideShapes Go.ChangeAt Go.RowKit
set_option linter.unusedVariables false
theorem flat_take_le {α : Type} (f : α → List Value) (ys : List α) (k : Nat) : ((ys.take k).flatMap f).length ≤ (ys.flatMap f).length := by
  conv => rhs; rw [← List.take_append_drop k ys, List.flatMap_append, List.length_append]
  omega
def num1 (x : Int) : List Value := numL x 1
set_option maxHeartbeats 4000000 in
set_option maxRecDepth 100000 in
theorem putInts_any (B wb : Nat) (bs : List Value) (cw : Nat) (s : Value) (ys : List Int) (base : Nat) (w : World) (h1 : 1 ≤ cw) (h8 : cw ≤ 8) (hy : ys.length ≤ 1048576) (hb : bs.length + 8 + (ys.flatMap num1).length ≤ 1073741000) (hB : B ≤ w.heap.size) (hw : B ≤ wb) (h : WAt B w wb bs) (hs : w.ownsRow base 2 1 s ys.length (ys.flatMap intCell)) :
    Calls Tryz.prog 34 #[.pointer (some ⟨wb, 0, none⟩), .int .i64 (cw : Int), s, .func (Fn.func 35) #[.pointer (some ⟨wb, 0, none⟩)] #[]] w fun e w' => e = .returned (.tuple #[]) ∧ WAt B w' wb (bs ++ (numL ys.length cw ++ ys.flatMap num1)) ∧ Wg B w w' := by
  have H : Hid (WAt B w wb bs ∧ w.ownsRow base 2 1 s ys.length (ys.flatMap intCell)) := ⟨h, hs⟩
  obtain ⟨a1, c1, e1⟩ := (Rd.of_own hs).is_slice
  subst e1
  clear h hs
  generalize hLL : ys.length = n at hy H ⊢
  have HL : Hid (ys.length = n) := hLL
  clear hLL
  go_enter Tryz.func34, Tryz.ntmps34
  go_wp2_with fail
  refine (wnumber_any B wb bs (n : Int) cw _ h1 h8 (by omega) hB hw H.out.1).mono ?_
  rintro e u1 ⟨rfl, hW, hG⟩
  have K : Hid (WAt B u1 wb (bs ++ numL n cw) ∧ Wg B w u1) := ⟨hW, hG⟩
  clear hW hG
  go_wp2
  go_loopw [17] (fun i wr => ∃ k : Nat, k ≤ n ∧ i = .int .i64 k ∧ Hid (WAt B wr wb (bs ++ numL n cw ++ (ys.take k).flatMap num1) ∧ Wg B w wr)) (fun i _ => n - (intOf i).toNat)
  case atStart => exact ⟨0, by omega, rfl, ⟨by simpa using K.out.1, K.out.2⟩⟩
  case round =>
    clear K
    obtain ⟨k, hk, rfl, HI⟩ := hrel
    by_cases hlt : k < n
    · obtain ⟨x, hx⟩ : ∃ x, ys[k]? = some x := ⟨_, List.getElem?_eq_getElem (by rw [HL.out]; exact hlt)⟩
      have hnx : bs ++ numL n cw ++ (ys.take (k + 1)).flatMap num1 = bs ++ numL n cw ++ (ys.take k).flatMap num1 ++ num1 x := by
        obtain ⟨hlt', rfl⟩ := List.getElem?_eq_some_iff.1 hx
        rw [List.take_succ_eq_append_getElem hlt', List.flatMap_append, ← List.append_assoc]
        simp
      have hlen : (bs ++ numL n cw ++ (ys.take k).flatMap num1).length ≤ 1073741000 := by
        have := flat_take_le num1 ys k
        simp only [List.length_append, numL_length]
        omega
      rcases (Rd.of_own H.out.2).2 with ⟨e0, _⟩ | ⟨g, o, c, e1, hc1⟩
      · omega
      simp only [Value.slice.injEq, true_and] at e1
      obtain ⟨rfl, rfl⟩ := e1
      have hrow := Rd.of_own (HI.out.2.own H.out.2 (by decide) (by decide))
      rcases hrow.2 with ⟨e0, _⟩ | ⟨g', o', c', e1, hc2⟩
      · omega
      simp only [Value.slice.injEq, Option.some.injEq, Addr.mk.injEq, true_and, and_true] at e1
      obtain ⟨⟨rfl, rfl⟩, rfl⟩ := e1
      have j0 := Rd.elem intCell_length hc2 k x hx 0 _ rfl
      rw [Nat.mul_one, Nat.add_zero] at j0
      have HX : Hid (ys[k]? = some x ∧ bs ++ numL n cw ++ (ys.take (k + 1)).flatMap num1 = bs ++ numL n cw ++ (ys.take k).flatMap num1 ++ num1 x) := ⟨hx, hnx⟩
      clear hc1 hc2 hx hnx hrow
      go_wp2_with fail
      refine (typeByte_any B wb _ x _ HI.out.1 hlen (Nat.le_trans hB HI.out.2.size) hw).mono ?_
      rintro e u ⟨rfl, hW, hG⟩
      have HN : Hid (WAt B u wb (bs ++ numL n cw ++ (ys.take (k + 1)).flatMap num1) ∧ Wg B w u) := ⟨by rw [HX.out.2]; exact hW, HI.out.2.trans hG⟩
      clear hW hG j0
      go_wp2
      go_roundw
      case rel => exact ⟨k + 1, by omega, by go_num, HN⟩
      case measure => simp [intOf]; omega
    · have hkn : k = n := by omega
      subst hkn
      have HE : Hid (WAt B wr wb (bs ++ (numL k cw ++ ys.flatMap num1)) ∧ Wg B w wr) := by
        refine ⟨?_, HI.out.2⟩
        have := HI.out.1
        rw [← HL.out, List.take_length, HL.out, List.append_assoc] at this
        exact this
      go_wp2
      go_end0
      exact ⟨rfl, HE.out.1, HE.out.2⟩
set_option maxHeartbeats 4000000 in
set_option maxRecDepth 100000 in
theorem putInstrs_any (B wb : Nat) (bs : List Value) (cw : Nat) (s : Value) (ys : List MI) (base : Nat) (w : World) (h1 : 1 ≤ cw) (h8 : cw ≤ 8) (hy : ys.length ≤ 1048576) (hb : bs.length + 8 + (ys.flatMap encInstr).length ≤ 1073741000) (hB : B ≤ w.heap.size) (hw : B ≤ wb) (h : WAt B w wb bs) (hs : w.ownsRow base 64 4 s ys.length (ys.flatMap MI.cells)) :
    Calls Tryz.prog 73 #[.pointer (some ⟨wb, 0, none⟩), .int .i64 (cw : Int), s, .func (Fn.func 74) #[.pointer (some ⟨wb, 0, none⟩)] #[]] w fun e w' => e = .returned (.tuple #[]) ∧ WAt B w' wb (bs ++ (numL ys.length cw ++ ys.flatMap encInstr)) ∧ Wg B w w' := by
  have H : Hid (WAt B w wb bs ∧ w.ownsRow base 64 4 s ys.length (ys.flatMap MI.cells)) := ⟨h, hs⟩
  obtain ⟨a1, c1, e1⟩ := (Rd.of_own hs).is_slice
  subst e1
  clear h hs
  generalize hLL : ys.length = n at hy H ⊢
  have HL : Hid (ys.length = n) := hLL
  clear hLL
  go_enter Tryz.func73, Tryz.ntmps73
  go_wp2_with fail
  refine (wnumber_any B wb bs (n : Int) cw _ h1 h8 (by omega) hB hw H.out.1).mono ?_
  rintro e u1 ⟨rfl, hW, hG⟩
  have K : Hid (WAt B u1 wb (bs ++ numL n cw) ∧ Wg B w u1) := ⟨hW, hG⟩
  clear hW hG
  go_wp2
  go_loopw [17] (fun i wr => ∃ k : Nat, k ≤ n ∧ i = .int .i64 k ∧ Hid (WAt B wr wb (bs ++ numL n cw ++ (ys.take k).flatMap encInstr) ∧ Wg B w wr)) (fun i _ => n - (intOf i).toNat)
  case atStart => exact ⟨0, by omega, rfl, ⟨by simpa using K.out.1, K.out.2⟩⟩
  case round =>
    clear K
    obtain ⟨k, hk, rfl, HI⟩ := hrel
    by_cases hlt : k < n
    · obtain ⟨x, hx⟩ : ∃ x, ys[k]? = some x := ⟨_, List.getElem?_eq_getElem (by rw [HL.out]; exact hlt)⟩
      have hnx : bs ++ numL n cw ++ (ys.take (k + 1)).flatMap encInstr = bs ++ numL n cw ++ (ys.take k).flatMap encInstr ++ encInstr x := by
        obtain ⟨hlt', rfl⟩ := List.getElem?_eq_some_iff.1 hx
        rw [List.take_succ_eq_append_getElem hlt', List.flatMap_append, ← List.append_assoc]
        simp
      have hlen : (bs ++ numL n cw ++ (ys.take k).flatMap encInstr).length ≤ 1073741000 := by
        have := flat_take_le encInstr ys k
        simp only [List.length_append, numL_length]
        omega
      rcases (Rd.of_own H.out.2).2 with ⟨e0, _⟩ | ⟨g, o, c, e1, hc1⟩
      · omega
      simp only [Value.slice.injEq, true_and] at e1
      obtain ⟨rfl, rfl⟩ := e1
      have hrow := Rd.of_own (HI.out.2.own H.out.2 (by decide) (by decide))
      rcases hrow.2 with ⟨e0, _⟩ | ⟨g', o', c', e1, hc2⟩
      · omega
      simp only [Value.slice.injEq, Option.some.injEq, Addr.mk.injEq, true_and, and_true] at e1
      obtain ⟨⟨rfl, rfl⟩, rfl⟩ := e1
      have j0 := Rd.elem MI.cells_length hc2 k x hx 0 _ rfl
      have j1 := Rd.elem MI.cells_length hc2 k x hx 1 _ rfl
      have j2 := Rd.elem MI.cells_length hc2 k x hx 2 _ rfl
      have j3 := Rd.elem MI.cells_length hc2 k x hx 3 _ rfl
      rw [Nat.add_zero] at j0
      have HX : Hid (ys[k]? = some x ∧ bs ++ numL n cw ++ (ys.take (k + 1)).flatMap encInstr = bs ++ numL n cw ++ (ys.take k).flatMap encInstr ++ encInstr x) := ⟨hx, hnx⟩
      clear hc1 hc2 hx hnx hrow
      have nb : ¬ g = wr.heap.size := Nat.ne_of_lt (block_lt_of_cell j0)
      have mb : g < wr.heap.size := block_lt_of_cell j0
      have HA : Hid (WAt B (wr.alloc (.cells #[.int .i64 x.op, .int .i64 x.a, .int .i64 x.b, .int .i64 x.c] 64)) wb (bs ++ numL n cw ++ (ys.take k).flatMap encInstr) ∧ Wg B w (wr.alloc (.cells #[.int .i64 x.op, .int .i64 x.a, .int .i64 x.b, .int .i64 x.c] 64))) := ⟨HI.out.1.call (below_alloc _ _), HI.out.2.trans (Wg.of_below (below_alloc _ _) (Nat.le_trans hB HI.out.2.size))⟩
      go_wp2_with fail
      refine (winstr_any B wb _ x _ HA.out.1 hlen (Nat.le_trans hB HA.out.2.size) hw).mono ?_
      rintro e u ⟨rfl, hW, hG⟩
      have HN : Hid (WAt B u wb (bs ++ numL n cw ++ (ys.take (k + 1)).flatMap encInstr) ∧ Wg B w u) := ⟨by rw [HX.out.2]; exact hW, HA.out.2.trans hG⟩
      clear hW hG nb mb j0 j1 j2 j3
      go_wp2
      go_roundw
      case rel => exact ⟨k + 1, by omega, by go_num, HN⟩
      case measure => simp [intOf]; omega
    · have hkn : k = n := by omega
      subst hkn
      have HE : Hid (WAt B wr wb (bs ++ (numL k cw ++ ys.flatMap encInstr)) ∧ Wg B w wr) := by
        refine ⟨?_, HI.out.2⟩
        have := HI.out.1
        rw [← HL.out, List.take_length, HL.out, List.append_assoc] at this
        exact this
      go_wp2
      go_end0
      exact ⟨rfl, HE.out.1, HE.out.2⟩
set_option maxHeartbeats 4000000 in
set_option maxRecDepth 100000 in
theorem putConsts_any (B wb : Nat) (bs : List Value) (cw : Nat) (s : Value) (ys : List MC) (base : Nat) (w : World) (h1 : 1 ≤ cw) (h8 : cw ≤ 8) (hy : ys.length ≤ 1048576) (hb : bs.length + 8 + (ys.flatMap encConst).length ≤ 1073741000) (hB : B ≤ w.heap.size) (hw : B ≤ wb) (hr : ∀ x ∈ ys, 0 ≤ x.word ∧ x.word ≤ 4294967295) (h : WAt B w wb bs) (hs : w.ownsRow base 59 2 s ys.length (ys.flatMap MC.cells)) :
    Calls Tryz.prog 36 #[.pointer (some ⟨wb, 0, none⟩), .int .i64 (cw : Int), s, .func (Fn.func 37) #[.pointer (some ⟨wb, 0, none⟩)] #[]] w fun e w' => e = .returned (.tuple #[]) ∧ WAt B w' wb (bs ++ (numL ys.length cw ++ ys.flatMap encConst)) ∧ Wg B w w' := by
  have H : Hid (WAt B w wb bs ∧ w.ownsRow base 59 2 s ys.length (ys.flatMap MC.cells)) := ⟨h, hs⟩
  have HR : Hid (∀ x ∈ ys, 0 ≤ x.word ∧ x.word ≤ 4294967295) := hr
  clear hr
  obtain ⟨a1, c1, e1⟩ := (Rd.of_own hs).is_slice
  subst e1
  clear h hs
  generalize hLL : ys.length = n at hy H ⊢
  have HL : Hid (ys.length = n) := hLL
  clear hLL
  go_enter Tryz.func36, Tryz.ntmps36
  go_wp2_with fail
  refine (wnumber_any B wb bs (n : Int) cw _ h1 h8 (by omega) hB hw H.out.1).mono ?_
  rintro e u1 ⟨rfl, hW, hG⟩
  have K : Hid (WAt B u1 wb (bs ++ numL n cw) ∧ Wg B w u1) := ⟨hW, hG⟩
  clear hW hG
  go_wp2
  go_loopw [17] (fun i wr => ∃ k : Nat, k ≤ n ∧ i = .int .i64 k ∧ Hid (WAt B wr wb (bs ++ numL n cw ++ (ys.take k).flatMap encConst) ∧ Wg B w wr)) (fun i _ => n - (intOf i).toNat)
  case atStart => exact ⟨0, by omega, rfl, ⟨by simpa using K.out.1, K.out.2⟩⟩
  case round =>
    clear K
    obtain ⟨k, hk, rfl, HI⟩ := hrel
    by_cases hlt : k < n
    · obtain ⟨x, hx⟩ : ∃ x, ys[k]? = some x := ⟨_, List.getElem?_eq_getElem (by rw [HL.out]; exact hlt)⟩
      have hnx : bs ++ numL n cw ++ (ys.take (k + 1)).flatMap encConst = bs ++ numL n cw ++ (ys.take k).flatMap encConst ++ encConst x := by
        obtain ⟨hlt', rfl⟩ := List.getElem?_eq_some_iff.1 hx
        rw [List.take_succ_eq_append_getElem hlt', List.flatMap_append, ← List.append_assoc]
        simp
      have hlen : (bs ++ numL n cw ++ (ys.take k).flatMap encConst).length ≤ 1073741000 := by
        have := flat_take_le encConst ys k
        simp only [List.length_append, numL_length]
        omega
      rcases (Rd.of_own H.out.2).2 with ⟨e0, _⟩ | ⟨g, o, c, e1, hc1⟩
      · omega
      simp only [Value.slice.injEq, true_and] at e1
      obtain ⟨rfl, rfl⟩ := e1
      have hrow := Rd.of_own (HI.out.2.own H.out.2 (by decide) (by decide))
      rcases hrow.2 with ⟨e0, _⟩ | ⟨g', o', c', e1, hc2⟩
      · omega
      simp only [Value.slice.injEq, Option.some.injEq, Addr.mk.injEq, true_and, and_true] at e1
      obtain ⟨⟨rfl, rfl⟩, rfl⟩ := e1
      have j0 := Rd.elem MC.cells_length hc2 k x hx 0 _ rfl
      have j1 := Rd.elem MC.cells_length hc2 k x hx 1 _ rfl
      rw [Nat.add_zero] at j0
      have HX : Hid (ys[k]? = some x ∧ bs ++ numL n cw ++ (ys.take (k + 1)).flatMap encConst = bs ++ numL n cw ++ (ys.take k).flatMap encConst ++ encConst x) := ⟨hx, hnx⟩
      clear hc1 hc2 hx hnx hrow
      have nb : ¬ g = wr.heap.size := Nat.ne_of_lt (block_lt_of_cell j0)
      have mb : g < wr.heap.size := block_lt_of_cell j0
      have HA : Hid (WAt B (wr.alloc (.cells #[.int .i64 x.type, .int .u32 x.word] 59)) wb (bs ++ numL n cw ++ (ys.take k).flatMap encConst) ∧ Wg B w (wr.alloc (.cells #[.int .i64 x.type, .int .u32 x.word] 59))) := ⟨HI.out.1.call (below_alloc _ _), HI.out.2.trans (Wg.of_below (below_alloc _ _) (Nat.le_trans hB HI.out.2.size))⟩
      go_wp2_with fail
      refine (wconst_any B wb _ x _ HA.out.1 hlen (Nat.le_trans hB HA.out.2.size) hw (HR.out x (List.mem_of_getElem? HX.out.1)).1 (HR.out x (List.mem_of_getElem? HX.out.1)).2).mono ?_
      rintro e u ⟨rfl, hW, hG⟩
      have HN : Hid (WAt B u wb (bs ++ numL n cw ++ (ys.take (k + 1)).flatMap encConst) ∧ Wg B w u) := ⟨by rw [HX.out.2]; exact hW, HA.out.2.trans hG⟩
      clear hW hG nb mb j0 j1
      go_wp2
      go_roundw
      case rel => exact ⟨k + 1, by omega, by go_num, HN⟩
      case measure => simp [intOf]; omega
    · have hkn : k = n := by omega
      subst hkn
      have HE : Hid (WAt B wr wb (bs ++ (numL k cw ++ ys.flatMap encConst)) ∧ Wg B w wr) := by
        refine ⟨?_, HI.out.2⟩
        have := HI.out.1
        rw [← HL.out, List.take_length, HL.out, List.append_assoc] at this
        exact this
      go_wp2
      go_end0
      exact ⟨rfl, HE.out.1, HE.out.2⟩
set_option maxHeartbeats 4000000 in
set_option maxRecDepth 100000 in
theorem putCerts_any (B wb : Nat) (bs : List Value) (cw : Nat) (s : Value) (ys : List MT) (base : Nat) (w : World) (h1 : 1 ≤ cw) (h8 : cw ≤ 8) (hy : ys.length ≤ 1048576) (hb : bs.length + 8 + (ys.flatMap encCert).length ≤ 1073741000) (hB : B ≤ w.heap.size) (hw : B ≤ wb) (hr : ∀ x ∈ ys, 0 ≤ x.init ∧ x.init ≤ 4294967295) (h : WAt B w wb bs) (hs : w.ownsRow base 66 4 s ys.length (ys.flatMap MT.cells)) :
    Calls Tryz.prog 40 #[.pointer (some ⟨wb, 0, none⟩), .int .i64 (cw : Int), s, .func (Fn.func 41) #[.pointer (some ⟨wb, 0, none⟩)] #[]] w fun e w' => e = .returned (.tuple #[]) ∧ WAt B w' wb (bs ++ (numL ys.length cw ++ ys.flatMap encCert)) ∧ Wg B w w' := by
  have H : Hid (WAt B w wb bs ∧ w.ownsRow base 66 4 s ys.length (ys.flatMap MT.cells)) := ⟨h, hs⟩
  have HR : Hid (∀ x ∈ ys, 0 ≤ x.init ∧ x.init ≤ 4294967295) := hr
  clear hr
  obtain ⟨a1, c1, e1⟩ := (Rd.of_own hs).is_slice
  subst e1
  clear h hs
  generalize hLL : ys.length = n at hy H ⊢
  have HL : Hid (ys.length = n) := hLL
  clear hLL
  go_enter Tryz.func40, Tryz.ntmps40
  go_wp2_with fail
  refine (wnumber_any B wb bs (n : Int) cw _ h1 h8 (by omega) hB hw H.out.1).mono ?_
  rintro e u1 ⟨rfl, hW, hG⟩
  have K : Hid (WAt B u1 wb (bs ++ numL n cw) ∧ Wg B w u1) := ⟨hW, hG⟩
  clear hW hG
  go_wp2
  go_loopw [17] (fun i wr => ∃ k : Nat, k ≤ n ∧ i = .int .i64 k ∧ Hid (WAt B wr wb (bs ++ numL n cw ++ (ys.take k).flatMap encCert) ∧ Wg B w wr)) (fun i _ => n - (intOf i).toNat)
  case atStart => exact ⟨0, by omega, rfl, ⟨by simpa using K.out.1, K.out.2⟩⟩
  case round =>
    clear K
    obtain ⟨k, hk, rfl, HI⟩ := hrel
    by_cases hlt : k < n
    · obtain ⟨x, hx⟩ : ∃ x, ys[k]? = some x := ⟨_, List.getElem?_eq_getElem (by rw [HL.out]; exact hlt)⟩
      have hnx : bs ++ numL n cw ++ (ys.take (k + 1)).flatMap encCert = bs ++ numL n cw ++ (ys.take k).flatMap encCert ++ encCert x := by
        obtain ⟨hlt', rfl⟩ := List.getElem?_eq_some_iff.1 hx
        rw [List.take_succ_eq_append_getElem hlt', List.flatMap_append, ← List.append_assoc]
        simp
      have hlen : (bs ++ numL n cw ++ (ys.take k).flatMap encCert).length ≤ 1073741000 := by
        have := flat_take_le encCert ys k
        simp only [List.length_append, numL_length]
        omega
      rcases (Rd.of_own H.out.2).2 with ⟨e0, _⟩ | ⟨g, o, c, e1, hc1⟩
      · omega
      simp only [Value.slice.injEq, true_and] at e1
      obtain ⟨rfl, rfl⟩ := e1
      have hrow := Rd.of_own (HI.out.2.own H.out.2 (by decide) (by decide))
      rcases hrow.2 with ⟨e0, _⟩ | ⟨g', o', c', e1, hc2⟩
      · omega
      simp only [Value.slice.injEq, Option.some.injEq, Addr.mk.injEq, true_and, and_true] at e1
      obtain ⟨⟨rfl, rfl⟩, rfl⟩ := e1
      have j0 := Rd.elem MT.cells_length hc2 k x hx 0 _ rfl
      have j1 := Rd.elem MT.cells_length hc2 k x hx 1 _ rfl
      have j2 := Rd.elem MT.cells_length hc2 k x hx 2 _ rfl
      have j3 := Rd.elem MT.cells_length hc2 k x hx 3 _ rfl
      rw [Nat.add_zero] at j0
      have HX : Hid (ys[k]? = some x ∧ bs ++ numL n cw ++ (ys.take (k + 1)).flatMap encCert = bs ++ numL n cw ++ (ys.take k).flatMap encCert ++ encCert x) := ⟨hx, hnx⟩
      clear hc1 hc2 hx hnx hrow
      have nb : ¬ g = wr.heap.size := Nat.ne_of_lt (block_lt_of_cell j0)
      have mb : g < wr.heap.size := block_lt_of_cell j0
      have HA : Hid (WAt B (wr.alloc (.cells #[.int .i64 x.func, .int .i64 x.head, .int .i64 x.counter, .int .u32 x.init] 66)) wb (bs ++ numL n cw ++ (ys.take k).flatMap encCert) ∧ Wg B w (wr.alloc (.cells #[.int .i64 x.func, .int .i64 x.head, .int .i64 x.counter, .int .u32 x.init] 66))) := ⟨HI.out.1.call (below_alloc _ _), HI.out.2.trans (Wg.of_below (below_alloc _ _) (Nat.le_trans hB HI.out.2.size))⟩
      go_wp2_with fail
      refine (wcert_any B wb _ x _ HA.out.1 hlen (Nat.le_trans hB HA.out.2.size) hw (HR.out x (List.mem_of_getElem? HX.out.1)).1 (HR.out x (List.mem_of_getElem? HX.out.1)).2).mono ?_
      rintro e u ⟨rfl, hW, hG⟩
      have HN : Hid (WAt B u wb (bs ++ numL n cw ++ (ys.take (k + 1)).flatMap encCert) ∧ Wg B w u) := ⟨by rw [HX.out.2]; exact hW, HA.out.2.trans hG⟩
      clear hW hG nb mb j0 j1 j2 j3
      go_wp2
      go_roundw
      case rel => exact ⟨k + 1, by omega, by go_num, HN⟩
      case measure => simp [intOf]; omega
    · have hkn : k = n := by omega
      subst hkn
      have HE : Hid (WAt B wr wb (bs ++ (numL k cw ++ ys.flatMap encCert)) ∧ Wg B w wr) := by
        refine ⟨?_, HI.out.2⟩
        have := HI.out.1
        rw [← HL.out, List.take_length, HL.out, List.append_assoc] at this
        exact this
      go_wp2
      go_end0
      exact ⟨rfl, HE.out.1, HE.out.2⟩
end Go.Proofs.YtmhggeljphfjfaaGreatDoor
/- IEnc4: (*writer).function, putList over functions. -/
namespace Go.Proofs.YtmhggeljphfjfaaGreatDoor
open Go.ChangeShapes Go.WideShapes Go.ChangeAt Go.RowKit
set_option linter.unusedVariables false
set_option maxHeartbeats 4000000 in
set_option maxRecDepth 100000 in
theorem wfunc_any (B wb : Nat) (bs : List Value) (v : VF) (f : MF) (base : Nat) (w : World) (h : WAt B w wb bs) (hb : bs.length + (encFunc f).length + 100 ≤ 1073741000) (hB : B ≤ w.heap.size) (hw : B ≤ wb) (hs : f.small) (ho : OwnF w base v f) :
    Calls Tryz.prog 39 #[.pointer (some ⟨wb, 0, none⟩), .agg #[v.p, .int .i64 f.result, v.l, v.c]] w fun e w' => e = .returned (.tuple #[]) ∧ WAt B w' wb (bs ++ encFunc f) ∧ Wg B w w' := by
  have HA : Hid (Blk (w.alloc (.cells #[v.p, .int .i64 f.result, v.l, v.c] 62)) w.heap.size #[v.p, .int .i64 f.result, v.l, v.c] 62 ∧ WAt B (w.alloc (.cells #[v.p, .int .i64 f.result, v.l, v.c] 62)) wb bs ∧ Wg B w (w.alloc (.cells #[v.p, .int .i64 f.result, v.l, v.c] 62))) := ⟨Blk.new _ _ _, h.call (below_alloc _ _), Wg.of_below (below_alloc _ _) hB⟩
  have hE : bs ++ encFunc f = (((bs ++ (numL f.params.length 1 ++ f.params.flatMap num1)) ++ numL f.result 1) ++ (numL f.locals.length 1 ++ f.locals.flatMap num1)) ++ (numL f.code.length 2 ++ f.code.flatMap encInstr) := by
    unfold encFunc numsL num1
    simp [List.append_assoc]
  have hlen : bs.length + 5 + (f.params.flatMap num1).length + (f.locals.flatMap num1).length + (f.code.flatMap encInstr).length + 100 ≤ 1073741000 := by
    rw [encFunc_length] at hb
    rw [flat_length num1 1 (fun y => numL_length y 1), flat_length num1 1 (fun y => numL_length y 1), flat_length encInstr 8 encInstr_length]
    omega
  rw [hE]
  have HO : Hid (OwnF w base v f ∧ f.small) := ⟨ho, hs⟩
  clear h hE hb ho hs
  go_enter Tryz.func39, Tryz.ntmps39
  go_wp2_with fail
  refine (putInts_any B wb bs 1 v.p f.params base _ (by omega) (by omega) HO.out.2.1 (by omega) (Nat.le_trans hB HA.out.2.2.size) hw HA.out.2.1 (HA.out.2.2.ownF HO.out.1).1).mono ?_
  rintro e u1 ⟨rfl, hW, hG⟩
  have K1 : Hid (Blk u1 w.heap.size #[v.p, .int .i64 f.result, v.l, v.c] 62 ∧ WAt B u1 wb (bs ++ (numL f.params.length 1 ++ f.params.flatMap num1)) ∧ Wg B w u1) := ⟨hG.block HA.out.1 (by decide) (by decide), hW, HA.out.2.2.trans hG⟩
  clear hW hG HA
  obtain ⟨c0, c1, c2, c3⟩ := blk4 K1.out.1
  go_wp2_with fail
  refine (typeByte_any B wb _ f.result _ K1.out.2.1 (by simp only [List.length_append, numL_length]; omega) (Nat.le_trans hB K1.out.2.2.size) hw).mono ?_
  rintro e u2 ⟨rfl, hW, hG⟩
  have K2 : Hid (Blk u2 w.heap.size #[v.p, .int .i64 f.result, v.l, v.c] 62 ∧ WAt B u2 wb ((bs ++ (numL f.params.length 1 ++ f.params.flatMap num1)) ++ numL f.result 1) ∧ Wg B w u2) := ⟨hG.block K1.out.1 (by decide) (by decide), hW, K1.out.2.2.trans hG⟩
  clear hW hG K1 c0 c1 c2 c3
  obtain ⟨c0, c1, c2, c3⟩ := blk4 K2.out.1
  go_wp2_with fail
  refine (putInts_any B wb _ 1 v.l f.locals base _ (by omega) (by omega) HO.out.2.2.1 (by simp only [List.length_append, numL_length]; omega) (Nat.le_trans hB K2.out.2.2.size) hw K2.out.2.1 (K2.out.2.2.ownF HO.out.1).2.1).mono ?_
  rintro e u3 ⟨rfl, hW, hG⟩
  have K3 : Hid (Blk u3 w.heap.size #[v.p, .int .i64 f.result, v.l, v.c] 62 ∧ WAt B u3 wb (((bs ++ (numL f.params.length 1 ++ f.params.flatMap num1)) ++ numL f.result 1) ++ (numL f.locals.length 1 ++ f.locals.flatMap num1)) ∧ Wg B w u3) := ⟨hG.block K2.out.1 (by decide) (by decide), hW, K2.out.2.2.trans hG⟩
  clear hW hG K2 c0 c1 c2 c3
  obtain ⟨c0, c1, c2, c3⟩ := blk4 K3.out.1
  go_wp2_with fail
  refine (putInstrs_any B wb _ 2 v.c f.code base _ (by omega) (by omega) HO.out.2.2.2 (by simp only [List.length_append, numL_length]; omega) (Nat.le_trans hB K3.out.2.2.size) hw K3.out.2.1 (K3.out.2.2.ownF HO.out.1).2.2).mono ?_
  rintro e u4 ⟨rfl, hW, hG⟩
  have K4 : Hid (WAt B u4 wb ((((bs ++ (numL f.params.length 1 ++ f.params.flatMap num1)) ++ numL f.result 1) ++ (numL f.locals.length 1 ++ f.locals.flatMap num1)) ++ (numL f.code.length 2 ++ f.code.flatMap encInstr)) ∧ Wg B w u4) := ⟨hW, K3.out.2.2.trans hG⟩
  clear hW hG K3 c0 c1 c2 c3
  go_wp2
  go_end0
  exact ⟨rfl, K4.out.1, K4.out.2⟩
set_option maxHeartbeats 4000000 in
set_option maxRecDepth 100000 in
theorem putFuncs_any (B wb : Nat) (bs : List Value) (cw : Nat) (s : Value) (ys : List (MF × VF)) (base : Nat) (w : World) (h1 : 1 ≤ cw) (h8 : cw ≤ 8) (hy : ys.length ≤ 1048576) (hb : bs.length + 208 + (ys.flatMap (fun x : MF × VF => encFunc x.1)).length ≤ 1073741000) (hB : B ≤ w.heap.size) (hw : B ≤ wb) (hm : ∀ x ∈ ys, OwnF w base x.2 x.1 ∧ x.1.small) (h : WAt B w wb bs) (hs : w.ownsRow base 62 4 s ys.length (ys.flatMap fCells)) :
    Calls Tryz.prog 38 #[.pointer (some ⟨wb, 0, none⟩), .int .i64 (cw : Int), s, .func (Fn.func 39) #[.pointer (some ⟨wb, 0, none⟩)] #[]] w fun e w' => e = .returned (.tuple #[]) ∧ WAt B w' wb (bs ++ (numL ys.length cw ++ ys.flatMap (fun x : MF × VF => encFunc x.1))) ∧ Wg B w w' := by
  have H : Hid (WAt B w wb bs ∧ w.ownsRow base 62 4 s ys.length (ys.flatMap fCells)) := ⟨h, hs⟩
  have HR : Hid (∀ x ∈ ys, OwnF w base x.2 x.1 ∧ x.1.small) := hm
  clear hm
  obtain ⟨a1, c1, e1⟩ := (Rd.of_own hs).is_slice
  subst e1
  clear h hs
  generalize hLL : ys.length = n at hy H ⊢
  have HL : Hid (ys.length = n) := hLL
  clear hLL
  go_enter Tryz.func38, Tryz.ntmps38
  go_wp2_with fail
  refine (wnumber_any B wb bs (n : Int) cw _ h1 h8 (by omega) hB hw H.out.1).mono ?_
  rintro e u1 ⟨rfl, hW, hG⟩
  have K : Hid (WAt B u1 wb (bs ++ numL n cw) ∧ Wg B w u1) := ⟨hW, hG⟩
  clear hW hG
  go_wp2
  go_loopw [17] (fun i wr => ∃ k : Nat, k ≤ n ∧ i = .int .i64 k ∧ Hid (WAt B wr wb (bs ++ numL n cw ++ (ys.take k).flatMap (fun x : MF × VF => encFunc x.1)) ∧ Wg B w wr)) (fun i _ => n - (intOf i).toNat)
  case atStart => exact ⟨0, by omega, rfl, ⟨by simpa using K.out.1, K.out.2⟩⟩
  case round =>
    clear K
    obtain ⟨k, hk, rfl, HI⟩ := hrel
    by_cases hlt : k < n
    · obtain ⟨⟨f, ⟨vp, vl, vc⟩⟩, hx⟩ : ∃ x, ys[k]? = some x := ⟨_, List.getElem?_eq_getElem (by rw [HL.out]; exact hlt)⟩
      have hO := HR.out _ (List.mem_of_getElem? hx)
      obtain ⟨ap, cp, ep⟩ := (Rd.of_own hO.1.1).is_slice
      obtain ⟨al, cl, el⟩ := (Rd.of_own hO.1.2.1).is_slice
      obtain ⟨ac, cc, ec⟩ := (Rd.of_own hO.1.2.2).is_slice
      simp only [] at ep el ec
      subst ep el ec
      have HO : Hid _ := hO
      clear hO
      have hnx : bs ++ numL n cw ++ (ys.take (k + 1)).flatMap (fun x : MF × VF => encFunc x.1) = bs ++ numL n cw ++ (ys.take k).flatMap (fun x : MF × VF => encFunc x.1) ++ encFunc f := by
        obtain ⟨hlt', he⟩ := List.getElem?_eq_some_iff.1 hx
        rw [List.take_succ_eq_append_getElem hlt', he, List.flatMap_append, ← List.append_assoc]
        simp
      have hlen : (bs ++ numL n cw ++ (ys.take k).flatMap (fun x : MF × VF => encFunc x.1)).length + (encFunc f).length + 100 ≤ 1073741000 := by
        have h1 := flat_take_le (fun x : MF × VF => encFunc x.1) ys (k + 1)
        have h2 := congrArg List.length hnx
        simp only [List.length_append, numL_length] at h2 ⊢
        omega
      rcases (Rd.of_own H.out.2).2 with ⟨e0, _⟩ | ⟨g, o, c, e1, hc1⟩
      · omega
      simp only [Value.slice.injEq, true_and] at e1
      obtain ⟨rfl, rfl⟩ := e1
      have hrow := Rd.of_own (HI.out.2.own H.out.2 (by decide) (by decide))
      rcases hrow.2 with ⟨e0, _⟩ | ⟨g', o', c', e1, hc2⟩
      · omega
      simp only [Value.slice.injEq, Option.some.injEq, Addr.mk.injEq, true_and, and_true] at e1
      obtain ⟨⟨rfl, rfl⟩, rfl⟩ := e1
      have j0 := Rd.elem fCells_length hc2 k _ hx 0 _ rfl
      have j1 := Rd.elem fCells_length hc2 k _ hx 1 _ rfl
      have j2 := Rd.elem fCells_length hc2 k _ hx 2 _ rfl
      have j3 := Rd.elem fCells_length hc2 k _ hx 3 _ rfl
      rw [Nat.add_zero] at j0
      simp only [] at j0 j1 j2 j3
      have HX : Hid (ys[k]? = some (f, (⟨.slice ap f.params.length cp, .slice al f.locals.length cl, .slice ac f.code.length cc⟩ : VF)) ∧ bs ++ numL n cw ++ (ys.take (k + 1)).flatMap (fun x : MF × VF => encFunc x.1) = bs ++ numL n cw ++ (ys.take k).flatMap (fun x : MF × VF => encFunc x.1) ++ encFunc f) := ⟨hx, hnx⟩
      clear hc1 hc2 hx hnx hrow
      have nb : ¬ g = wr.heap.size := Nat.ne_of_lt (block_lt_of_cell j0)
      have mb : g < wr.heap.size := block_lt_of_cell j0
      have HA : Hid (WAt B (wr.alloc (.cells #[.slice ap f.params.length cp, .int .i64 f.result, .slice al f.locals.length cl, .slice ac f.code.length cc] 62)) wb (bs ++ numL n cw ++ (ys.take k).flatMap (fun x : MF × VF => encFunc x.1)) ∧ Wg B w (wr.alloc (.cells #[.slice ap f.params.length cp, .int .i64 f.result, .slice al f.locals.length cl, .slice ac f.code.length cc] 62))) := ⟨HI.out.1.call (below_alloc _ _), HI.out.2.trans (Wg.of_below (below_alloc _ _) (Nat.le_trans hB HI.out.2.size))⟩
      go_wp2_with fail
      refine (wfunc_any B wb _ ⟨.slice ap f.params.length cp, .slice al f.locals.length cl, .slice ac f.code.length cc⟩ f base _ HA.out.1 hlen (Nat.le_trans hB HA.out.2.size) hw HO.out.2 (HA.out.2.ownF HO.out.1)).mono ?_
      rintro e u ⟨rfl, hW, hG⟩
      have HN : Hid (WAt B u wb (bs ++ numL n cw ++ (ys.take (k + 1)).flatMap (fun x : MF × VF => encFunc x.1)) ∧ Wg B w u) := ⟨by rw [HX.out.2]; exact hW, HA.out.2.trans hG⟩
      clear hW hG nb mb j0 j1 j2 j3
      go_wp2
      go_roundw
      case rel => exact ⟨k + 1, by omega, by go_num, HN⟩
      case measure => simp [intOf]; omega
    · have hkn : k = n := by omega
      subst hkn
      have HE : Hid (WAt B wr wb (bs ++ (numL k cw ++ ys.flatMap (fun x : MF × VF => encFunc x.1))) ∧ Wg B w wr) := by
        refine ⟨?_, HI.out.2⟩
        have := HI.out.1
        rw [← HL.out, List.take_length, HL.out, List.append_assoc] at this
        exact this
      go_wp2
      go_end0
      exact ⟨rfl, HE.out.1, HE.out.2⟩
end Go.Proofs.YtmhggeljphfjfaaGreatDoor
