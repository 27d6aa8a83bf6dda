import Derived.Test.YtnemieeeappgnaaGreatDoorDc5
import Derived.Lib.SmallJoins
import Derived.Deep.Slices
import Derived.Test.YtnemieeeappgnaaGreatDoorDc1
import Derived.Deep.Cut
import Derived.Deep.CutRange
namespace Go.Proofs.YtnemieeeappgnaaGreatDoor
open Go.ChangeShapes Go.WideShapes Go.ChangeAt Go.RowKit
set_option linter.unusedVariables false
structure MP.fits (p : MP) : Prop where
  regions : p.regions.length ≤ 9223372036854775807
  region : ∀ r ∈ p.regions, r.length ≤ 9223372036854775807
  consts : p.consts.length ≤ 9223372036854775807
  funcs : p.funcs.length ≤ 9223372036854775807
  func : ∀ f ∈ p.funcs, f.fits
  certs : p.certs.length ≤ 9223372036854775807
theorem szv_cases {left : Int} {n : Nat} (h0 : 0 ≤ left) (h1 : left ≤ 1048576) : szv left n = -1 ∨ 0 ≤ szv left n ∧ szv left n ≤ left ∧ (n : Int) ≤ left := by
  unfold szv
  by_cases h : left - n < 0
  · rw [if_pos h]; exact .inl rfl
  · rw [if_neg h]; exact .inr ⟨by omega, by omega, by omega⟩
/-- A call's one argument of four cells. -/
structure Fr1 (w u : World) (tp : TypeId) (p : List Value) : Prop where
  par : u.ownsRow w.heap.size tp 4 (.slice (some ⟨w.heap.size, 0, none⟩) 1 1) 1 p
  bel : Below w.heap.size w u
theorem Fr1.of (w : World) (tp : TypeId) (p : Array Value) (hp : p.size = 4) : Fr1 w (w.alloc (.cells p tp)) tp p.toList :=
  ⟨World.ownsRow_lit (base := w.heap.size) (e := tp) (size := 4) w p 1 (Nat.le_refl _) (by unfold maxLen; omega) (by omega), (Below.refl _ _).alloc (Nat.le_refl _) _⟩
theorem Fr1.keep {w u u' : World} {tp : TypeId} {p : List Value} (h : Fr1 w u tp p) (hb : Below u.heap.size u u') : Fr1 w u' tp p :=
  ⟨own_keep h.par hb (Nat.le_refl _), h.bel.trans (hb.mono h.bel.size)⟩

end Go.Proofs.YtnemieeeappgnaaGreatDoor
namespace Go.Proofs.YtnemieeeappgnaaGreatDoor
open Go.ChangeShapes Go.WideShapes Go.ChangeAt Go.RowKit
set_option linter.unusedVariables false
section
variable {H : Type} {enc : TypeId × Value → H} {P : Program} {w : World} {spare : Nat → Bool} {held : Bool}
theorem add_at (b off : Nat) (i : Nat) : (⟨b, off, none⟩ : Addr).add i = ⟨b, off + i, none⟩ := by unfold Addr.add; split <;> simp_all
/-- A slice whose elements read each as one of a family. -/
theorem open_rows {α : Type} [Inhabited α] (f : α → List Value) (G : α → Prop) (m : Nat) (hf : ∀ y, (f y).length = m) (h0 : 0 < m) {t e : TypeId} (ht : P.underlying t = some (.slice e)) (hm : P.cellsOf e = m)
    (hel : ∀ fuel cs x, DataW.trod enc P w 0 spare held fuel e cs = some x → ∃ y, cs = f y ∧ G y) {fuel : Nat} {cs : List Value} {x : DataW H × List MemPlace} (h : DataW.trod enc P w 0 spare held fuel t cs = some x) :
    ∃ (s : Value) (ys : List α), cs = [s] ∧ Rd w m s ys.length (ys.flatMap f) ∧ ys.length ≤ maxLen ∧ ∀ y ∈ ys, G y := by
  rcases DataW.trod_slice ht h with ⟨rfl, _⟩ | ⟨a, len, cap, elems, rest, n, _, rfl, _, _, hl, hmx, hlen, hE, _, _⟩
  · exact ⟨_, [], rfl, ⟨by simp, .inl ⟨rfl, _, _, rfl⟩⟩, by simp, fun y hy => by cases hy⟩
  · rw [hm] at hE
    have hy : ∀ i, i < len → ∃ y, w.cells? 0 (a.add (i * m)) m = some (f y) ∧ G y := by
      intro i hi
      have h1 := hE i hi
      rw [List.getElem?_eq_getElem (by omega)] at h1
      obtain ⟨cs', hc, hx⟩ := Option.bind_eq_some_iff.1 h1
      obtain ⟨y, rfl, hg⟩ := hel _ _ _ hx
      exact ⟨y, hc, hg⟩
    obtain ⟨F, hF⟩ := Go.Deep.choose_lt hy
    refine ⟨_, (List.range len).map F, rfl, ⟨?_, ?_⟩, by simp; omega, ?_⟩
    · rw [flat_length f m hf]
    · by_cases hz : len = 0
      · subst hz
        exact .inl ⟨by simp, _, _, rfl⟩
      · obtain ⟨b, off, spot⟩ := a
        have hc0 := (World.cells?_some (hF 0 (by omega)).1).2.2 0 h0
        have hfl : 0 < (f (F 0)).length := by rw [hf]; exact h0
        rw [List.getElem?_eq_getElem hfl] at hc0
        have hspot : spot = none := by simpa [Addr.add] using World.cell?_spot hc0
        subst hspot
        refine .inr ⟨b, off, cap, by simp, fun j u hj => ?_⟩
        have hjl : j < len * m := by
          have := (List.getElem?_eq_some_iff.1 hj).1
          rw [flat_length f m hf] at this
          simpa using this
        have hq : j / m < len := (Nat.div_lt_iff_lt_mul h0).2 hjl
        have hr := Nat.mod_lt j h0
        have ej : j = j / m * m + j % m := by rw [Nat.mul_comm]; exact (Nat.div_add_mod j m).symm
        have hk : ((List.range len).map F)[j / m]? = some (F (j / m)) := by simp [hq]
        have hcell := (World.cells?_some (hF (j / m) hq).1).2.2 (j % m) hr
        have hat := flat_at f m hf _ (j / m) (j % m) _ hk hr
        rw [← ej, hj] at hat
        rw [add_at, add_at, Nat.add_assoc, ← ej] at hcell
        rw [hcell, ← hat]
    · intro y hy'
      obtain ⟨i, hi, rfl⟩ := List.mem_map.1 hy'
      exact (hF i (List.mem_range.1 hi)).2
end
end Go.Proofs.YtnemieeeappgnaaGreatDoor
namespace Go.Proofs.YtnemieeeappgnaaGreatDoor
open Go.ChangeShapes Go.WideShapes Go.ChangeAt Go.RowKit
set_option linter.unusedVariables false
instance : Inhabited MI := ⟨⟨0, 0, 0, 0⟩⟩
instance : Inhabited MC := ⟨⟨0, 0⟩⟩
instance : Inhabited MT := ⟨⟨0, 0, 0, 0⟩⟩
instance : Inhabited MF := ⟨⟨[], 0, [], []⟩⟩
instance : Inhabited VF := ⟨⟨.bool true, .bool true, .bool true⟩⟩
def W64 (z : Int) : Prop := (Lit.int .i64 z).wf = true
def W32 (z : Int) : Prop := (Lit.int .u32 z).wf = true
def MI.wf (x : MI) : Prop := W64 x.op ∧ W64 x.a ∧ W64 x.b ∧ W64 x.c
def MC.wf (x : MC) : Prop := W64 x.type ∧ W32 x.word
def MT.wf (x : MT) : Prop := W64 x.func ∧ W64 x.head ∧ W64 x.counter ∧ W32 x.init
structure MF.wf (f : MF) : Prop where
  params : ∀ z ∈ f.params, W64 z
  result : W64 f.result
  locals : ∀ z ∈ f.locals, W64 z
  code : ∀ x ∈ f.code, x.wf
structure MP.wf (p : MP) : Prop where
  regions : ∀ r ∈ p.regions, ∀ z ∈ r, W64 z
  consts : ∀ x ∈ p.consts, x.wf
  funcs : ∀ f ∈ p.funcs, f.wf
  certs : ∀ x ∈ p.certs, x.wf
theorem cells64 : Tryz.prog.cellsOf 2 = 1 := by kernel_rfl
theorem cells32 : Tryz.prog.cellsOf 41 = 1 := by kernel_rfl
theorem cellsS64 : Tryz.prog.cellsOf 57 = 1 := by kernel_rfl
theorem cellsSS64 : Tryz.prog.cellsOf 23 = 1 := by kernel_rfl
section
variable {H : Type} {enc : TypeId × Value → H} {w : World} {spare : Nat → Bool} {held : Bool} {fuel : Nat} {cs : List Value} {x : DataW H × List MemPlace}
theorem four {cs : List Value} (h : cs.length = 4) : ∃ a b c d, cs = [a, b, c, d] := by
  match cs, h with
  | [a, b, c, d], _ => exact ⟨a, b, c, d, rfl⟩
theorem two {cs : List Value} (h : cs.length = 2) : ∃ a b, cs = [a, b] := by
  match cs, h with
  | [a, b], _ => exact ⟨a, b, rfl⟩
theorem open_i64 (h : DataW.trod enc Tryz.prog w 0 spare held fuel 2 cs = some x) : ∃ z, cs = intCell z ∧ W64 z := by
  obtain ⟨n, h1, _, h2⟩ := DataW.trod_int Tryz.underlying2 h
  exact ⟨n, h1, h2⟩
theorem open_u32 (h : DataW.trod enc Tryz.prog w 0 spare held fuel 41 cs = some x) : ∃ z, cs = [.int .u32 z] ∧ W32 z := by
  obtain ⟨n, h1, _, h2⟩ := DataW.trod_int Tryz.underlying41 h
  exact ⟨n, h1, h2⟩
theorem open_ints64 (h : DataW.trod enc Tryz.prog w 0 spare held fuel 57 cs = some x) : ∃ y : List Int × Value, cs = rCells y ∧ Rd w 1 y.2 y.1.length (y.1.flatMap intCell) ∧ y.1.length ≤ maxLen ∧ ∀ z ∈ y.1, W64 z := by
  obtain ⟨s, ys, e, h1, h2, h3⟩ := open_rows intCell W64 1 intCell_length (by omega) Tryz.underlying57 cells64 (fun _ _ _ => open_i64) h
  exact ⟨(ys, s), e, h1, h2, h3⟩
end
end Go.Proofs.YtnemieeeappgnaaGreatDoor
namespace Go.Proofs.YtnemieeeappgnaaGreatDoor
open Go.ChangeShapes Go.WideShapes Go.ChangeAt Go.RowKit
set_option linter.unusedVariables false
/-- What is read from a place on, and the place behind it; none: there is too little. -/
abbrev Rdr (α : Type) := Nat → Option (α × Nat)
def numR (zs : List Int) (n : Nat) : Rdr Int := fun k => if k + n ≤ zs.length then some (wrap64 (getAcc zs k n), k + n) else none
def thenR {α β : Type} (r : Rdr α) (f : α → Rdr β) : Rdr β := fun k => match r k with | none => none | some (x, k1) => f x k1
def giveR {α : Type} (x : α) : Rdr α := fun k => some (x, k)
def manyR {α : Type} (r : Rdr α) : Nat → Rdr (List α)
  | 0 => giveR []
  | c + 1 => thenR (manyR r c) fun xs => thenR r fun x => giveR (xs ++ [x])
theorem thenR_some {α β : Type} {r : Rdr α} {f : α → Rdr β} {k k1 : Nat} {x : α} (h : r k = some (x, k1)) : thenR r f k = f x k1 := by unfold thenR; rw [h]
theorem thenR_none {α β : Type} {r : Rdr α} {f : α → Rdr β} {k : Nat} (h : r k = none) : thenR r f k = none := by unfold thenR; rw [h]
/-- As many as a number says that stands ahead of them. -/
def listR {α : Type} (zs : List Int) (n : Nat) (r : Rdr α) : Rdr (List α) := thenR (numR zs n) fun c => manyR r c.toNat
def typesR (zs : List Int) (n : Nat) : Rdr (List Int) := listR zs n (numR zs 1)
def constR (zs : List Int) : Rdr MC := thenR (numR zs 1) fun t => thenR (numR zs 4) fun x => giveR ⟨t, x⟩
def instrR (zs : List Int) : Rdr MI := thenR (numR zs 1) fun o => thenR (numR zs 1) fun a => thenR (numR zs 2) fun b => thenR (numR zs 4) fun c => giveR ⟨o, a, b, c⟩
def funcR (zs : List Int) : Rdr MF := thenR (typesR zs 1) fun ps => thenR (numR zs 1) fun r => thenR (typesR zs 1) fun ls => thenR (listR zs 2 (instrR zs)) fun code => giveR ⟨ps, r, ls, code⟩
def certR (zs : List Int) : Rdr MT := thenR (numR zs 2) fun f => thenR (numR zs 2) fun h => thenR (numR zs 1) fun c => thenR (numR zs 4) fun i => giveR ⟨f, h, c, i⟩
def progR (zs : List Int) : Rdr MP := thenR (manyR (typesR zs 2) 3) fun rs => thenR (listR zs 2 (constR zs)) fun cs => thenR (listR zs 2 (funcR zs)) fun fs => thenR (listR zs 2 (certR zs)) fun ts => giveR ⟨rs, cs, fs, ts⟩
/-- A place never falls, and never passes the end. -/
theorem numR_at {zs : List Int} {n k k1 : Nat} {x : Int} (h : numR zs n k = some (x, k1)) : k1 = k + n ∧ k1 ≤ zs.length ∧ x = wrap64 (getAcc zs k n) := by
  unfold numR at h
  split at h
  · simp only [Option.some.injEq, Prod.mk.injEq] at h; exact ⟨h.2.symm, by omega, h.1.symm⟩
  · cases h
theorem many_short {α : Type} {r : Rdr α} {c d k : Nat} (h : manyR r c k = none) (hd : c ≤ d) : manyR r d k = none := by
  induction d with
  | zero => obtain rfl : c = 0 := by omega
            exact h
  | succ d ih =>
    by_cases e : c = d + 1
    · rw [← e]; exact h
    · exact thenR_none (ih (by omega))
theorem many_next {α : Type} {r : Rdr α} {c k k1 k2 : Nat} {xs : List α} {x : α} (h : manyR r c k = some (xs, k1)) (hx : r k1 = some (x, k2)) : manyR r (c + 1) k = some (xs ++ [x], k2) := by
  show thenR (manyR r c) _ k = _
  rw [thenR_some h, thenR_some hx]; rfl
theorem many_stop {α : Type} {r : Rdr α} {c k k1 : Nat} {xs : List α} (h : manyR r c k = some (xs, k1)) (hx : r k1 = none) : manyR r (c + 1) k = none := by
  show thenR (manyR r c) _ k = _
  rw [thenR_some h, thenR_none hx]
theorem many_length {α : Type} {r : Rdr α} {c k k1 : Nat} {xs : List α} (h : manyR r c k = some (xs, k1)) : xs.length = c := by
  induction c generalizing xs k1 with
  | zero => simp only [manyR, giveR, Option.some.injEq, Prod.mk.injEq] at h; rw [← h.1]; rfl
  | succ c ih =>
    simp only [manyR] at h
    cases e : manyR r c k with
    | none => rw [thenR_none e] at h; cases h
    | some y =>
      obtain ⟨ys, k3⟩ := y
      rw [thenR_some e] at h
      cases e2 : r k3 with
      | none => rw [thenR_none e2] at h; cases h
      | some z =>
        obtain ⟨z, k4⟩ := z
        rw [thenR_some e2] at h
        simp only [giveR, Option.some.injEq, Prod.mk.injEq] at h
        rw [← h.1, List.length_append, ih e]; rfl
/-- What a reader of its own state does: it reads as told, or is spoilt. -/
def Reads' {α : Type} (r : Rdr α) (k : Nat) (bad : Bool) (x : α) (k' : Nat) (bad' : Bool) : Prop := (bad = false ∧ bad' = false ∧ r k = some (x, k')) ∨ (bad' = true ∧ (bad = true ∨ r k = none))
end Go.Proofs.YtnemieeeappgnaaGreatDoor
namespace Go.Proofs.YtnemieeeappgnaaGreatDoor
open Go.ChangeShapes Go.WideShapes Go.ChangeAt Go.RowKit
set_option linter.unusedVariables false
theorem or64 (x y : Nat) (hx : x < 18446744073709551616) (hy : y < 18446744073709551616) : bits .or .u64 (x : Int) (y : Int) = ((x ||| y : Nat) : Int) := by
  show (((BitVec.ofInt 64 (x : Int) ||| BitVec.ofInt 64 (y : Int)).toNat : Nat) : Int) % 2 ^ 64 = _
  rw [BitVec.ofInt_natCast, BitVec.ofInt_natCast, BitVec.toNat_or, BitVec.toNat_ofNat, BitVec.toNat_ofNat, Nat.mod_eq_of_lt hx, Nat.mod_eq_of_lt hy]
  have := Nat.or_lt_two_pow (n := 64) hx hy
  omega
/-- All are bytes. -/
def AllB (zs : List Int) : Prop := ∀ j, 0 ≤ zs.getD j 0 ∧ zs.getD j 0 ≤ 255
theorem getAcc_bd (zs : List Int) (hz : AllB zs) (p : Nat) : ∀ n, n ≤ 7 → ∃ x : Nat, getAcc zs p n = (x : Int) ∧ x < 2 ^ (8 * n)
  | 0, _ => ⟨0, rfl, by decide⟩
  | n + 1, hn => by
    obtain ⟨x, hx, hlt⟩ := getAcc_bd zs hz p n (by omega)
    have hb := hz (p + n)
    rw [List.getD_eq_getElem?_getD] at hb
    obtain ⟨c, hc⟩ := Int.eq_ofNat_of_zero_le hb.1
    have hP56 : (2 : Nat) ^ (8 * n) ≤ 2 ^ 48 := Nat.pow_le_pow_right (by decide) (by omega)
    have hcast : ((2 ^ (8 * n) : Nat) : Int) = 2 ^ (8 * n) := by simp
    have hc' : c ≤ 255 := by omega
    have hcP : c * 2 ^ (8 * n) ≤ 255 * 2 ^ (8 * n) := Nat.mul_le_mul_right _ hc'
    have hpow : (2 : Nat) ^ (8 * (n + 1)) = 256 * 2 ^ (8 * n) := by rw [show 8 * (n + 1) = 8 * n + 8 by omega, Nat.pow_add, Nat.mul_comm]
    have w1 : IntKind.u64.wrap (c : Int) = (c : Int) := by
      show (c : Int) % 2 ^ 64 = c
      omega
    have w2 : IntKind.u64.wrap ((c : Int) * 2 ^ (8 * n)) = ((c * 2 ^ (8 * n) : Nat) : Int) := by
      show (c : Int) * 2 ^ (8 * n) % 2 ^ 64 = _
      rw [← hcast, ← Int.natCast_mul]
      generalize c * 2 ^ (8 * n) = q at *
      omega
    refine ⟨x ||| (c * 2 ^ (8 * n)), ?_, ?_⟩
    · show bits .or .u64 (getAcc zs p n) _ = _
      rw [hx, hc, w1, w2, or64 _ _ (by omega) (by omega)]
    · refine Nat.or_lt_two_pow (by rw [hpow]; omega) (by rw [hpow]; omega)
theorem numR_val {zs : List Int} (hz : AllB zs) {n k k1 : Nat} {x : Int} (hn : n ≤ 7) (h : numR zs n k = some (x, k1)) : 0 ≤ x ∧ x < 2 ^ (8 * n) := by
  obtain ⟨_, _, rfl⟩ := numR_at h
  obtain ⟨y, hy, hlt⟩ := getAcc_bd zs hz k n hn
  rw [hy]
  have h56 : (2 : Nat) ^ (8 * n) ≤ 2 ^ 56 := Nat.pow_le_pow_right (by decide) (by omega)
  have hcast : ((2 ^ (8 * n) : Nat) : Int) = 2 ^ (8 * n) := by simp
  have e : wrap64 (y : Int) = y := by unfold wrap64; omega
  rw [e, ← hcast]
  omega
end Go.Proofs.YtnemieeeappgnaaGreatDoor
namespace Go.Proofs.YtnemieeeappgnaaGreatDoor
open Go.ChangeShapes Go.WideShapes Go.ChangeAt Go.RowKit
set_option linter.unusedVariables false
structure At4 (w : World) (b : Nat) (x y z t : Value) : Prop where
  c0 : w.cell? ⟨b, 0, none⟩ = some x
  c1 : w.cell? ⟨b, 1, none⟩ = some y
  c2 : w.cell? ⟨b, 2, none⟩ = some z
  c3 : w.cell? ⟨b, 3, none⟩ = some t
theorem At4.lt {w : World} {b : Nat} {x y z t : Value} (h : At4 w b x y z t) : b < w.heap.size := block_lt_of_cell h.c0
theorem At4.keep {w w' : World} {b : Nat} {x y z t : Value} (h : At4 w b x y z t) (hb : Below w.heap.size w w') : At4 w' b x y z t :=
  ⟨by rw [hb.cell h.lt]; exact h.c0, by rw [hb.cell h.lt]; exact h.c1, by rw [hb.cell h.lt]; exact h.c2, by rw [hb.cell h.lt]; exact h.c3⟩
theorem At4.new (w : World) (x y z t : Value) (ty : TypeId) : At4 (w.alloc (.cells #[x, y, z, t] ty)) w.heap.size x y z t := by
  have h := World.ownsRow_lit (base := w.heap.size) (e := ty) (size := 4) w #[x, y, z, t] 1 (Nat.le_refl _) (by unfold maxLen; omega) (by simp)
  exact ⟨h.cellAt 0 (by omega), h.cellAt 1 (by omega), h.cellAt 2 (by omega), h.cellAt 3 (by omega)⟩
theorem At4.alloc {w : World} {b : Nat} {x y z t : Value} (h : At4 w b x y z t) (o : Obj) : At4 (w.alloc o) b x y z t := h.keep ((Below.refl _ _).alloc (Nat.le_refl _) _)
theorem below_alloc (w : World) (o : Obj) : Below w.heap.size w (w.alloc o) := (Below.refl _ _).alloc (Nat.le_refl _) _
theorem below_drew1 (w : World) : Below w.heap.size w w.drew := ⟨rfl, rfl, rfl, Nat.le_refl _, fun _ _ => rfl⟩
theorem below_on {B : Nat} {w u u' : World} (h : Below B w u) (hB : B ≤ w.heap.size) (h' : Below u.heap.size u u') : Below B w u' := h.trans (h'.mono (Nat.le_trans hB h.size))
end Go.Proofs.YtnemieeeappgnaaGreatDoor
namespace Go.Proofs.YtnemieeeappgnaaGreatDoor
open Go.ChangeShapes Go.WideShapes Go.ChangeAt Go.RowKit
set_option linter.unusedVariables false
def Blk (w : World) (b : Nat) (cur : Array Value) (t : TypeId) : Prop := w.heap[b]? = some (.cells cur t (0, 0))
theorem Blk.new (w : World) (cur : Array Value) (t : TypeId) : Blk (w.alloc (.cells cur t)) w.heap.size cur t := Array.getElem?_push_size
theorem Blk.lt {w : World} {b : Nat} {cur : Array Value} {t : TypeId} (h : Blk w b cur t) : b < w.heap.size := (Array.getElem?_eq_some_iff.1 h).1
theorem Blk.keep {w w' : World} {b : Nat} {cur : Array Value} {t : TypeId} (h : Blk w b cur t) (hb : Below w.heap.size w w') : Blk w' b cur t := by
  unfold Blk at *
  rw [hb.block b (Array.getElem?_eq_some_iff.1 h).1]
  exact h
theorem Blk.cell {w : World} {b : Nat} {cur : Array Value} {t : TypeId} (h : Blk w b cur t) (i : Nat) : w.cell? ⟨b, i, none⟩ = cur[i]? := cell_of_row w b i cur t _ h
theorem Blk.frozen {w : World} {b : Nat} {cur : Array Value} {t : TypeId} (h : Blk w b cur t) (i : Nat) : w.frozen? ⟨b, i, none⟩ = false := frozen_of_row w b i cur t h
theorem Blk.set {w : World} {b : Nat} {cur : Array Value} {t : TypeId} (h : Blk w b cur t) (i : Nat) (x : Value) : Blk (w.setCell ⟨b, i, none⟩ x) b (cur.setIfInBounds i x) t := heap_setCell_same w b i cur t x h
theorem Blk.other {w : World} {b : Nat} {cur : Array Value} {t : TypeId} (h : Blk w b cur t) {a : Addr} (ha : b ≠ a.block) (x : Value) : Blk (w.setCell a x) b cur t := by
  unfold Blk at *
  rw [heap_setCell_other w a b x ha]
  exact h
theorem Blk.grown {w w' : World} {b : Nat} {cur : Array Value} {t e : TypeId} (h : Blk w b cur t) {B k m : Nat} {v : Value} {bs : List Value} (hg : w.grownBy w' v.ownBlock) (ho : w.ownsRow B e k v m bs) (hne : t ≠ e) : Blk w' b cur t := by
  unfold Blk at *
  rw [hg.block b (Array.getElem?_eq_some_iff.1 h).1 ?_]
  · exact h
  · intro hv
    rcases ho.2 with ⟨rfl, _⟩ | ⟨g', cap', cur', rfl, _, hg', _⟩
    · cases hv
    · simp only [Value.ownBlock, Option.some.injEq] at hv
      subst hv
      rw [h] at hg'
      simp only [Option.some.injEq, Obj.cells.injEq] at hg'
      exact hne hg'.2.1
end Go.Proofs.YtnemieeeappgnaaGreatDoor
namespace Go.Proofs.YtnemieeeappgnaaGreatDoor
open Go.ChangeShapes Go.WideShapes Go.ChangeAt Go.RowKit
set_option linter.unusedVariables false
/-- Blocks outside of R are as they were. -/
structure Chg (R : Nat → Prop) (u u' : World) : Prop where
  os : u'.os = u.os
  tape : u'.tape = u.tape
  output : u'.output = u.output
  size : u.heap.size ≤ u'.heap.size
  block : ∀ k, k < u.heap.size → ¬ R k → u'.heap[k]? = u.heap[k]?
theorem Chg.of {R : Nat → Prop} {u u' : World} (h : Below u.heap.size u u') : Chg R u u' := ⟨h.os, h.tape, h.output, h.size, fun k hk _ => h.block k hk⟩
theorem Chg.refl (R : Nat → Prop) (u : World) : Chg R u u := ⟨rfl, rfl, rfl, Nat.le_refl _, fun _ _ _ => rfl⟩
theorem Chg.trans {R R' : Nat → Prop} {a b c : World} (h : Chg R a b) (h' : Chg R' b c) (hR : ∀ k, k < a.heap.size → R' k → R k) : Chg R a c := ⟨h'.os.trans h.os, h'.tape.trans h.tape, h'.output.trans h.output, Nat.le_trans h.size h'.size, fun k hk hn => (h'.block k (Nat.lt_of_lt_of_le hk h.size) (fun e => hn (hR k hk e))).trans (h.block k hk hn)⟩
theorem Chg.on {R : Nat → Prop} {a b c : World} (h : Chg R a b) (h' : Chg R b c) : Chg R a c := h.trans h' (fun _ _ e => e)
theorem Chg.below {R : Nat → Prop} {a b : World} (h : Chg R a b) {B : Nat} (hB : B ≤ a.heap.size) (hR : ∀ k, k < B → ¬ R k) : Below B a b := ⟨h.os, h.tape, h.output, h.size, fun k hk => h.block k (by omega) (hR k hk)⟩
theorem Chg.blk {R : Nat → Prop} {a b : World} (h : Chg R a b) {g : Nat} {cur : Array Value} {ty : TypeId} (hg : Blk a g cur ty) (hn : ¬ R g) : Blk b g cur ty := by
  unfold Blk at *
  rw [h.block g (Array.getElem?_eq_some_iff.1 hg).1 hn]
  exact hg
theorem Chg.setCell {R : Nat → Prop} {a b : World} (h : Chg R a b) {ad : Addr} (ha : R ad.block ∨ a.heap.size ≤ ad.block) (x : Value) : Chg R a (b.setCell ad x) := by
  refine ⟨h.os, h.tape, h.output, by rw [World.size_setCell]; exact h.size, fun k hk hn => ?_⟩
  have hne : k ≠ ad.block := fun e => by
    rcases ha with ha | ha
    · exact hn (e ▸ ha)
    · omega
  rw [Below.heap_setCell _ _ _ _ hne]
  exact h.block k hk hn
theorem Chg.grown {R : Nat → Prop} {a b c : World} (h : Chg R a b) {r : Option Nat} (hg : b.grownBy c r) (hr : ∀ k, k < a.heap.size → some k = r → R k) : Chg R a c := ⟨hg.os.trans h.os, hg.tape.trans h.tape, hg.output.trans h.output, Nat.le_trans h.size hg.size, fun k hk hn => (hg.block k (Nat.lt_of_lt_of_le hk h.size) (fun e => hn (hr k hk e))).trans (h.block k hk hn)⟩
theorem Chg.own {R : Nat → Prop} {u u' : World} (hc : Chg R u u') {B : Nat} {e : TypeId} {k n : Nat} {s : Value} {xs : List Value} (h : u.ownsRow B e k s n xs) (hn : ∀ b, s.ownBlock = some b → ¬ R b) : u'.ownsRow B e k s n xs := by
  refine ⟨h.1, ?_⟩
  rcases h.2 with h2 | ⟨g, cap, cur, e1, hb1, hg, hr⟩
  · exact .inl h2
  · refine .inr ⟨g, cap, cur, e1, hb1, ?_, hr⟩
    rw [hc.block g (Array.getElem?_eq_some_iff.1 hg).1 (hn g (by rw [e1]; rfl))]
    exact hg
theorem Chg.cell {R : Nat → Prop} {u u' : World} (h : Chg R u u') {ad : Addr} {v : Value} (hc : u.cell? ad = some v) (hn : ¬ R ad.block) : u'.cell? ad = some v := by
  rw [World.cell?_of_block (h.block _ (block_lt_of_cell hc) hn)]
  exact hc
end Go.Proofs.YtnemieeeappgnaaGreatDoor
