/- Enc2: the state of a call that gathers bytes beside a program of its caller's. -/
import Derived.Test.YtmhggeljphfjfaaGreatDoorEnc1
namespace Go.Proofs.YtmhggeljphfjfaaGreatDoor
open Go.ChangeShapes Go.WideShapes Go.ChangeAt Go.RowKit
set_option linter.unusedVariables false
/-- A block, whole. -/
def Blk (w : World) (b : Nat) (cur : Array Value) (t : TypeId) : Prop := w.heap[b]? = some (.cells cur t (0, 0))
theorem Blk.new (w : World) (cur : Array Value) (t : TypeId) : Blk (w.alloc (.cells cur t)) w.heap.size cur t := Array.getElem?_push_size
theorem Blk.lt {w : World} {b : Nat} {cur : Array Value} {t : TypeId} (h : Blk w b cur t) : b < w.heap.size := (Array.getElem?_eq_some_iff.1 h).1
theorem Blk.keep {w w' : World} {b : Nat} {cur : Array Value} {t : TypeId} (h : Blk w b cur t) (hb : Below w.heap.size w w') : Blk w' b cur t := by
  unfold Blk at *
  rw [hb.block b (Array.getElem?_eq_some_iff.1 h).1]
  exact h
theorem Blk.grown {w w' : World} {b : Nat} {cur : Array Value} {t e : TypeId} (h : Blk w b cur t) {B k m : Nat} {v : Value} {bs : List Value} (hg : w.grownBy w' v.ownBlock) (ho : w.ownsRow B e k v m bs) (hne : t ≠ e) : Blk w' b cur t := by
  unfold Blk at *
  rw [hg.block b (Array.getElem?_eq_some_iff.1 h).1 ?_]
  · exact h
  · intro hv
    rcases ho.2 with ⟨rfl, _⟩ | ⟨g', cap', cur', rfl, _, hg', _⟩
    · cases hv
    · simp only [Value.ownBlock, Option.some.injEq] at hv
      subst hv
      rw [h] at hg'
      simp only [Option.some.injEq, Obj.cells.injEq] at hg'
      exact hne hg'.2.1
theorem Blk.at4 {w : World} {b : Nat} {x y z t : Value} {ty : TypeId} (h : Blk w b #[x, y, z, t] ty) : At4 w b x y z t := by
  have hr : w.ownsRow 0 ty 4 (.slice (some ⟨b, 0, none⟩) 1 1) 1 [x, y, z, t] := ⟨rfl, .inr ⟨b, 1, #[x, y, z, t], rfl, Nat.zero_le _, h, Nat.le_refl _, by unfold maxLen; omega, rfl, rfl⟩⟩
  exact ⟨hr.cellAt 0 (by omega), hr.cellAt 1 (by omega), hr.cellAt 2 (by omega), hr.cellAt 3 (by omega)⟩
/-- In u: the bytes v read bs; the program p of the argument v0 is as it was, and so is all that was there. -/
structure EncAt (w : World) (v0 : VP) (p : MP) (base : Nat) (u : World) (v : Value) (bs : List Value) : Prop where
  own : u.ownsRow w.heap.size 5 1 v bs.length bs
  arg : Blk u w.heap.size #[v0.r, v0.k, v0.f, v0.t] 35
  prog : OwnP u base v0 p
  bel : Below w.heap.size w u
theorem EncAt.call {w : World} {v0 : VP} {p : MP} {base : Nat} {u u' : World} {v : Value} {bs : List Value} (h : EncAt w v0 p base u v bs) (hb : Below u.heap.size u u') : EncAt w v0 p base u' v bs :=
  ⟨own_keep h.own hb (Nat.le_refl _), h.arg.keep hb, h.prog.keep hb (Nat.le_refl _), below_on h.bel (Nat.le_refl _) hb⟩
theorem EncAt.more {w : World} {v0 : VP} {p : MP} {base : Nat} {u u' : World} {v v' : Value} {bs bs' : List Value} (h : EncAt w v0 p base u v bs) (ho : u'.ownsRow w.heap.size 5 1 v' bs'.length bs') (hg : u.grownBy u' v.ownBlock) : EncAt w v0 p base u' v' bs' :=
  ⟨ho, h.arg.grown hg h.own (by decide), h.prog.grown hg h.own, h.bel.grown hg h.bel.size (fun k hk => (h.own.lt k hk).1)⟩
theorem EncAt.put {w : World} {v0 : VP} {p : MP} {base : Nat} {u u' : World} {v v' : Value} {bs news : List Value} (h : EncAt w v0 p base u v bs) (hb : Bw w.heap.size u v u' v' (bs ++ news)) : EncAt w v0 p base u' v' (bs ++ news) := h.more hb.own hb.grown
/-- The bytes of a program's parts. -/
def encRegion (r : List Int) : List Value := numL r.length 2 ++ numsL 1 r
def encConst (c : MC) : List Value := numL c.type 1 ++ numL c.word 4
def encInstr (x : MI) : List Value := numsL 1 [x.op, x.a] ++ numL x.b 2 ++ numL x.c 4
def encFunc (f : MF) : List Value := numL f.params.length 1 ++ numsL 1 f.params ++ numsL 1 [f.result, f.locals.length] ++ numsL 1 f.locals ++ numL f.code.length 2 ++ f.code.flatMap encInstr
def encCert (c : MT) : List Value := numsL 2 [c.func, c.head] ++ numL c.counter 1 ++ numL c.init 4
def magicL : List Value := [.int .u8 80, .int .u8 76, .int .u8 67, .int .u8 49]
def encBody (p : MP) : List Value := magicL ++ numL 1 2 ++ p.regions.flatMap encRegion ++ numL p.consts.length 2 ++ p.consts.flatMap encConst ++ numL p.funcs.length 2 ++ p.funcs.flatMap encFunc ++ numL p.certs.length 2 ++ p.certs.flatMap encCert
theorem encRegion_length (r : List Int) : (encRegion r).length = 2 + r.length := by simp [encRegion, numL_length, numsL_length]
theorem encConst_length (c : MC) : (encConst c).length = 5 := by simp [encConst, numL_length]
theorem encInstr_length (x : MI) : (encInstr x).length = 8 := by simp [encInstr, numL_length, numsL_length]
theorem encCert_length (c : MT) : (encCert c).length = 9 := by simp [encCert, numL_length, numsL_length]
theorem encFunc_length (f : MF) : (encFunc f).length = 5 + f.params.length + f.locals.length + f.code.length * 8 := by
  unfold encFunc
  rw [List.length_append, flat_length encInstr 8 encInstr_length]
  simp [numL_length, numsL_length]
  omega
end Go.Proofs.YtmhggeljphfjfaaGreatDoor
