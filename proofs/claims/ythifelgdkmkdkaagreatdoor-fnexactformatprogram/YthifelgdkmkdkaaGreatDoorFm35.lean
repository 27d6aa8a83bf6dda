import Derived.Test.YthifelgdkmkdkaaGreatDoorFm29
import Derived.Test.YthifelgdkmkdkaaGreatDoorFm32
import Derived.Test.YthifelgdkmkdkaaGreatDoorFm10
import Derived.Test.YthifelgdkmkdkaaGreatDoorFm34
namespace Go.Proofs.YthifelgdkmkdkaaGreatDoor
open Go.ChangeShapes Go.WideShapes Go.ChangeAt Go.RowKit
set_option linter.unusedVariables false
/-- The program's copy lies in the block that the call laid first; out holds the bytes l. -/
structure FmAt (w u : World) (v : VP) (V : Value) (l : List UInt8) : Prop where
  bel : Below w.heap.size w u
  prog : Blk u w.heap.size #[v.r, v.k, v.f, v.t] 34
  own : u.ownsRow (w.heap.size + 1) 5 1 V l.length (Lib.byteCells l)
theorem FmAt.call {w u u' : World} {v : VP} {V : Value} {l : List UInt8} (h : FmAt w u v V l) (hb : Below u.heap.size u u') : FmAt w u' v V l := ⟨below_on h.bel (Nat.le_refl _) hb, h.prog.keep hb, own_keep h.own hb (Nat.le_refl _)⟩
theorem FmAt.more {w u u' : World} {v : VP} {V V' : Value} {l : List UInt8} {s : ByteArray} (h : FmAt w u v V l) (ho : u'.ownsRow (w.heap.size + 1) 5 1 V' (l.length + s.size) (Lib.byteCells l ++ Lib.strCells s)) (hg : u.grownBy u' V.ownBlock) (t : List UInt8) (ht : s.data.toList = t) : FmAt w u' v V' (l ++ t) := by
  refine ⟨h.bel.grown hg h.bel.size (fun k hk => by have := (h.own.lt k hk).1; omega), h.prog.grown hg h.own (by decide), ?_⟩
  rw [Lib.strCells_eq, ← Lib.byteCells_append, ht] at ho
  rw [List.length_append]
  have e : s.size = t.length := by rw [← ht, Array.length_toList]; rfl
  rw [e] at ho
  exact ho
theorem FmAt.size {w u : World} {v : VP} {V : Value} {l : List UInt8} (h : FmAt w u v V l) : w.heap.size + 1 ≤ u.heap.size := h.prog.lt
/-- The text, or none where there is a fault. -/
def fmText (n : Int) (p : MP) : List UInt8 := if n = 0 then textL p else []
def FmRes (e : Ending) (p : MP) : Prop := ∃ n, FaultIs p n ∧ e = .returned (strV (fmText n p))
theorem FmRes.bad {p : MP} {n : Int} (h : FaultIs p n) (hn : ¬ n = 0) : FmRes (.returned (.string ⟨#[]⟩)) p := ⟨n, h, by rw [fmText, if_neg hn]; rfl⟩
theorem FmRes.good {p : MP} {l : List UInt8} (h : FaultIs p 0) (hl : l = textL p) : FmRes (.returned (.string ⟨l.toArray⟩)) p := ⟨0, h, by rw [fmText, if_pos rfl, hl]; rfl⟩
/-- A program without a fault. -/
structure Sound (p : MP) : Prop where
  regions : RegionsOk p.regions
  consts : ConstsOk p.consts
  funcs : FuncsOk p.funcs
  code : CodeOk p
  certs : CertsOk p
theorem FaultIs.sound {p : MP} (h : FaultIs p 0) : Sound p := by
  rcases h with h | h | h | h | h | h
  · omega
  · omega
  · omega
  · omega
  · omega
  · exact ⟨h.2.1, h.2.2.1, h.2.2.2.1, h.2.2.2.2.1, h.2.2.2.2.2⟩
theorem Sound.reg {p : MP} (h : Sound p) : p.regions.length = 3 := h.regions.1
theorem CertOk.ge {p : MP} {c : MT} (h : CertOk p c) : 0 ≤ c.func ∧ 0 ≤ c.head ∧ 0 ≤ c.counter := by
  obtain ⟨f, _, h1, h2, _, h3⟩ := h
  exact ⟨h1, h2, localOf_ge (by rw [h3]; decide)⟩
theorem Sound.cert {p : MP} (h : Sound p) {k : Nat} {c : MT} (hc : p.certs[k]? = some c) : 0 ≤ c.func ∧ 0 ≤ c.head ∧ 0 ≤ c.counter := (h.certs.2 k (List.getElem?_eq_some_iff.1 hc).1 c hc).1.ge
theorem Sound.instr {p : MP} (h : Sound p) {k q : Nat} {f : MF} {x : MI} (hf : p.funcs[k]? = some f) (hx : f.code[q]? = some x) : InstrOk p f x := h.code k (List.getElem?_eq_some_iff.1 hf).1 f hf q (List.getElem?_eq_some_iff.1 hx).1 x hx
theorem Sound.regionLen {p : MP} (h : Sound p) {k : Nat} {r : List Int} (hr : p.regions[k]? = some r) : r.length ≤ 256 := (h.regions.2 k (List.getElem?_eq_some_iff.1 hr).1 r hr).1
theorem textL_pos {p : MP} (h : Sound p) : 0 < (textL p).length := by
  obtain ⟨r, rs, e⟩ : ∃ r rs, p.regions = r :: rs := by
    cases e : p.regions with
    | nil => have := h.reg; rw [e] at this; cases this
    | cons r rs => exact ⟨r, rs, rfl⟩
  rw [textL, e, List.flatMap_cons, regionL, lineT]
  simp
end Go.Proofs.YthifelgdkmkdkaaGreatDoor
