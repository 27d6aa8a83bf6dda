/- KMap: a set of pointers that the call made. -/
import Derived.Test.YtjlnglgfehefdaaKWork
import Derived.LaidEqlPtr
import Derived.MapKept
namespace Go.Proofs.Ytjlnglgfehefdaa
open Go.ChangeShapes Go.WideShapes Go.ChangeAt Go.RowKit
set_option linter.unusedVariables false
/-- A block of cells that nobody froze. -/
def Plain (w : World) (a : Addr) : Prop := ∃ cur ty, w.heap[a.block]? = some (.cells cur ty (0, 0))
theorem infoSt : ∃ j, Try.prog.info? 35 = some j ∧ j.size ≠ 0 := by
  obtain ⟨i0, hi, hz0, hz1, hz2⟩ := info_parts infoS
  exact ⟨i0, hi, by omega⟩
theorem equal_ptr {w : World} {a b : Addr} (ha : Plain w a) (hb : Plain w b) : ∃ r : Bool, (Op.equal 46 (.pointer (some a)) (.pointer (some b))).run Try.prog w = .ok r w ∧ (r = true → a = b) := by
  obtain ⟨j, hj, hs⟩ := infoSt
  obtain ⟨ca, ta, ha⟩ := ha
  obtain ⟨cb, tb, hb⟩ := hb
  by_cases e : a = b
  · subst e
    refine ⟨true, ?_, fun _ => rfl⟩
    have h : ∀ d : Nat, (Op.equalIn (d + 1) 46 (.pointer (some a)) (.pointer (some a))).run Try.prog w = .ok true w := fun d => by
      simp [Op.equalIn, run_underlying Try.underlying46, sizeOf, typeInfo, hj, run_sameAddr_same]
    simp [Op.equal, Op.maxDepth, h 9999]
  · refine ⟨false, ?_, fun e => by cases e⟩
    have h : ∀ d : Nat, (Op.equalIn (d + 1) 46 (.pointer (some a)) (.pointer (some b))).run Try.prog w = .ok false w := fun d => by
      simp [Op.equalIn, run_underlying Try.underlying46, sizeOf, typeInfo, hj, hs, run_sameAddr_other w e ha hb]
    simp [Op.equal, Op.maxDepth, h 9999]
/-- An entry of the set. -/
def EntOk (w : World) (keys : List Addr) (e : MapEntry) : Prop := ∃ b, b ∈ keys ∧ e.key = .pointer (some b) ∧ Plain w b ∧ e.val = .agg #[]
theorem asking_ptr {w : World} {a : Addr} (ha : Plain w a) {keys : List Addr} (es : List MapEntry) (hes : ∀ e ∈ es, EntOk w keys e) (i : Nat) :
    (Instr.findAsking 46 (.pointer (some a)) es i).run Try.prog w = .ok none w ∨ ∃ q, (Instr.findAsking 46 (.pointer (some a)) es i).run Try.prog w = .ok (some (i + q, .agg #[])) w ∧ a ∈ keys ∧ ∃ e0, es[q]? = some e0 ∧ e0.key = .pointer (some a) := by
  induction es generalizing i with
  | nil => exact .inl rfl
  | cons e r ih =>
    obtain ⟨b, hb, hk, hp, hv⟩ := hes e (by simp)
    obtain ⟨q, hq, hqe⟩ := equal_ptr ha hp
    cases q with
    | true =>
      refine .inr ⟨0, ?_, hqe rfl ▸ hb, e, rfl, by rw [hk, hqe rfl]⟩
      unfold Instr.findAsking
      rw [hk, hv]
      simp [hq]
    | false =>
      rcases ih (fun e he => hes e (by simp [he])) (i + 1) with h | ⟨m, h, hm, e0, he0, hk0⟩
      · refine .inl ?_
        unfold Instr.findAsking
        rw [hk]
        simp [hq, h]
      · refine .inr ⟨m + 1, ?_, hm, e0, by simpa using he0, hk0⟩
        unfold Instr.findAsking
        rw [hk]
        simp [hq, h]
        omega
theorem findKey_ptr {w : World} {a : Addr} (ha : Plain w a) {keys : List Addr} (es : List MapEntry) (hes : ∀ e ∈ es, EntOk w keys e) :
    (Instr.findKey 46 (.pointer (some a)) es).run Try.prog w = .ok none w ∨ ∃ q, (Instr.findKey 46 (.pointer (some a)) es).run Try.prog w = .ok (some (q, .agg #[])) w ∧ a ∈ keys ∧ ∃ e0, es[q]? = some e0 ∧ e0.key = .pointer (some a) := by
  unfold Instr.findKey
  cases es with
  | nil => exact .inl (by simp [run_underlying Try.underlying46, Instr.findNow])
  | cons e r =>
    obtain ⟨b, hb, hk, hp, hv⟩ := hes e (by simp)
    have hn : Instr.findNow (.pointer 35) (.pointer (some a)) (e :: r) 0 = none := by
      unfold Instr.findNow
      rw [hk]
      rfl
    rcases asking_ptr ha (e :: r) hes 0 with h | ⟨q, h, hm⟩
    case inr => rw [Nat.zero_add] at h; exact .inr ⟨q, by simp [run_underlying Try.underlying46, hn, h], hm⟩
    · exact .inl (by simp [run_underlying Try.underlying46, hn, h])
theorem check_ptr (em : Bool) (a : Addr) (w : World) : (Instr.checkKey em 10000 46 (.pointer (some a))).run Try.prog w = .ok () w := by
  unfold Instr.checkKey
  simp [run_underlying Try.underlying46]
/-- The set, in block r. -/
def PM (w : World) (r : Nat) (keys : List Addr) : Prop := ∃ es clock, w.heap[r]? = some (.map es clock) ∧ ∀ e ∈ es.toList, EntOk w keys e
theorem getObj_m {w : World} {r : Nat} {es : Array MapEntry} {clock : Nat} (hr : w.heap[r]? = some (.map es clock)) : (getObj r).run Try.prog w = .ok (.map es clock) w := by simp [getObj, Sem.run, hr]
theorem setObj_m {w : World} {r : Nat} {es : Array MapEntry} {clock : Nat} (o : Obj) (hr : w.heap[r]? = some (.map es clock)) : (setObj r o).run Try.prog w = .ok () { w with heap := w.heap.setIfInBounds r o } := by simp [setObj, Sem.run, hr]
theorem zero_unit (w : World) : (zeroValue 48).run Try.prog w = .ok (.agg #[]) w := by kernel_rfl
theorem PM.look {w : World} {r : Nat} {keys : List Addr} (h : PM w r keys) {a : Addr} (ha : Plain w a) : ∃ ok : Bool, (Instr.lookup 44 (.map (some r)) (.pointer (some a)) true).run Try.prog w = .ok (.tuple #[.agg #[], .bool ok]) w ∧ (ok = true → a ∈ keys) := by
  obtain ⟨es, clock, hr, hes⟩ := h
  rcases findKey_ptr ha es.toList hes with hf | ⟨q, hf, hm, _⟩
  · refine ⟨false, ?_, fun e => by cases e⟩
    unfold Instr.lookup
    simp [run_underlying Try.underlying44, getObj_m hr, check_ptr, hf]
  · refine ⟨true, ?_, fun _ => hm⟩
    unfold Instr.lookup
    simp [run_underlying Try.underlying44, getObj_m hr, check_ptr, hf]
theorem chg_obj (w : World) (r : Nat) (o : Obj) : Chg (fun j => j = r) w { w with heap := w.heap.setIfInBounds r o } := ⟨rfl, rfl, rfl, by simp, fun k hk hn => by
  simp only []
  rw [Array.getElem?_setIfInBounds_ne (fun e => hn e.symm)]⟩
theorem Plain.chg {w w' : World} {r : Nat} (hc : Chg (fun j => j = r) w w') {b : Addr} (h : Plain w b) (hn : b.block ≠ r) : Plain w' b := by
  obtain ⟨cur, ty, h⟩ := h
  exact ⟨cur, ty, by rw [hc.block b.block (Array.getElem?_eq_some_iff.1 h).1 hn]; exact h⟩
theorem sameBits_ptr (a : Addr) : Instr.sameBits 10000 (.pointer (some a)) (.pointer (some a)) = true := by
  unfold Instr.sameBits
  simp
theorem mem_modify {es : Array MapEntry} {i : Nat} {f : MapEntry → MapEntry} {e : MapEntry} (h : e ∈ (es.modify i f).toList) : e ∈ es.toList ∨ ∃ e0 ∈ es.toList, e = f e0 := by
  obtain ⟨j, hj⟩ := List.getElem?_of_mem h
  rw [Array.getElem?_toList, Array.getElem?_modify] at hj
  split at hj
  · cases h0 : es[j]? with
    | none => rw [h0] at hj; cases hj
    | some e0 =>
      rw [h0] at hj
      simp only [Option.map_some, Option.some.injEq] at hj
      exact .inr ⟨e0, by rw [Array.mem_toList_iff]; exact Array.mem_of_getElem? h0, hj.symm⟩
  · exact .inl (by rw [Array.mem_toList_iff]; exact Array.mem_of_getElem? hj)
theorem PM.put {w : World} {r : Nat} {keys : List Addr} (h : PM w r keys) {a : Addr} (ha : Plain w a) (hn : a.block ≠ r) (hk : ∀ b ∈ keys, b.block ≠ r) : ∃ w', (Instr.mapUpdate 44 (.map (some r)) (.pointer (some a)) (.agg #[])).run Try.prog w = .ok () w' ∧ PM w' r (a :: keys) ∧ Chg (fun j => j = r) w w' := by
  obtain ⟨es, clock, hr, hes⟩ := h
  have hlt := (Array.getElem?_eq_some_iff.1 hr).1
  have hent : ∀ {o : Obj} {e : MapEntry}, EntOk w keys e → EntOk { w with heap := w.heap.setIfInBounds r o } (a :: keys) e := fun {o e} he => by
    obtain ⟨b, hb, h1, h2, h3⟩ := he
    exact ⟨b, by simp [hb], h1, h2.chg (chg_obj w r o) (hk b hb), h3⟩
  rcases findKey_ptr ha es.toList hes with hf | ⟨q, hf, hm, e0, he0, hk0⟩
  · refine ⟨{ w with heap := w.heap.setIfInBounds r (.map (es.push ⟨.pointer (some a), .agg #[], clock⟩) (clock + 1)) }, ?_, ⟨es.push ⟨.pointer (some a), .agg #[], clock⟩, clock + 1, by simp [hlt], ?_⟩, chg_obj _ _ _⟩
    · unfold Instr.mapUpdate
      simp [run_underlying Try.underlying44, getObj_m hr, check_ptr, hf, setObj_m _ hr]
    · intro e he
      simp only [Array.toList_push, List.mem_append, List.mem_singleton] at he
      rcases he with he | rfl
      · exact hent (hes e he)
      · exact ⟨a, by simp, rfl, ha.chg (chg_obj _ _ _) hn, rfl⟩
  · rw [Array.getElem?_toList] at he0
    refine ⟨{ w with heap := w.heap.setIfInBounds r (.map (es.modify q fun e => { e with key := .pointer (some a), val := .agg #[] }) clock) }, ?_, ⟨es.modify q fun e => { e with key := .pointer (some a), val := .agg #[] }, clock, by simp [hlt], ?_⟩, chg_obj _ _ _⟩
    · unfold Instr.mapUpdate
      simp [run_underlying Try.underlying44, getObj_m hr, check_ptr, hf, setObj_m _ hr, Instr.keyThatStays, he0, hk0, sameBits_ptr]
    · intro e he
      rcases mem_modify he with he | ⟨e1, he1, rfl⟩
      · exact hent (hes e he)
      · exact ⟨a, by simp, rfl, ha.chg (chg_obj _ _ _) hn, rfl⟩
end Go.Proofs.Ytjlnglgfehefdaa
