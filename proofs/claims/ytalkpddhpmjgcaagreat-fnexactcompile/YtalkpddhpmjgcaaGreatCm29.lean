import Derived.Test.YtalkpddhpmjgcaaGreatRows
import Derived.WalkKit
import Derived.ProofKit
import Derived.OpenShut
import Derived.Below
import Derived.Laws.Tables
import Derived.Laws.Rows
import Derived.Deep.WholeRow
import Derived.Great.BuildSlice
import Derived.Deep.MidRow
import Derived.Outline
import Derived.Laws.CopyOwn
import Derived.Test.YtalkpddhpmjgcaaGreatCm16
import Derived.Laws.EntriesVeiled
namespace Go.Proofs.YtalkpddhpmjgcaaGreat
set_option linter.unusedVariables false

def buildsRun (P : Program) : List Oper → Act → Option Act
  | [], a => some a
  | o :: r, a =>
    match o.guard, o.op with
    | none, .build t parts =>
      match P.built t (parts.map fun (i, x) => (i, a.eval x)).toList with
      | some cells => buildsRun P r (a.put o.dst (.agg cells))
      | none => none
    | _, _ => none

theorem wpList_builds {P : Program} {ops : Array Oper} {Q : Exit → Act → World → Prop} {w : World} {a' : Act} (rest : List Oper) (h : wpList P ops Q rest a' w) :
    ∀ (l : List Oper) (a : Act), buildsRun P l a = some a' → wpList P ops Q (l ++ rest) a w
  | [], a, hb => by
    simp only [buildsRun, Option.some.injEq] at hb
    subst hb
    exact h
  | o :: r, a, hb => by
    unfold buildsRun at hb
    split at hb
    · next t parts hg ho =>
      split at hb
      · next cells hc =>
        refine wpList_build hg t parts ho (by rw [hc]; rfl) ?_
        rw [hc]
        exact wpList_builds rest h r _ hb
      · cases hb
    · cases hb

theorem wpList_table {P : Program} {ops : Array Oper} {Q : Exit → Act → World → Prop} {w : World} {l : List Oper} {a : Act} (n : Nat) (ty t : TypeId) (x y : Operand) (g : Nat) (cells old : Array Value) (p : Tmp)
    (hb : (buildsRun P (l.take n) a).map (fun a' => (a'.eval x, a'.eval y, a'.tmps.getD p undef, a'.defers)) = some (.pointer (some ⟨g, 0, none⟩), .agg cells, .pointer (some ⟨g, 0, none⟩), []))
    (hd : (l.drop n).map (fun o => (o.guard, o.op, o.dst)) = [(none, .store ty x y, none)])
    (hg : w.heap[g]? = some (.cells old t (0, 0))) (hi : (P.info? ty).map (·.size) = some cells.size)
    (hold : old.size = cells.size) (h1 : cells.all (·.oneCell') = true)
    (h : ∀ a', a'.tmps.getD p undef = .pointer (some ⟨g, 0, none⟩) → a'.defers = [] → Q .normal a' (w.setRow g cells)) : wpList P ops Q l a w := by
  rw [← List.take_append_drop n l]
  obtain ⟨a', ha, he⟩ := Option.map_eq_some_iff.1 hb
  simp only [Prod.mk.injEq] at he
  refine wpList_builds (a' := a') _ ?_ _ _ ha
  generalize l.drop n = l2 at hd
  rcases l2 with _ | ⟨o, _ | ⟨o2, l3⟩⟩
  · cases hd
  · simp only [List.map_cons, List.map_nil, List.cons.injEq, Prod.mk.injEq, and_true] at hd
    refine wpList_store_row hd.1 ty x y hd.2.1 g cells he.1 he.2.1 t old hg hi hold h1 ?_
    rw [hd.2.2]
    exact wpList_nil (h _ he.2.2.1 he.2.2.2)
  · simp at hd
end Go.Proofs.YtalkpddhpmjgcaaGreat
namespace Go.Proofs.YtalkpddhpmjgcaaGreat
set_option linter.unusedVariables false

/-- A region of builds, one slice of them, and its assignment to the result's slot. -/
theorem wpList_tableSlice {P : Program} {ops : Array Oper} {Q : Exit → Act → World → Prop} {w : World} {l : List Oper} {a : Act} (n : Nat) (t e : TypeId) (len : Nat) (parts : Array (Nat × Operand)) (s p m : Nat) (cells : Array Value) (ie : TypeInfo) (z : Value)
    (hb : (buildsRun P (l.take n) a).map (fun a' => (Instr.fill (fun i => some (i * ie.size, ie.size)) ((Array.range (len * ie.size)).map (z.cells[· % z.cells.size]!)) (parts.map fun (i, x) => (i, a'.eval x)).toList, a'.tmps.size, a'.defers)) = some (some cells, m, []))
    (hd : (l.drop n).map (fun o => (o.guard, o.op, o.dst)) = [(none, .buildSlice t len parts, some s), (none, .assign (.tmp s), some p)])
    (hs : s < m) (hp : p < m)
    (hu : P.underlying t = some (.slice e)) (hie : P.info? e = some ie) (hz : ie.zero = some z) (hsmall : ¬ len * ie.size > 2 ^ 24) (hpos : ¬ len * ie.size = 0)
    (h : ∀ a', a'.tmps.getD p undef = .slice (some ⟨w.heap.size, 0, none⟩) len len → a'.defers = [] → Q .normal a' (w.alloc (.cells cells e))) : wpList P ops Q l a w := by
  rw [← List.take_append_drop n l]
  obtain ⟨a', ha, he⟩ := Option.map_eq_some_iff.1 hb
  simp only [Prod.mk.injEq] at he
  refine wpList_builds (a' := a') _ ?_ _ _ ha
  generalize l.drop n = l2 at hd
  rcases l2 with _ | ⟨o, _ | ⟨o2, _ | ⟨o3, l3⟩⟩⟩
  · cases hd
  · simp at hd
  · simp only [List.map_cons, List.map_nil, List.cons.injEq, Prod.mk.injEq, and_true] at hd
    obtain ⟨⟨g1, o1, d1⟩, g2, o2', d2⟩ := hd
    refine wpList_buildSlice g1 t e len parts o1 cells ie z hu hie hz hsmall hpos he.1 ?_
    rw [d1]
    refine wpList_plain g2 fun K hK => ?_
    unfold Oper.wp execOp
    simp only [o2', Sem.run_pure]
    refine hK _ _ (wpList_nil (h _ ?_ ?_))
    · simp [Act.put, Act.eval, hp, hs, he.2.1, d2]
    · simp [Act.put, he.2.2, d2]
  · simp at hd
end Go.Proofs.YtalkpddhpmjgcaaGreat
namespace Go.Proofs.YtalkpddhpmjgcaaGreat
open Go.ChangeShapes Go.WideShapes Go.ChangeAt Go.RowKit
set_option linter.unusedVariables false
def infoCells : Array Value := #[.string ⟨#[110, 111, 112]⟩, .int .i64 1, .int .i64 0,
  .string ⟨#[99, 111, 110, 115, 116]⟩, .int .i64 1, .int .i64 1,
  .string ⟨#[108, 111, 97, 100, 108, 111, 99, 97, 108]⟩, .int .i64 1, .int .i64 2,
  .string ⟨#[115, 116, 111, 114, 101, 108, 111, 99, 97, 108]⟩, .int .i64 1, .int .i64 2,
  .string ⟨#[108, 111, 97, 100]⟩, .int .i64 2, .int .i64 3,
  .string ⟨#[115, 116, 111, 114, 101]⟩, .int .i64 2, .int .i64 3,
  .string ⟨#[108, 111, 97, 100, 97, 116]⟩, .int .i64 3, .int .i64 4,
  .string ⟨#[115, 116, 111, 114, 101, 97, 116]⟩, .int .i64 3, .int .i64 4,
  .string ⟨#[97, 100, 100]⟩, .int .i64 1, .int .i64 5,
  .string ⟨#[115, 117, 98]⟩, .int .i64 1, .int .i64 5,
  .string ⟨#[109, 117, 108]⟩, .int .i64 3, .int .i64 5,
  .string ⟨#[100, 105, 118]⟩, .int .i64 8, .int .i64 5,
  .string ⟨#[109, 111, 100]⟩, .int .i64 8, .int .i64 5,
  .string ⟨#[97, 110, 100]⟩, .int .i64 1, .int .i64 6,
  .string ⟨#[111, 114]⟩, .int .i64 1, .int .i64 6,
  .string ⟨#[120, 111, 114]⟩, .int .i64 1, .int .i64 6,
  .string ⟨#[110, 111, 116]⟩, .int .i64 1, .int .i64 6,
  .string ⟨#[115, 104, 108]⟩, .int .i64 1, .int .i64 0,
  .string ⟨#[115, 104, 114]⟩, .int .i64 1, .int .i64 0,
  .string ⟨#[110, 101, 103]⟩, .int .i64 1, .int .i64 0,
  .string ⟨#[101, 113]⟩, .int .i64 1, .int .i64 7,
  .string ⟨#[108, 101, 115, 115]⟩, .int .i64 1, .int .i64 5,
  .string ⟨#[99, 111, 110, 118]⟩, .int .i64 1, .int .i64 8,
  .string ⟨#[100, 117, 112]⟩, .int .i64 1, .int .i64 0,
  .string ⟨#[100, 114, 111, 112]⟩, .int .i64 1, .int .i64 0,
  .string ⟨#[106, 117, 109, 112]⟩, .int .i64 2, .int .i64 9,
  .string ⟨#[106, 117, 109, 112, 122, 101, 114, 111]⟩, .int .i64 2, .int .i64 9,
  .string ⟨#[103, 117, 97, 114, 100]⟩, .int .i64 2, .int .i64 10,
  .string ⟨#[99, 97, 108, 108]⟩, .int .i64 4, .int .i64 11,
  .string ⟨#[114, 101, 116, 117, 114, 110]⟩, .int .i64 2, .int .i64 0]
set_option maxRecDepth 100000 in
set_option maxHeartbeats 1000000 in
theorem l2Infos_any (w : World) : Calls Tryz.prog 88 #[] w fun e w' => e = .returned (.slice (some ⟨w.heap.size, 0, none⟩) 30 30) ∧ w' = w.alloc (.cells infoCells 118) := by
  go_enter Tryz.func88, Tryz.ntmps88
  go_wp2_with (show wpList _ _ _ ({ dst := some 1, op := Op.build _ _, type := _, pos := _, after := _, guard := _ } :: _) _ _; refine wpList_tableSlice 30 148 118 30 #[(0, .tmp 1), (1, .tmp 2), (2, .tmp 3), (3, .tmp 4), (4, .tmp 5), (5, .tmp 6), (6, .tmp 7), (7, .tmp 8), (8, .tmp 9), (9, .tmp 10), (10, .tmp 11), (11, .tmp 12), (12, .tmp 13), (13, .tmp 14), (14, .tmp 15), (15, .tmp 16), (16, .tmp 17), (17, .tmp 18), (18, .tmp 19), (19, .tmp 20), (20, .tmp 21), (21, .tmp 22), (22, .tmp 23), (23, .tmp 24), (24, .tmp 25), (25, .tmp 26), (26, .tmp 27), (27, .tmp 28), (28, .tmp 29), (29, .tmp 30)] 31 0 32 infoCells ((Tryz.prog.info? 118).getD default) (.agg #[.string ⟨#[]⟩, .int .i64 0, .int .i64 0]) (by kernel_rfl) rfl (by decide) (by decide) Tryz.underlying148 (by kernel_rfl) (by kernel_rfl) (of_decide_eq_true (by kernel_rfl)) (of_decide_eq_true (by kernel_rfl)) ?_; intro a' hp hd)
  refine bodyPost_ret (v := .slice (some ⟨w.heap.size, 0, none⟩) 30 30) ?_ hd ⟨rfl, rfl⟩
  rw [← hp]
  exact results_tmp Tryz.results88 _ _ _

/-- The three cells of row k. -/
def infoRow (k : Nat) : List Value := (infoCells.extract (3 * k) (3 * k + 3)).toList
theorem infoRow_length (k : Nat) (hk : k < 30) : (infoRow k).length = 3 := by
  have h0 : infoCells.size = 90 := by kernel_rfl
  simp [infoRow, h0]; omega
theorem infoRow_one (k : Nat) (hk : k < 30) : (infoRow k).toArray.all (·.oneCell') = true := by
  have h0 : infoCells.all (·.oneCell') = true := by kernel_rfl
  rw [Array.all_eq_true_iff_forall_mem] at h0 ⊢
  intro v hv
  simp only [infoRow, Array.toArray_toList] at hv
  obtain ⟨i, hi, rfl⟩ := Array.mem_iff_getElem.1 hv
  rw [Array.getElem_extract]
  exact h0 _ (Array.getElem_mem _)
theorem infoRow_range (w : World) (b k : Nat) (hk : k < 30) (h : w.heap[b]? = some (.cells infoCells 118)) : w.rangeAt b (k * 3) (infoRow k) := by
  intro j v hv
  have h0 : infoCells.size = 90 := by kernel_rfl
  rw [cell_of_row w b _ infoCells _ _ h]
  simp only [infoRow, Array.getElem?_toList] at hv
  rw [Array.getElem?_extract] at hv
  split at hv
  · rw [← hv, Nat.mul_comm]
  · cases hv
theorem zero_info (w : World) : (zeroValue 118).run Tryz.prog w = .ok (.agg #[.string ⟨#[]⟩, .int .i64 0, .int .i64 0]) w := by kernel_rfl

set_option maxRecDepth 100000 in
theorem SInfo_out (op : Int) (w : World) (h : op < 0 ∨ 29 < op) : Calls Tryz.prog 71 #[.int .i64 op] w fun e w' => e = .returned (.agg #[.string ⟨#[]⟩, .int .i64 0, .int .i64 0]) ∧ Below w.heap.size w w' := by
  have hz := zero_info
  rcases h with h | h
  · go_enter Tryz.func71, Tryz.ntmps71
    go_wp2
    exact bodyPost_ret (v := .agg #[.string ⟨#[]⟩, .int .i64 0, .int .i64 0]) (by simp [results, Tryz.results71, go_sem]) rfl ⟨rfl, (Below.refl _ _).alloc (Nat.le_refl _) _⟩
  · have h0 : decide (op < 0) = false := by simp; omega
    have h1 : decide (29 < op) = true := by simp; omega
    go_enter Tryz.func71, Tryz.ntmps71
    go_wp2
    exact bodyPost_ret (v := .agg #[.string ⟨#[]⟩, .int .i64 0, .int .i64 0]) (by simp [results, Tryz.results71, go_sem]) rfl ⟨rfl, (Below.refl _ _).alloc (Nat.le_refl _) _⟩

set_option maxRecDepth 100000 in
theorem SInfo_in (k : Nat) (hk : k < 30) (w : World) : Calls Tryz.prog 71 #[.int .i64 (k : Int)] w fun e w' => e = .returned (.agg (infoRow k).toArray) ∧ Below w.heap.size w w' := by
  have hz := zero_info
  have h0 : decide ((k : Int) < 0) = false := by simp
  have h1 : decide (29 < (k : Int)) = false := by simp; omega
  have HS : Hid ((infoRow k).length = 3 ∧ (infoRow k).toArray.all (·.oneCell') = true) := ⟨infoRow_length k hk, infoRow_one k hk⟩
  go_enter Tryz.func71, Tryz.ntmps71
  go_wp2_with (first
    | (go_at_call 88; refine (l2Infos_any _).mono ?_; rintro e w1 ⟨rfl, rfl⟩)
    | (show wpList _ _ _ ({ dst := some 13, op := Op.load 118 _, type := _, pos := _, after := _, guard := _ } :: _) _ _; refine wpList_load_mid rfl 118 (.tmp 12) rfl (w.heap.size + 1) (k * 3) rfl (infoRow k) _ (infoRow_range _ _ _ hk (heap_alloc2_new _ _ _)) Tryz.underlying118 rfl (by rw [HS.out.1]; kernel_rfl) ?_)
    | (show wpList _ _ _ ({ dst := none, op := Op.store 118 _ _, type := _, pos := _, after := _, guard := _ } :: _) _ _; refine wpList_store_row rfl 118 (.tmp 2) (.tmp 13) rfl w.heap.size (infoRow k).toArray rfl rfl 118 #[.string ⟨#[]⟩, .int .i64 0, .int .i64 0] (heap_alloc2_old _ _ _) (by rw [List.size_toArray, HS.out.1]; kernel_rfl) (by show 3 = (infoRow k).length; rw [HS.out.1]) HS.out.2 ?_))
  refine bodyPost_ret (v := .agg (infoRow k).toArray) (results_cell_row Tryz.results71 _ _ w.heap.size 118 (infoRow k).toArray (0, 0) _ rfl (setRow_heap _ _ _ _ _ _ (heap_alloc2_old _ _ _)) Tryz.underlying118 rfl (by rw [List.size_toArray, HS.out.1]; kernel_rfl)) rfl ⟨rfl, ?_⟩
  exact below_setRow (((Below.refl _ _).alloc (Nat.le_refl _) _).alloc (by simp) _) (Nat.le_refl _) _
end Go.Proofs.YtalkpddhpmjgcaaGreat
namespace Go.Proofs.YtalkpddhpmjgcaaGreat
open Go.ChangeShapes Go.WideShapes Go.ChangeAt Go.RowKit
set_option linter.unusedVariables false
def zeroRows : Array Value := #[.string ⟨#[]⟩, .int .i64 0, .int .i64 0, .nilFunc,
  .string ⟨#[]⟩, .int .i64 0, .int .i64 0, .nilFunc,
  .string ⟨#[]⟩, .int .i64 0, .int .i64 0, .nilFunc,
  .string ⟨#[]⟩, .int .i64 0, .int .i64 0, .nilFunc,
  .string ⟨#[]⟩, .int .i64 0, .int .i64 0, .nilFunc,
  .string ⟨#[]⟩, .int .i64 0, .int .i64 0, .nilFunc,
  .string ⟨#[]⟩, .int .i64 0, .int .i64 0, .nilFunc,
  .string ⟨#[]⟩, .int .i64 0, .int .i64 0, .nilFunc,
  .string ⟨#[]⟩, .int .i64 0, .int .i64 0, .nilFunc,
  .string ⟨#[]⟩, .int .i64 0, .int .i64 0, .nilFunc,
  .string ⟨#[]⟩, .int .i64 0, .int .i64 0, .nilFunc,
  .string ⟨#[]⟩, .int .i64 0, .int .i64 0, .nilFunc,
  .string ⟨#[]⟩, .int .i64 0, .int .i64 0, .nilFunc,
  .string ⟨#[]⟩, .int .i64 0, .int .i64 0, .nilFunc,
  .string ⟨#[]⟩, .int .i64 0, .int .i64 0, .nilFunc,
  .string ⟨#[]⟩, .int .i64 0, .int .i64 0, .nilFunc,
  .string ⟨#[]⟩, .int .i64 0, .int .i64 0, .nilFunc,
  .string ⟨#[]⟩, .int .i64 0, .int .i64 0, .nilFunc,
  .string ⟨#[]⟩, .int .i64 0, .int .i64 0, .nilFunc,
  .string ⟨#[]⟩, .int .i64 0, .int .i64 0, .nilFunc,
  .string ⟨#[]⟩, .int .i64 0, .int .i64 0, .nilFunc,
  .string ⟨#[]⟩, .int .i64 0, .int .i64 0, .nilFunc,
  .string ⟨#[]⟩, .int .i64 0, .int .i64 0, .nilFunc,
  .string ⟨#[]⟩, .int .i64 0, .int .i64 0, .nilFunc,
  .string ⟨#[]⟩, .int .i64 0, .int .i64 0, .nilFunc,
  .string ⟨#[]⟩, .int .i64 0, .int .i64 0, .nilFunc,
  .string ⟨#[]⟩, .int .i64 0, .int .i64 0, .nilFunc,
  .string ⟨#[]⟩, .int .i64 0, .int .i64 0, .nilFunc,
  .string ⟨#[]⟩, .int .i64 0, .int .i64 0, .nilFunc,
  .string ⟨#[]⟩, .int .i64 0, .int .i64 0, .nilFunc]
def opCells : Array Value := #[.string ⟨#[110, 111, 112]⟩, .int .i64 1, .int .i64 0, .nilFunc,
  .string ⟨#[99, 111, 110, 115, 116]⟩, .int .i64 1, .int .i64 1, .nilFunc,
  .string ⟨#[108, 111, 97, 100, 108, 111, 99, 97, 108]⟩, .int .i64 1, .int .i64 2, .nilFunc,
  .string ⟨#[115, 116, 111, 114, 101, 108, 111, 99, 97, 108]⟩, .int .i64 1, .int .i64 2, .nilFunc,
  .string ⟨#[108, 111, 97, 100]⟩, .int .i64 2, .int .i64 3, .nilFunc,
  .string ⟨#[115, 116, 111, 114, 101]⟩, .int .i64 2, .int .i64 3, .nilFunc,
  .string ⟨#[108, 111, 97, 100, 97, 116]⟩, .int .i64 3, .int .i64 4, .nilFunc,
  .string ⟨#[115, 116, 111, 114, 101, 97, 116]⟩, .int .i64 3, .int .i64 4, .nilFunc,
  .string ⟨#[97, 100, 100]⟩, .int .i64 1, .int .i64 5, .func (.func 105) #[] #[],
  .string ⟨#[115, 117, 98]⟩, .int .i64 1, .int .i64 5, .func (.func 106) #[] #[],
  .string ⟨#[109, 117, 108]⟩, .int .i64 3, .int .i64 5, .func (.func 107) #[] #[],
  .string ⟨#[100, 105, 118]⟩, .int .i64 8, .int .i64 5, .func (.func 108) #[] #[],
  .string ⟨#[109, 111, 100]⟩, .int .i64 8, .int .i64 5, .func (.func 109) #[] #[],
  .string ⟨#[97, 110, 100]⟩, .int .i64 1, .int .i64 6, .func (.func 110) #[] #[],
  .string ⟨#[111, 114]⟩, .int .i64 1, .int .i64 6, .func (.func 111) #[] #[],
  .string ⟨#[120, 111, 114]⟩, .int .i64 1, .int .i64 6, .func (.func 112) #[] #[],
  .string ⟨#[110, 111, 116]⟩, .int .i64 1, .int .i64 6, .func (.func 113) #[] #[],
  .string ⟨#[115, 104, 108]⟩, .int .i64 1, .int .i64 0, .func (.func 114) #[] #[],
  .string ⟨#[115, 104, 114]⟩, .int .i64 1, .int .i64 0, .func (.func 115) #[] #[],
  .string ⟨#[110, 101, 103]⟩, .int .i64 1, .int .i64 0, .func (.func 116) #[] #[],
  .string ⟨#[101, 113]⟩, .int .i64 1, .int .i64 7, .func (.func 117) #[] #[],
  .string ⟨#[108, 101, 115, 115]⟩, .int .i64 1, .int .i64 5, .func (.func 118) #[] #[],
  .string ⟨#[99, 111, 110, 118]⟩, .int .i64 1, .int .i64 8, .nilFunc,
  .string ⟨#[100, 117, 112]⟩, .int .i64 1, .int .i64 0, .nilFunc,
  .string ⟨#[100, 114, 111, 112]⟩, .int .i64 1, .int .i64 0, .nilFunc,
  .string ⟨#[106, 117, 109, 112]⟩, .int .i64 2, .int .i64 9, .nilFunc,
  .string ⟨#[106, 117, 109, 112, 122, 101, 114, 111]⟩, .int .i64 2, .int .i64 9, .nilFunc,
  .string ⟨#[103, 117, 97, 114, 100]⟩, .int .i64 2, .int .i64 10, .nilFunc,
  .string ⟨#[99, 97, 108, 108]⟩, .int .i64 4, .int .i64 11, .nilFunc,
  .string ⟨#[114, 101, 116, 117, 114, 110]⟩, .int .i64 2, .int .i64 0, .nilFunc]
set_option maxRecDepth 100000 in
theorem zero_rows (w : World) : (zeroValue 170).run Tryz.prog w = .ok (.agg zeroRows) w := by kernel_rfl
set_option maxRecDepth 100000 in
set_option maxHeartbeats 1000000 in
theorem opRows_any (w : World) : Calls Tryz.prog 104 #[] w fun e w' => e = .returned (.agg opCells) ∧ Below w.heap.size w w' := by
  have hz := zero_rows
  go_enter Tryz.func104, Tryz.ntmps104
  go_wp2_with (show wpList _ _ _ ({ dst := some 1, op := Op.build _ _, type := _, pos := _, after := _, guard := _ } :: _) _ _; refine wpList_table 61 170 170 (.tmp 0) (.tmp 61) w.heap.size opCells zeroRows 0 (by kernel_rfl) rfl (heap_alloc_new _ _) (by kernel_rfl) (by kernel_rfl) (by kernel_rfl) ?_; intro a' hp hd)
  rw [World.setRow_alloc_new]
  exact bodyPost_ret (v := .agg opCells) (results_cell_row Tryz.results104 _ _ w.heap.size 170 opCells (0, 0) _ hp (heap_alloc_new _ _) Tryz.underlying170 rfl (by kernel_rfl)) hd ⟨rfl, (Below.refl _ _).alloc (Nat.le_refl _) _⟩

/-- The row of op k: four cells. -/
def rowCells (k : Nat) : Array Value := opCells.extract (4 * k) (4 * k + 4)
set_option maxRecDepth 100000 in
theorem index_rows (k : Nat) (hk : k < 30) (w : World) : (Instr.index 170 (.agg opCells) (.int .i64 (k : Int))).run Tryz.prog w = .ok (.agg (rowCells k)) w := by
  have h : k = 0 ∨ k = 1 ∨ k = 2 ∨ k = 3 ∨ k = 4 ∨ k = 5 ∨ k = 6 ∨ k = 7 ∨ k = 8 ∨ k = 9 ∨ k = 10 ∨ k = 11 ∨ k = 12 ∨ k = 13 ∨ k = 14 ∨ k = 15 ∨ k = 16 ∨ k = 17 ∨ k = 18 ∨ k = 19 ∨ k = 20 ∨ k = 21 ∨ k = 22 ∨ k = 23 ∨ k = 24 ∨ k = 25 ∨ k = 26 ∨ k = 27 ∨ k = 28 ∨ k = 29 := by omega
  clear hk
  rcases h with rfl | rfl | rfl | rfl | rfl | rfl | rfl | rfl | rfl | rfl | rfl | rfl | rfl | rfl | rfl | rfl | rfl | rfl | rfl | rfl | rfl | rfl | rfl | rfl | rfl | rfl | rfl | rfl | rfl | rfl <;> (show Sem.run _ _ _ = Result.ok _ _; kernel_rfl)

theorem rowCells_size (k : Nat) (hk : k < 30) : (rowCells k).size = 4 := by
  have h0 : opCells.size = 120 := by kernel_rfl
  simp [rowCells, h0]; omega
set_option maxRecDepth 100000 in
theorem rowCells_one (k : Nat) (hk : k < 30) : (rowCells k).all (·.oneCell') = true := by
  have h0 : opCells.all (·.oneCell') = true := by kernel_rfl
  rw [Array.all_eq_true_iff_forall_mem] at h0 ⊢
  intro v hv
  unfold rowCells at hv
  obtain ⟨i, hi, rfl⟩ := Array.mem_iff_getElem.1 hv
  rw [Array.getElem_extract]
  exact h0 _ (Array.getElem_mem _)
theorem zero_row (w : World) : (zeroValue 168).run Tryz.prog w = .ok (.agg #[.string ⟨#[]⟩, .int .i64 0, .int .i64 0, .nilFunc]) w := by kernel_rfl

set_option maxRecDepth 100000 in
theorem rowOf_out (op : Int) (w : World) (h : op < 0 ∨ 29 < op) : Calls Tryz.prog 103 #[.int .i64 op] w fun e w' => e = .returned (.agg #[.string ⟨#[]⟩, .int .i64 0, .int .i64 0, .nilFunc]) ∧ Below w.heap.size w w' := by
  have hz := zero_row
  rcases h with h | h
  · go_enter Tryz.func103, Tryz.ntmps103
    go_wp2
    exact bodyPost_ret (v := .agg #[.string ⟨#[]⟩, .int .i64 0, .int .i64 0, .nilFunc]) (by simp [results, Tryz.results103, go_sem]) rfl ⟨rfl, (Below.refl _ _).alloc (Nat.le_refl _) _⟩
  · have h0 : decide (op < 0) = false := by simp; omega
    have h1 : decide (29 < op) = true := by simp; omega
    go_enter Tryz.func103, Tryz.ntmps103
    go_wp2
    exact bodyPost_ret (v := .agg #[.string ⟨#[]⟩, .int .i64 0, .int .i64 0, .nilFunc]) (by simp [results, Tryz.results103, go_sem]) rfl ⟨rfl, (Below.refl _ _).alloc (Nat.le_refl _) _⟩

set_option maxRecDepth 100000 in
theorem rowOf_in (k : Nat) (hk : k < 30) (w : World) : Calls Tryz.prog 103 #[.int .i64 (k : Int)] w fun e w' => e = .returned (.agg (rowCells k)) ∧ Below w.heap.size w w' := by
  have hz := zero_row
  have h0 : decide ((k : Int) < 0) = false := by simp
  have h1 : decide (29 < (k : Int)) = false := by simp; omega
  have hi := index_rows k hk
  have hs := rowCells_size k hk
  have hone := rowCells_one k hk
  have HS : Hid ((rowCells k).size = 4 ∧ (rowCells k).all (·.oneCell') = true) := ⟨hs, hone⟩
  clear hs hone
  go_enter Tryz.func103, Tryz.ntmps103
  go_wp2_with (first
    | (go_at_call 104; refine (opRows_any _).mono ?_; rintro e w1 ⟨rfl, hb⟩; have hrow : w1.heap[w.heap.size]? = some (.cells #[.string ⟨#[]⟩, .int .i64 0, .int .i64 0, .nilFunc] 168) := (hb.block _ (by simp)).trans (heap_alloc_new _ _))
    | (show wpList _ _ _ ({ dst := none, op := Op.store 168 _ _, type := _, pos := _, after := _, guard := _ } :: _) _ _; refine wpList_store_row rfl 168 (.tmp 2) (.tmp 12) rfl w.heap.size (rowCells k) rfl rfl 168 #[.string ⟨#[]⟩, .int .i64 0, .int .i64 0, .nilFunc] hrow (by rw [HS.out.1]; kernel_rfl) (by rw [HS.out.1]; rfl) HS.out.2 ?_))
  refine bodyPost_ret (v := .agg (rowCells k)) (results_cell_row Tryz.results103 _ _ w.heap.size 168 (rowCells k) (0, 0) _ rfl (setRow_heap _ _ _ _ _ _ hrow) Tryz.underlying168 rfl (by rw [HS.out.1]; kernel_rfl)) rfl ⟨rfl, ?_⟩
  exact below_setRow (((Below.refl _ _).alloc (Nat.le_refl _) _).trans (hb.mono (by simp))) (Nat.le_refl _) _
end Go.Proofs.YtalkpddhpmjgcaaGreat
