import Derived.Test.YtdfmdgbolmbffaaGreatLf12
import Derived.Test.YtdfmdgbolmbffaaGreatLf28
namespace Go.Proofs.YtdfmdgbolmbffaaGreat
open Go.ChangeShapes Go.WideShapes Go.ChangeAt Go.RowKit
set_option linter.unusedVariables false
/-- A body as a value: the program, the function, its number, its flow. -/
def bodyV (r k f t p rs l c nu co a vb vo vi vl : Value) : Value := .agg #[r, k, f, t, p, rs, l, c, nu, co, a, vb, vo, vi, vl]
set_option maxHeartbeats 4000000 in
set_option maxRecDepth 100000 in
theorem placeOf_any (r k f t p rs l c nu co a vb vo vi vl v1 v2 : Value) (F : List (MB × Value)) (h : Nat) (m : MB) (w : World) (hn : F.length ≤ 1048576) (hb : Rd w 3 vb F.length (F.flatMap bCells)) (hm : (F.map Prod.fst)[h]? = some m) :
    Calls Tryz.prog 92 #[bodyV r k f t p rs l c nu co a vb vo vi vl, .agg #[.int .i64 (h : Int), v1, v2]] w fun e w' => e = .returned (.int .i64 m.first) ∧ Below w.heap.size w w' := by
  obtain ⟨x, hx, rfl⟩ : ∃ x, F[h]? = some x ∧ x.1 = m := by
    rw [List.getElem?_map] at hm
    exact Option.map_eq_some_iff.1 hm
  obtain ⟨a1, c1, rfl⟩ := hb.is_slice
  have hlt : h < F.length := (List.getElem?_eq_some_iff.1 hx).1
  rcases hb.2 with ⟨e0, _⟩ | ⟨g, o, cc, e1, hc1⟩
  · omega
  simp only [Value.slice.injEq, true_and] at e1
  obtain ⟨rfl, rfl⟩ := e1
  have i0 := Rd.elem bCells_length hc1 h x hx 0 _ rfl
  rw [Nat.add_zero] at i0
  clear hc1 hb hm hx
  generalize F.length = n at *
  have E0 := two_new w #[r, k, f, t, p, rs, l, c, nu, co, a, .slice (some ⟨g, o, none⟩) n c1, vo, vi, vl] #[.int .i64 (h : Int), v1, v2] 106 53
  unfold bodyV
  go_enter Tryz.func92, Tryz.ntmps92
  go_upto_region 1 with fail
  refine wp_world (fun u => Blk u w.heap.size #[r, k, f, t, p, rs, l, c, nu, co, a, .slice (some ⟨g, o, none⟩) n c1, vo, vi, vl] 106 ∧ Blk u (w.heap.size + 1) #[.int .i64 (h : Int), v1, v2] 53 ∧ Below w.heap.size w u) E0 ?_
  rintro U E1
  clear E0
  rw [← E1.2.2.cell (block_lt_of_cell i0)] at i0
  obtain ⟨o0, o1, o2⟩ := blk3 E1.2.1
  have p11 := E1.1.cell 11
  have HB : Hid (Below w.heap.size w U) := E1.2.2
  clear E1
  go_wp2
  go_ret
  exact ⟨rfl, HB.out⟩
end Go.Proofs.YtdfmdgbolmbffaaGreat
