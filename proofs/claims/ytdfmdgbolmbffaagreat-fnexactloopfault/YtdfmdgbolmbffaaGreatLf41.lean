import Derived.Test.YtdfmdgbolmbffaaGreatLf40
import Derived.Test.YtdfmdgbolmbffaaGreatLf10
import Derived.Test.YtdfmdgbolmbffaaGreatLf15
namespace Go.Proofs.YtdfmdgbolmbffaaGreat
open Go.ChangeShapes Go.WideShapes Go.ChangeAt Go.RowKit
set_option linter.unusedVariables false
/-- A slice's parts. -/
structure SlV where
  a : Option Addr
  n : Nat
  c : Nat
/-- A body's parts. -/
structure BdV where
  r : SlV
  k : SlV
  f : SlV
  t : SlV
  p : SlV
  rs : Int
  l : SlV
  c : SlV
  nu : Int
  co : Int
  at_ : Int
  b : SlV
  o : SlV
  i : SlV
  q : SlV
def BdV.cells (v : BdV) : Array Value := #[.slice v.r.a v.r.n v.r.c, .slice v.k.a v.k.n v.k.c, .slice v.f.a v.f.n v.f.c, .slice v.t.a v.t.n v.t.c, .slice v.p.a v.p.n v.p.c, .int .i64 v.rs, .slice v.l.a v.l.n v.l.c, .slice v.c.a v.c.n v.c.c, .int .i64 v.nu, .int .i64 v.co, .int .i64 v.at_, .slice v.b.a v.b.n v.b.c, .slice v.o.a v.o.n v.o.c, .slice v.i.a v.i.n v.i.c, .slice v.q.a v.q.n v.q.c]
/-- The frame of certOf: the body, the loop, the result. -/
structure CfAt (w u : World) (v : BdV) (hd : Int) (x y : SlV) : Prop where
  body : Blk u w.heap.size v.cells 106
  loop : Blk u (w.heap.size + 1) #[.int .i64 hd, .slice x.a x.n x.c, .slice y.a y.n y.c] 53
  res : Blk u (w.heap.size + 1 + 1) #[.int .i64 0, .int .i64 0, .int .i64 0, .int .u32 0] 100
  bel : Below w.heap.size w u
theorem CfAt.keep {w u u' : World} {v : BdV} {hd : Int} {x y : SlV} (h : CfAt w u v hd x y) (hb : Below u.heap.size u u') : CfAt w u' v hd x y := ⟨h.body.keep hb, h.loop.keep hb, h.res.keep hb, below_on h.bel (Nat.le_refl _) hb⟩
set_option maxHeartbeats 4000000 in
set_option maxRecDepth 100000 in
theorem certOf_any (v : BdV) (x y : SlV) (ts : List MT) (F : List (MB × Value)) (h : Nat) (m : MB) (w : World) (hn : F.length ≤ 1048576) (hb : Rd w 3 (.slice v.b.a v.b.n v.b.c) F.length (F.flatMap bCells)) (hm : (F.map Prod.fst)[h]? = some m) (htn : ts.length ≤ 1048576) (ht : Rd w 4 (.slice v.t.a v.t.n v.t.c) ts.length (ts.flatMap MT.cells)) :
    Calls Tryz.prog 91 #[.agg v.cells, .agg #[.int .i64 (h : Int), .slice x.a x.n x.c, .slice y.a y.n y.c]] w fun e w' => (∃ t b, e = .returned (.tuple #[.agg #[.int .i64 t.func, .int .i64 t.head, .int .i64 t.counter, .int .u32 t.init], .bool b]) ∧ (b = true → certAt ts v.nu m.first = some t) ∧ (b = false → certAt ts v.nu m.first = none)) ∧ Below w.heap.size w w' := by
  have HF : Hid (F.length ≤ 1048576 ∧ Rd w 3 (.slice v.b.a v.b.n v.b.c) F.length (F.flatMap bCells) ∧ (F.map Prod.fst)[h]? = some m) := ⟨hn, hb, hm⟩
  obtain ⟨a1, c1, e1⟩ := ht.is_slice
  simp only [Value.slice.injEq] at e1
  have HT : Hid (Rd w 4 (.slice v.t.a v.t.n v.t.c) ts.length (ts.flatMap MT.cells)) := ht
  have HN : Hid (ts.length = v.t.n) := e1.2.1.symm
  rw [HN.out] at htn HT
  clear hn hb hm ht e1 a1 c1
  have E0 := three_new w v.cells #[.int .i64 (h : Int), .slice x.a x.n x.c, .slice y.a y.n y.c] #[.int .i64 0, .int .i64 0, .int .i64 0, .int .u32 0] 106 53 100
  have E1 : Hid (CfAt w (((w.alloc (.cells v.cells 106)).alloc (.cells #[.int .i64 (h : Int), .slice x.a x.n x.c, .slice y.a y.n y.c] 53)).alloc (.cells #[.int .i64 0, .int .i64 0, .int .i64 0, .int .u32 0] 100)) v h x y) := ⟨E0.1, E0.2.1, E0.2.2.1, E0.2.2.2⟩
  clear E0
  go_enter Tryz.func91, Tryz.ntmps91
  go_upto_region 1 with fail
  refine wp_world (fun u => Hid (CfAt w u v h x y)) E1 ?_
  rintro U HE
  clear E1
  have p3 := HE.out.body.cell 3
  simp only [BdV.cells] at p3
  go_wp2
  go_loopw [13] (fun i wr => ∃ k : Nat, k ≤ v.t.n ∧ i = .int .i64 k ∧ Hid (∀ j c, j < k → ts[j]? = some c → ¬ (c.func = v.nu ∧ c.head = m.first)) ∧ Hid (CfAt w wr v h x y)) (fun i _ => v.t.n - (intOf i).toNat)
  case atStart => exact ⟨0, by omega, rfl, fun j c hj => by omega, HE⟩
  case round =>
    clear p3 HE
    obtain ⟨k, hk, rfl, HTS, HE⟩ := hrel
    by_cases hlt : k < v.t.n
    · obtain ⟨⟨fu, hd, co, ini⟩, hx⟩ : ∃ z, ts[k]? = some z := ⟨_, List.getElem?_eq_getElem (by rw [HN.out]; exact hlt)⟩
      rcases HT.out.2 with ⟨e0, _⟩ | ⟨b, o, c, e1, hc1⟩
      · omega
      simp only [Value.slice.injEq, true_and] at e1
      obtain ⟨e2, e3⟩ := e1
      have i0 := Rd.elem MT.cells_length hc1 k _ hx 0 _ rfl
      have i1 := Rd.elem MT.cells_length hc1 k _ hx 1 _ rfl
      have i2 := Rd.elem MT.cells_length hc1 k _ hx 2 _ rfl
      have i3 := Rd.elem MT.cells_length hc1 k _ hx 3 _ rfl
      rw [← HE.out.bel.cell (block_lt_of_cell i0), Nat.add_zero] at i0
      rw [← HE.out.bel.cell (block_lt_of_cell i1)] at i1
      rw [← HE.out.bel.cell (block_lt_of_cell i2)] at i2
      rw [← HE.out.bel.cell (block_lt_of_cell i3)] at i3
      simp only [] at i0 i1 i2 i3
      have HX : Hid (ts[k]? = some ⟨fu, hd, co, ini⟩) := hx
      clear hc1 hx e3
      have nb : ¬ b = wr.heap.size := Nat.ne_of_lt (block_lt_of_cell i0)
      have mb : b < wr.heap.size := block_lt_of_cell i0
      go_upto_region 4 with fail
      refine wp_world (fun u => Hid (CfAt w u v h x y ∧ Blk u wr.heap.size #[.int .i64 fu, .int .i64 hd, .int .i64 co, .int .u32 ini] 100)) ⟨HE.out.keep (below_alloc _ _), Blk.new _ _ _⟩ ?_
      rintro W1 HW
      have inst := Grown.some W1
      have p0 := fun n' : Grown W1 => Grown.cell (HW.out.1.body.cell 0) n'
      have p1 := fun n' : Grown W1 => Grown.cell (HW.out.1.body.cell 1) n'
      have p2 := fun n' : Grown W1 => Grown.cell (HW.out.1.body.cell 2) n'
      have p3 := fun n' : Grown W1 => Grown.cell (HW.out.1.body.cell 3) n'
      have p4 := fun n' : Grown W1 => Grown.cell (HW.out.1.body.cell 4) n'
      have p5 := fun n' : Grown W1 => Grown.cell (HW.out.1.body.cell 5) n'
      have p6 := fun n' : Grown W1 => Grown.cell (HW.out.1.body.cell 6) n'
      have p7 := fun n' : Grown W1 => Grown.cell (HW.out.1.body.cell 7) n'
      have p8 := fun n' : Grown W1 => Grown.cell (HW.out.1.body.cell 8) n'
      have p9 := fun n' : Grown W1 => Grown.cell (HW.out.1.body.cell 9) n'
      have p10 := fun n' : Grown W1 => Grown.cell (HW.out.1.body.cell 10) n'
      have p11 := fun n' : Grown W1 => Grown.cell (HW.out.1.body.cell 11) n'
      have p12 := fun n' : Grown W1 => Grown.cell (HW.out.1.body.cell 12) n'
      have p13 := fun n' : Grown W1 => Grown.cell (HW.out.1.body.cell 13) n'
      have p14 := fun n' : Grown W1 => Grown.cell (HW.out.1.body.cell 14) n'
      simp only [BdV.cells] at p0 p1 p2 p3 p4 p5 p6 p7 p8 p9 p10 p11 p12 p13 p14
      obtain ⟨l0, l1, l2⟩ := blk3 HW.out.1.loop
      have L0 := fun n' : Grown W1 => Grown.cell l0 n'
      have L1 := fun n' : Grown W1 => Grown.cell l1 n'
      have L2 := fun n' : Grown W1 => Grown.cell l2 n'
      have C0 := fun n' : Grown W1 => Grown.cell (HW.out.2.cell 0) n'
      have C1 := fun n' : Grown W1 => Grown.cell (HW.out.2.cell 1) n'
      have C2 := fun n' : Grown W1 => Grown.cell (HW.out.2.cell 2) n'
      have C3 := fun n' : Grown W1 => Grown.cell (HW.out.2.cell 3) n'
      clear i0 i1 i2 i3 nb mb HE l0 l1 l2 e2
      by_cases q1 : fu = v.nu
      case neg =>
        have q1' : (fu == v.nu) = false := by simp [q1]
        have HT' : Hid (∀ j c, j < k + 1 → ts[j]? = some c → ¬ (c.func = v.nu ∧ c.head = m.first)) := fun j c hj hc => by
          by_cases e : j = k
          · subst e
            rw [HX.out] at hc
            cases hc
            exact fun e => q1 e.1
          · exact HTS.out j c (by omega) hc
        refine wp_region_grown (by kernel_rfl) (by kernel_rfl) ?_
        repeat (go_big_quiet_step (fail))
        refine wpQuiet_nil ?_
        rintro w'' ⟨n', rfl⟩
        go_wp2
        go_roundw
        case rel => exact ⟨k + 1, by omega, by go_num, HT'.out, HW.out.1.keep n'.h⟩
        case measure => simp [intOf]; omega
      case pos =>
        by_cases q2 : hd = m.first
        case neg =>
          have q2' : (hd == m.first) = false := by simp [q2]
          have HT' : Hid (∀ j c, j < k + 1 → ts[j]? = some c → ¬ (c.func = v.nu ∧ c.head = m.first)) := fun j c hj hc => by
            by_cases e : j = k
            · subst e
              rw [HX.out] at hc
              cases hc
              exact fun e => q2 e.2
            · exact HTS.out j c (by omega) hc
          subst q1
          refine wp_region_grown (by kernel_rfl) (by kernel_rfl) ?_
          repeat (go_big_quiet_step ((first | (go_at_call 92; rename_i n'; exact (placeOf_any (.slice v.r.a v.r.n v.r.c) (.slice v.k.a v.k.n v.k.c) (.slice v.f.a v.f.n v.f.c) (.slice v.t.a v.t.n v.t.c) (.slice v.p.a v.p.n v.p.c) (.int .i64 v.rs) (.slice v.l.a v.l.n v.l.c) (.slice v.c.a v.c.n v.c.c) (.int .i64 v.nu) (.int .i64 v.co) (.int .i64 v.at_) (.slice v.b.a v.b.n v.b.c) (.slice v.o.a v.o.n v.o.c) (.slice v.i.a v.i.n v.i.c) (.slice v.q.a v.q.n v.q.c) (.slice x.a x.n x.c) (.slice y.a y.n y.c) F h m n'.u HF.out.1 (HF.out.2.1.keep (below_on HW.out.1.bel (Nat.le_refl _) n'.h) (Nat.le_refl _)) HF.out.2.2).mono fun e w'' hh => ⟨hh.1, ⟨⟨w'', below_on n'.h (Nat.le_refl _) hh.2⟩, rfl⟩⟩))))
          refine wpQuiet_nil ?_
          rintro w'' ⟨n', rfl⟩
          go_wp2
          go_roundw
          case rel => exact ⟨k + 1, by omega, by go_num, HT'.out, HW.out.1.keep n'.h⟩
          case measure => simp [intOf]; omega
        case pos =>
          subst q1 q2
          have HS : Hid (certAt ts v.nu m.first = some ⟨v.nu, m.first, co, ini⟩) := certAt_some HX.out ⟨rfl, rfl⟩ fun j c hj hc => HTS.out j c hj hc
          refine wp_region_grown (by kernel_rfl) (by kernel_rfl) ?_
          repeat (go_big_quiet_step ((first | (go_at_call 92; rename_i n'; exact (placeOf_any (.slice v.r.a v.r.n v.r.c) (.slice v.k.a v.k.n v.k.c) (.slice v.f.a v.f.n v.f.c) (.slice v.t.a v.t.n v.t.c) (.slice v.p.a v.p.n v.p.c) (.int .i64 v.rs) (.slice v.l.a v.l.n v.l.c) (.slice v.c.a v.c.n v.c.c) (.int .i64 v.nu) (.int .i64 v.co) (.int .i64 v.at_) (.slice v.b.a v.b.n v.b.c) (.slice v.o.a v.o.n v.o.c) (.slice v.i.a v.i.n v.i.c) (.slice v.q.a v.q.n v.q.c) (.slice x.a x.n x.c) (.slice y.a y.n y.c) F h m n'.u HF.out.1 (HF.out.2.1.keep (below_on HW.out.1.bel (Nat.le_refl _) n'.h) (Nat.le_refl _)) HF.out.2.2).mono fun e w'' hh => ⟨hh.1, ⟨⟨w'', below_on n'.h (Nat.le_refl _) hh.2⟩, rfl⟩⟩))))
          refine wpQuiet_nil ?_
          rintro w'' ⟨n', rfl⟩
          have d0 := C0 n'
          have d1 := C1 n'
          have d2 := C2 n'
          have d3 := C3 n'
          have HC : Hid (CfAt w n'.u v h x y) := HW.out.1.keep n'.h
          have r0 := HC.out.res.cell 0
          have r1 := HC.out.res.cell 1
          have r2 := HC.out.res.cell 2
          have r3 := HC.out.res.cell 3
          have f0 := HC.out.res.frozen 0
          have f1 := HC.out.res.frozen 1
          have f2 := HC.out.res.frozen 2
          have f3 := HC.out.res.frozen 3
          generalize n'.u = u5 at *
          go_wp2
          exact bodyPost_ret (v := .tuple #[.agg #[.int .i64 v.nu, .int .i64 m.first, .int .i64 co, .int .u32 ini], .bool true]) (by simp [results, Tryz.results91, go_sem, r0, r1, r2, r3]) rfl ⟨⟨⟨v.nu, m.first, co, ini⟩, true, rfl, fun _ => HS.out, fun e => (by cases e)⟩, ((((HC.out.bel.setCell (by simp only []; omega) _).setCell (by simp only []; omega) _).setCell (by simp only []; omega) _).setCell (by simp only []; omega) _)⟩
    · have hkn : k = v.t.n := by omega
      have r0 := HE.out.res.cell 0
      have r1 := HE.out.res.cell 1
      have r2 := HE.out.res.cell 2
      have r3 := HE.out.res.cell 3
      have f0 := HE.out.res.frozen 0
      have f1 := HE.out.res.frozen 1
      have f2 := HE.out.res.frozen 2
      have f3 := HE.out.res.frozen 3
      go_wp2
      exact bodyPost_ret (v := .tuple #[.agg #[.int .i64 0, .int .i64 0, .int .i64 0, .int .u32 0], .bool false]) (by simp [results, Tryz.results91, go_sem, r0, r1, r2, r3]) rfl ⟨⟨⟨0, 0, 0, 0⟩, false, rfl, fun e => (by cases e), fun _ => certAt_none fun j c hj => HTS.out j c (by have := (List.getElem?_eq_some_iff.1 hj).1; rw [HN.out] at this; omega) hj⟩, ((((HE.out.bel.setCell (by simp only []; omega) _).setCell (by simp only []; omega) _).setCell (by simp only []; omega) _).setCell (by simp only []; omega) _)⟩
end Go.Proofs.YtdfmdgbolmbffaaGreat
