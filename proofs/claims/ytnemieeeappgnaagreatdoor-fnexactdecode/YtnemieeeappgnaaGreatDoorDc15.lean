import Derived.Test.YtnemieeeappgnaaGreatDoorDc14
namespace Go.Proofs.YtnemieeeappgnaaGreatDoor
open Go.ChangeShapes Go.WideShapes Go.ChangeAt Go.RowKit
set_option linter.unusedVariables false
theorem then_some {α β : Type} {r : Rdr α} {f : α → Rdr β} {k k1 : Nat} {x : α} {y : Option (β × Nat)} (h : r k = some (x, k1)) (h' : f x k1 = y) : thenR r f k = y := (thenR_some h).trans h'
theorem num_bdR {zs : List Int} (hz : AllB zs) {n k k' : Nat} {v : Int} (hn : n ≤ 7) (h : numR zs n k = some (v, k')) : 0 ≤ v ∧ v < 2 ^ (8 * n) := numR_val hz hn h
set_option maxRecDepth 100000 in
theorem typeByte_any (B I L : Nat) (a : Option Addr) (c : Nat) (zs : List Int) (k : Nat) (w : World) (h : InR w B I L a c zs k) :
    Calls Tryz.prog 79 #[.pointer (some ⟨I, 0, none⟩)] w (Rds (numR zs 1) (fun _ x V => V = .int .i64 x) w B I L a c zs k) := by
  have H : Hid (InR w B I L a c zs k) := h
  clear h
  go_enter Tryz.func79, Tryz.ntmps79
  go_wp2_with fail
  refine (number_any B I L a c zs 1 k w (by omega) (by omega) H.out).mono ?_
  rintro e u (⟨x, V, k', rfl, hr, rfl, hg⟩ | ⟨rfl, hn, hc⟩)
  · go_wp2
    go_ret
    exact .inl ⟨x, _, k', rfl, hr, rfl, hg⟩
  · unfold stopE
    go_wp2
    exact ⟨rfl, .inr ⟨rfl, hn, hc⟩⟩
set_option maxHeartbeats 2000000 in
set_option maxRecDepth 100000 in
theorem constant_any (B I L : Nat) (a : Option Addr) (c : Nat) (zs : List Int) (k : Nat) (w : World) (h : InR w B I L a c zs k) :
    Calls Tryz.prog 56 #[.pointer (some ⟨I, 0, none⟩)] w (Rds (constR zs) (fun _ x V => V = .agg #[.int .i64 x.type, .int .u32 x.word]) w B I L a c zs k) := by
  have H0 : Hid (Br w (w.alloc (.cells #[.int .i64 0, .int .u32 0] 61)) [bRow w.heap.size 61 2 [.int .i64 0, .int .u32 0]] B I L a c zs k) := (Br.start h).box 61 2 _ rfl
  have HZ : Hid (AllB zs) := h.hz
  clear h
  go_enter Tryz.func56, Tryz.ntmps56
  go_wp2_with fail
  refine (typeByte_any B I L a c zs k _ H0.out.got.at_).mono ?_
  rintro e u1 (⟨x1, V, k1, rfl, hr, rfl, hg⟩ | ⟨rfl, hn, hc⟩)
  rotate_left
  · unfold stopE
    go_wp2
    exact ⟨rfl, .inr ⟨rfl, (thenR_none hn), H0.out.got.chg.on hc⟩⟩
  have H1 : Hid (Br w u1 [bRow w.heap.size 61 2 [.int .i64 0, .int .u32 0]] B I L a c zs k1) := H0.out.read hg
  have R1 : Hid (numR zs 1 k = some (x1, k1)) := hr
  clear hr hg H0
  go_wp2_with fail
  refine (number_any B I L a c zs 4 k1 _ (by omega) (by omega) H1.out.got.at_).mono ?_
  rintro e u2 (⟨x2, V, k2, rfl, hr, rfl, hg⟩ | ⟨rfl, hn, hc⟩)
  rotate_left
  · unfold stopE
    go_wp2
    exact ⟨rfl, .inr ⟨rfl, (then_some R1.out (thenR_none hn)), H1.out.got.chg.on hc⟩⟩
  have H2 : Hid (Br w u2 [bRow w.heap.size 61 2 [.int .i64 0, .int .u32 0]] B I L a c zs k2) := H1.out.read hg
  have R2 : Hid (numR zs 4 k1 = some (x2, k2)) := hr
  have hw : IntKind.u32.wrap x2 = x2 := by
    have := num_bdR HZ.out (by omega) hr
    exact IntWalk.u32_in _ ⟨by omega, by omega⟩
  clear hr hg H1
  have q0 : u2.cell? ⟨w.heap.size, 0, none⟩ = some (.int .i64 0) := H2.out.cell (show bRow w.heap.size 61 2 [.int .i64 0, .int .u32 0] ∈ _ by simp) 0 (by omega)
  have f0 : u2.frozen? ⟨w.heap.size, 0, none⟩ = false := H2.out.frozen (show bRow w.heap.size 61 2 [.int .i64 0, .int .u32 0] ∈ _ by simp) 0
  have q1 : u2.cell? ⟨w.heap.size, 1, none⟩ = some (.int .u32 0) := H2.out.cell (show bRow w.heap.size 61 2 [.int .i64 0, .int .u32 0] ∈ _ by simp) 1 (by omega)
  have f1 : u2.frozen? ⟨w.heap.size, 1, none⟩ = false := H2.out.frozen (show bRow w.heap.size 61 2 [.int .i64 0, .int .u32 0] ∈ _ by simp) 1
  go_wp2
  have HF : Hid (Br w ((u2.setCell ⟨w.heap.size, 0, none⟩ (.int .i64 x1)).setCell ⟨w.heap.size, 1, none⟩ (.int .u32 x2)) [bRow w.heap.size 61 2 [.int .i64 x1, .int .u32 x2]] B I L a c zs k2) := Br.set (A := []) (Br.set (A := []) H2.out 0 (by omega) (.int .i64 x1)) 1 (by omega) (.int .u32 x2)
  generalize (u2.setCell ⟨w.heap.size, 0, none⟩ (.int .i64 x1)).setCell ⟨w.heap.size, 1, none⟩ (.int .u32 x2) = WF at HF ⊢
  have r0 : WF.cell? ⟨w.heap.size, 0, none⟩ = some (.int .i64 x1) := HF.out.cell (show bRow w.heap.size 61 2 [.int .i64 x1, .int .u32 x2] ∈ _ by simp) 0 (by omega)
  have r1 : WF.cell? ⟨w.heap.size, 1, none⟩ = some (.int .u32 x2) := HF.out.cell (show bRow w.heap.size 61 2 [.int .i64 x1, .int .u32 x2] ∈ _ by simp) 1 (by omega)
  exact bodyPost_ret (v := .agg #[.int .i64 x1, .int .u32 x2]) (by simp [results, Tryz.results56, go_sem, r0, r1]) rfl (.inl ⟨⟨x1, x2⟩, _, k2, rfl, (then_some R1.out (then_some R2.out rfl)), rfl, HF.out.got⟩)
set_option maxHeartbeats 2000000 in
set_option maxRecDepth 100000 in
theorem instruction_any (B I L : Nat) (a : Option Addr) (c : Nat) (zs : List Int) (k : Nat) (w : World) (h : InR w B I L a c zs k) :
    Calls Tryz.prog 81 #[.pointer (some ⟨I, 0, none⟩)] w (Rds (instrR zs) (fun _ x V => V = .agg #[.int .i64 x.op, .int .i64 x.a, .int .i64 x.b, .int .i64 x.c]) w B I L a c zs k) := by
  have H0 : Hid (Br w (w.alloc (.cells #[.int .i64 0, .int .i64 0, .int .i64 0, .int .i64 0] 73)) [bRow w.heap.size 73 4 [.int .i64 0, .int .i64 0, .int .i64 0, .int .i64 0]] B I L a c zs k) := (Br.start h).box 73 4 _ rfl
  have HZ : Hid (AllB zs) := h.hz
  clear h
  go_enter Tryz.func81, Tryz.ntmps81
  go_wp2_with fail
  refine (number_any B I L a c zs 1 k _ (by omega) (by omega) H0.out.got.at_).mono ?_
  rintro e u1 (⟨x1, V, k1, rfl, hr, rfl, hg⟩ | ⟨rfl, hn, hc⟩)
  rotate_left
  · unfold stopE
    go_wp2
    exact ⟨rfl, .inr ⟨rfl, (thenR_none hn), H0.out.got.chg.on hc⟩⟩
  have H1 : Hid (Br w u1 [bRow w.heap.size 73 4 [.int .i64 0, .int .i64 0, .int .i64 0, .int .i64 0]] B I L a c zs k1) := H0.out.read hg
  have R1 : Hid (numR zs 1 k = some (x1, k1)) := hr
  clear hr hg H0
  go_wp2_with fail
  refine (number_any B I L a c zs 1 k1 _ (by omega) (by omega) H1.out.got.at_).mono ?_
  rintro e u2 (⟨x2, V, k2, rfl, hr, rfl, hg⟩ | ⟨rfl, hn, hc⟩)
  rotate_left
  · unfold stopE
    go_wp2
    exact ⟨rfl, .inr ⟨rfl, (then_some R1.out (thenR_none hn)), H1.out.got.chg.on hc⟩⟩
  have H2 : Hid (Br w u2 [bRow w.heap.size 73 4 [.int .i64 0, .int .i64 0, .int .i64 0, .int .i64 0]] B I L a c zs k2) := H1.out.read hg
  have R2 : Hid (numR zs 1 k1 = some (x2, k2)) := hr
  clear hr hg H1
  go_wp2_with fail
  refine (number_any B I L a c zs 2 k2 _ (by omega) (by omega) H2.out.got.at_).mono ?_
  rintro e u3 (⟨x3, V, k3, rfl, hr, rfl, hg⟩ | ⟨rfl, hn, hc⟩)
  rotate_left
  · unfold stopE
    go_wp2
    exact ⟨rfl, .inr ⟨rfl, (then_some R1.out (then_some R2.out (thenR_none hn))), H2.out.got.chg.on hc⟩⟩
  have H3 : Hid (Br w u3 [bRow w.heap.size 73 4 [.int .i64 0, .int .i64 0, .int .i64 0, .int .i64 0]] B I L a c zs k3) := H2.out.read hg
  have R3 : Hid (numR zs 2 k2 = some (x3, k3)) := hr
  clear hr hg H2
  go_wp2_with fail
  refine (number_any B I L a c zs 4 k3 _ (by omega) (by omega) H3.out.got.at_).mono ?_
  rintro e u4 (⟨x4, V, k4, rfl, hr, rfl, hg⟩ | ⟨rfl, hn, hc⟩)
  rotate_left
  · unfold stopE
    go_wp2
    exact ⟨rfl, .inr ⟨rfl, (then_some R1.out (then_some R2.out (then_some R3.out (thenR_none hn)))), H3.out.got.chg.on hc⟩⟩
  have H4 : Hid (Br w u4 [bRow w.heap.size 73 4 [.int .i64 0, .int .i64 0, .int .i64 0, .int .i64 0]] B I L a c zs k4) := H3.out.read hg
  have R4 : Hid (numR zs 4 k3 = some (x4, k4)) := hr
  clear hr hg H3
  have q0 : u4.cell? ⟨w.heap.size, 0, none⟩ = some (.int .i64 0) := H4.out.cell (show bRow w.heap.size 73 4 [.int .i64 0, .int .i64 0, .int .i64 0, .int .i64 0] ∈ _ by simp) 0 (by omega)
  have f0 : u4.frozen? ⟨w.heap.size, 0, none⟩ = false := H4.out.frozen (show bRow w.heap.size 73 4 [.int .i64 0, .int .i64 0, .int .i64 0, .int .i64 0] ∈ _ by simp) 0
  have q1 : u4.cell? ⟨w.heap.size, 1, none⟩ = some (.int .i64 0) := H4.out.cell (show bRow w.heap.size 73 4 [.int .i64 0, .int .i64 0, .int .i64 0, .int .i64 0] ∈ _ by simp) 1 (by omega)
  have f1 : u4.frozen? ⟨w.heap.size, 1, none⟩ = false := H4.out.frozen (show bRow w.heap.size 73 4 [.int .i64 0, .int .i64 0, .int .i64 0, .int .i64 0] ∈ _ by simp) 1
  have q2 : u4.cell? ⟨w.heap.size, 2, none⟩ = some (.int .i64 0) := H4.out.cell (show bRow w.heap.size 73 4 [.int .i64 0, .int .i64 0, .int .i64 0, .int .i64 0] ∈ _ by simp) 2 (by omega)
  have f2 : u4.frozen? ⟨w.heap.size, 2, none⟩ = false := H4.out.frozen (show bRow w.heap.size 73 4 [.int .i64 0, .int .i64 0, .int .i64 0, .int .i64 0] ∈ _ by simp) 2
  have q3 : u4.cell? ⟨w.heap.size, 3, none⟩ = some (.int .i64 0) := H4.out.cell (show bRow w.heap.size 73 4 [.int .i64 0, .int .i64 0, .int .i64 0, .int .i64 0] ∈ _ by simp) 3 (by omega)
  have f3 : u4.frozen? ⟨w.heap.size, 3, none⟩ = false := H4.out.frozen (show bRow w.heap.size 73 4 [.int .i64 0, .int .i64 0, .int .i64 0, .int .i64 0] ∈ _ by simp) 3
  go_wp2
  have HF : Hid (Br w ((((u4.setCell ⟨w.heap.size, 0, none⟩ (.int .i64 x1)).setCell ⟨w.heap.size, 1, none⟩ (.int .i64 x2)).setCell ⟨w.heap.size, 2, none⟩ (.int .i64 x3)).setCell ⟨w.heap.size, 3, none⟩ (.int .i64 x4)) [bRow w.heap.size 73 4 [.int .i64 x1, .int .i64 x2, .int .i64 x3, .int .i64 x4]] B I L a c zs k4) := Br.set (A := []) (Br.set (A := []) (Br.set (A := []) (Br.set (A := []) H4.out 0 (by omega) (.int .i64 x1)) 1 (by omega) (.int .i64 x2)) 2 (by omega) (.int .i64 x3)) 3 (by omega) (.int .i64 x4)
  generalize (((u4.setCell ⟨w.heap.size, 0, none⟩ (.int .i64 x1)).setCell ⟨w.heap.size, 1, none⟩ (.int .i64 x2)).setCell ⟨w.heap.size, 2, none⟩ (.int .i64 x3)).setCell ⟨w.heap.size, 3, none⟩ (.int .i64 x4) = WF at HF ⊢
  have r0 : WF.cell? ⟨w.heap.size, 0, none⟩ = some (.int .i64 x1) := HF.out.cell (show bRow w.heap.size 73 4 [.int .i64 x1, .int .i64 x2, .int .i64 x3, .int .i64 x4] ∈ _ by simp) 0 (by omega)
  have r1 : WF.cell? ⟨w.heap.size, 1, none⟩ = some (.int .i64 x2) := HF.out.cell (show bRow w.heap.size 73 4 [.int .i64 x1, .int .i64 x2, .int .i64 x3, .int .i64 x4] ∈ _ by simp) 1 (by omega)
  have r2 : WF.cell? ⟨w.heap.size, 2, none⟩ = some (.int .i64 x3) := HF.out.cell (show bRow w.heap.size 73 4 [.int .i64 x1, .int .i64 x2, .int .i64 x3, .int .i64 x4] ∈ _ by simp) 2 (by omega)
  have r3 : WF.cell? ⟨w.heap.size, 3, none⟩ = some (.int .i64 x4) := HF.out.cell (show bRow w.heap.size 73 4 [.int .i64 x1, .int .i64 x2, .int .i64 x3, .int .i64 x4] ∈ _ by simp) 3 (by omega)
  exact bodyPost_ret (v := .agg #[.int .i64 x1, .int .i64 x2, .int .i64 x3, .int .i64 x4]) (by simp [results, Tryz.results81, go_sem, r0, r1, r2, r3]) rfl (.inl ⟨⟨x1, x2, x3, x4⟩, _, k4, rfl, (then_some R1.out (then_some R2.out (then_some R3.out (then_some R4.out rfl)))), rfl, HF.out.got⟩)
set_option maxHeartbeats 2000000 in
set_option maxRecDepth 100000 in
theorem cert_any (B I L : Nat) (a : Option Addr) (c : Nat) (zs : List Int) (k : Nat) (w : World) (h : InR w B I L a c zs k) :
    Calls Tryz.prog 60 #[.pointer (some ⟨I, 0, none⟩)] w (Rds (certR zs) (fun _ x V => V = .agg #[.int .i64 x.func, .int .i64 x.head, .int .i64 x.counter, .int .u32 x.init]) w B I L a c zs k) := by
  have H0 : Hid (Br w (w.alloc (.cells #[.int .i64 0, .int .i64 0, .int .i64 0, .int .u32 0] 67)) [bRow w.heap.size 67 4 [.int .i64 0, .int .i64 0, .int .i64 0, .int .u32 0]] B I L a c zs k) := (Br.start h).box 67 4 _ rfl
  have HZ : Hid (AllB zs) := h.hz
  clear h
  go_enter Tryz.func60, Tryz.ntmps60
  go_wp2_with fail
  refine (number_any B I L a c zs 2 k _ (by omega) (by omega) H0.out.got.at_).mono ?_
  rintro e u1 (⟨x1, V, k1, rfl, hr, rfl, hg⟩ | ⟨rfl, hn, hc⟩)
  rotate_left
  · unfold stopE
    go_wp2
    exact ⟨rfl, .inr ⟨rfl, (thenR_none hn), H0.out.got.chg.on hc⟩⟩
  have H1 : Hid (Br w u1 [bRow w.heap.size 67 4 [.int .i64 0, .int .i64 0, .int .i64 0, .int .u32 0]] B I L a c zs k1) := H0.out.read hg
  have R1 : Hid (numR zs 2 k = some (x1, k1)) := hr
  clear hr hg H0
  go_wp2_with fail
  refine (number_any B I L a c zs 2 k1 _ (by omega) (by omega) H1.out.got.at_).mono ?_
  rintro e u2 (⟨x2, V, k2, rfl, hr, rfl, hg⟩ | ⟨rfl, hn, hc⟩)
  rotate_left
  · unfold stopE
    go_wp2
    exact ⟨rfl, .inr ⟨rfl, (then_some R1.out (thenR_none hn)), H1.out.got.chg.on hc⟩⟩
  have H2 : Hid (Br w u2 [bRow w.heap.size 67 4 [.int .i64 0, .int .i64 0, .int .i64 0, .int .u32 0]] B I L a c zs k2) := H1.out.read hg
  have R2 : Hid (numR zs 2 k1 = some (x2, k2)) := hr
  clear hr hg H1
  go_wp2_with fail
  refine (number_any B I L a c zs 1 k2 _ (by omega) (by omega) H2.out.got.at_).mono ?_
  rintro e u3 (⟨x3, V, k3, rfl, hr, rfl, hg⟩ | ⟨rfl, hn, hc⟩)
  rotate_left
  · unfold stopE
    go_wp2
    exact ⟨rfl, .inr ⟨rfl, (then_some R1.out (then_some R2.out (thenR_none hn))), H2.out.got.chg.on hc⟩⟩
  have H3 : Hid (Br w u3 [bRow w.heap.size 67 4 [.int .i64 0, .int .i64 0, .int .i64 0, .int .u32 0]] B I L a c zs k3) := H2.out.read hg
  have R3 : Hid (numR zs 1 k2 = some (x3, k3)) := hr
  clear hr hg H2
  go_wp2_with fail
  refine (number_any B I L a c zs 4 k3 _ (by omega) (by omega) H3.out.got.at_).mono ?_
  rintro e u4 (⟨x4, V, k4, rfl, hr, rfl, hg⟩ | ⟨rfl, hn, hc⟩)
  rotate_left
  · unfold stopE
    go_wp2
    exact ⟨rfl, .inr ⟨rfl, (then_some R1.out (then_some R2.out (then_some R3.out (thenR_none hn)))), H3.out.got.chg.on hc⟩⟩
  have H4 : Hid (Br w u4 [bRow w.heap.size 67 4 [.int .i64 0, .int .i64 0, .int .i64 0, .int .u32 0]] B I L a c zs k4) := H3.out.read hg
  have R4 : Hid (numR zs 4 k3 = some (x4, k4)) := hr
  have hw : IntKind.u32.wrap x4 = x4 := by
    have := num_bdR HZ.out (by omega) hr
    exact IntWalk.u32_in _ ⟨by omega, by omega⟩
  clear hr hg H3
  have q0 : u4.cell? ⟨w.heap.size, 0, none⟩ = some (.int .i64 0) := H4.out.cell (show bRow w.heap.size 67 4 [.int .i64 0, .int .i64 0, .int .i64 0, .int .u32 0] ∈ _ by simp) 0 (by omega)
  have f0 : u4.frozen? ⟨w.heap.size, 0, none⟩ = false := H4.out.frozen (show bRow w.heap.size 67 4 [.int .i64 0, .int .i64 0, .int .i64 0, .int .u32 0] ∈ _ by simp) 0
  have q1 : u4.cell? ⟨w.heap.size, 1, none⟩ = some (.int .i64 0) := H4.out.cell (show bRow w.heap.size 67 4 [.int .i64 0, .int .i64 0, .int .i64 0, .int .u32 0] ∈ _ by simp) 1 (by omega)
  have f1 : u4.frozen? ⟨w.heap.size, 1, none⟩ = false := H4.out.frozen (show bRow w.heap.size 67 4 [.int .i64 0, .int .i64 0, .int .i64 0, .int .u32 0] ∈ _ by simp) 1
  have q2 : u4.cell? ⟨w.heap.size, 2, none⟩ = some (.int .i64 0) := H4.out.cell (show bRow w.heap.size 67 4 [.int .i64 0, .int .i64 0, .int .i64 0, .int .u32 0] ∈ _ by simp) 2 (by omega)
  have f2 : u4.frozen? ⟨w.heap.size, 2, none⟩ = false := H4.out.frozen (show bRow w.heap.size 67 4 [.int .i64 0, .int .i64 0, .int .i64 0, .int .u32 0] ∈ _ by simp) 2
  have q3 : u4.cell? ⟨w.heap.size, 3, none⟩ = some (.int .u32 0) := H4.out.cell (show bRow w.heap.size 67 4 [.int .i64 0, .int .i64 0, .int .i64 0, .int .u32 0] ∈ _ by simp) 3 (by omega)
  have f3 : u4.frozen? ⟨w.heap.size, 3, none⟩ = false := H4.out.frozen (show bRow w.heap.size 67 4 [.int .i64 0, .int .i64 0, .int .i64 0, .int .u32 0] ∈ _ by simp) 3
  go_wp2
  have HF : Hid (Br w ((((u4.setCell ⟨w.heap.size, 0, none⟩ (.int .i64 x1)).setCell ⟨w.heap.size, 1, none⟩ (.int .i64 x2)).setCell ⟨w.heap.size, 2, none⟩ (.int .i64 x3)).setCell ⟨w.heap.size, 3, none⟩ (.int .u32 x4)) [bRow w.heap.size 67 4 [.int .i64 x1, .int .i64 x2, .int .i64 x3, .int .u32 x4]] B I L a c zs k4) := Br.set (A := []) (Br.set (A := []) (Br.set (A := []) (Br.set (A := []) H4.out 0 (by omega) (.int .i64 x1)) 1 (by omega) (.int .i64 x2)) 2 (by omega) (.int .i64 x3)) 3 (by omega) (.int .u32 x4)
  generalize (((u4.setCell ⟨w.heap.size, 0, none⟩ (.int .i64 x1)).setCell ⟨w.heap.size, 1, none⟩ (.int .i64 x2)).setCell ⟨w.heap.size, 2, none⟩ (.int .i64 x3)).setCell ⟨w.heap.size, 3, none⟩ (.int .u32 x4) = WF at HF ⊢
  have r0 : WF.cell? ⟨w.heap.size, 0, none⟩ = some (.int .i64 x1) := HF.out.cell (show bRow w.heap.size 67 4 [.int .i64 x1, .int .i64 x2, .int .i64 x3, .int .u32 x4] ∈ _ by simp) 0 (by omega)
  have r1 : WF.cell? ⟨w.heap.size, 1, none⟩ = some (.int .i64 x2) := HF.out.cell (show bRow w.heap.size 67 4 [.int .i64 x1, .int .i64 x2, .int .i64 x3, .int .u32 x4] ∈ _ by simp) 1 (by omega)
  have r2 : WF.cell? ⟨w.heap.size, 2, none⟩ = some (.int .i64 x3) := HF.out.cell (show bRow w.heap.size 67 4 [.int .i64 x1, .int .i64 x2, .int .i64 x3, .int .u32 x4] ∈ _ by simp) 2 (by omega)
  have r3 : WF.cell? ⟨w.heap.size, 3, none⟩ = some (.int .u32 x4) := HF.out.cell (show bRow w.heap.size 67 4 [.int .i64 x1, .int .i64 x2, .int .i64 x3, .int .u32 x4] ∈ _ by simp) 3 (by omega)
  exact bodyPost_ret (v := .agg #[.int .i64 x1, .int .i64 x2, .int .i64 x3, .int .u32 x4]) (by simp [results, Tryz.results60, go_sem, r0, r1, r2, r3]) rfl (.inl ⟨⟨x1, x2, x3, x4⟩, _, k4, rfl, (then_some R1.out (then_some R2.out (then_some R3.out (then_some R4.out rfl)))), rfl, HF.out.got⟩)
end Go.Proofs.YtnemieeeappgnaaGreatDoor
