/- KTo: toStmt, toStmtS. -/
import Derived.Test.YtjlnglgfehefdaaKSz
import Derived.OneCell
namespace Go.Proofs.Ytjlnglgfehefdaa
open Go.ChangeShapes Go.WideShapes Go.ChangeAt Go.RowKit
set_option linter.unusedVariables false
theorem info_parts {P : Program} {t : TypeId} {z : Value} {n b : Nat} (h : (P.info? t).map (fun i => (i.zero, i.size, i.bytes)) = some (some z, n, b)) : ∃ i, P.info? t = some i ∧ i.zero = some z ∧ i.size = n ∧ i.bytes = b := by
  cases hi : P.info? t with
  | none => rw [hi] at h; cases h
  | some i =>
    rw [hi] at h
    simp only [Option.map_some, Option.some.injEq, Prod.mk.injEq] at h
    exact ⟨i, rfl, h.1, h.2.1, h.2.2⟩
theorem infoS : (Try.prog.info? 35).map (fun i => (i.zero, i.size, i.bytes)) = some (some (.agg #[.int .i64 0, .int .i64 0, .int .i64 0, .slice none 0 0, .slice none 0 0]), 5, 72) := by kernel_rfl
theorem own_base {w : World} {base base' : Nat} {e : TypeId} {s : Value} {k n : Nat} {xs : List Value} (h : w.ownsRow base e k s n xs) (hb : base' ≤ base) : w.ownsRow base' e k s n xs := by
  refine ⟨h.1, ?_⟩
  rcases h.2 with h | ⟨g, cap, cur, e1, hb1, hg, hr⟩
  · exact .inl h
  · exact .inr ⟨g, cap, cur, e1, Nat.le_trans hb hb1, hg, hr⟩
/-- A value owns a list of statements, in blocks from base on. -/
def OwnT (w : World) (base : Nat) : (n : Nat) → Value → TL n → Prop
  | 0, s, _ => w.ownsRow base 35 5 s 0 []
  | n + 1, s, l => ∃ xs : List (SS (TL n) × Value × Value), List.map Prod.fst xs = l ∧ w.ownsRow base 35 5 s (List.length l) (xs.flatMap sCells) ∧ ∀ x, List.Mem x xs → OwnT w base n x.2.1 x.1.body ∧ OwnT w base n x.2.2 x.1.els
theorem OwnT.rd {w : World} {base n : Nat} {s : Value} {t : TL n} (h : OwnT w base n s t) : RdT w n s t := by
  induction n generalizing s with
  | zero => exact (Rd.of_own h).is_slice
  | succ n ih =>
    obtain ⟨xs, h1, h2, h3⟩ := h
    exact ⟨xs, h1, Rd.of_own h2, fun x hx => ⟨ih (h3 x hx).1, ih (h3 x hx).2⟩⟩
theorem OwnT.keep {w w' : World} {base n : Nat} {s : Value} {t : TL n} (h : OwnT w base n s t) {B : Nat} (hb : Below B w w') (hB : w.heap.size ≤ B) : OwnT w' base n s t := by
  induction n generalizing s with
  | zero => exact own_keep h hb hB
  | succ n ih =>
    obtain ⟨xs, h1, h2, h3⟩ := h
    exact ⟨xs, h1, own_keep h2 hb hB, fun x hx => ⟨ih (h3 x hx).1, ih (h3 x hx).2⟩⟩
theorem OwnT.base {w : World} {base base' n : Nat} {s : Value} {t : TL n} (h : OwnT w base n s t) (hb : base' ≤ base) : OwnT w base' n s t := by
  induction n generalizing s with
  | zero => exact own_base h hb
  | succ n ih =>
    obtain ⟨xs, h1, h2, h3⟩ := h
    exact ⟨xs, h1, own_base h2 hb, fun x hx => ⟨ih (h3 x hx).1, ih (h3 x hx).2⟩⟩
theorem OwnT.below {w : World} {base n : Nat} {s : Value} {t : TL n} (h : OwnT w base n s t) {a : Addr} (ha : a.block < base) (x : Value) : OwnT (w.setCell a x) base n s t := by
  induction n generalizing s with
  | zero => exact ownsRow_setCell_below h ha x
  | succ n ih =>
    obtain ⟨xs, h1, h2, h3⟩ := h
    exact ⟨xs, h1, ownsRow_setCell_below h2 ha x, fun y hy => ⟨ih (h3 y hy).1, ih (h3 y hy).2⟩⟩
theorem OwnT.is_slice {w : World} {base n : Nat} {s : Value} {t : TL n} (h : OwnT w base n s t) : ∃ a c, s = .slice a (lenT n t) c := h.rd.is_slice
/-- What toStmtS is asked for. -/
def ToIs (n : Nat) : Prop := ∀ (v : Value) (t : TL n) (w : World), RdT w n v t → sizeT n t ≤ 1048576 → Calls Try.prog 6 #[v] w fun e w' => ∃ v', e = .returned v' ∧ OwnT w' w.heap.size n v' t ∧ Below w.heap.size w w'
/-- Where toStmt stands. -/
structure TsAt (w u : World) (p r o : Array Value) : Prop where
  par : Blk u w.heap.size p 31
  res : Blk u (w.heap.size + 1) r 35
  loc : Blk u (w.heap.size + 1 + 1) o 35
  bel : Below w.heap.size w u
  siz : w.heap.size + 3 ≤ u.heap.size
theorem TsAt.keep {w u u' : World} {p r o : Array Value} (h : TsAt w u p r o) (hb : Below u.heap.size u u') : TsAt w u' p r o := ⟨h.par.keep hb, h.res.keep hb, h.loc.keep hb, below_on h.bel (Nat.le_refl _) hb, Nat.le_trans h.siz hb.size⟩
theorem TsAt.set {w u : World} {p r o : Array Value} (h : TsAt w u p r o) (j : Nat) (x : Value) : TsAt w (u.setCell ⟨w.heap.size + 1 + 1, j, none⟩ x) p r (o.setIfInBounds j x) :=
  ⟨h.par.other (by simp only []; omega) x, h.res.other (by simp only []; omega) x, h.loc.set j x, h.bel.setCell (by simp only []; omega) x, by have := h.siz; simpa using this⟩
theorem TsAt.set' {w u : World} {p r o : Array Value} (h : TsAt w u p r o) (j : Nat) (x : Value) : TsAt w (u.setCell ⟨w.heap.size + 1, j, none⟩ x) p (r.setIfInBounds j x) o :=
  ⟨h.par.other (by simp only []; omega) x, h.res.set j x, h.loc.other (by simp only []; omega) x, h.bel.setCell (by simp only []; omega) x, by have := h.siz; simpa using this⟩
theorem TsAt.of (w : World) (p r o : Array Value) : TsAt w (((w.alloc (.cells p 31)).alloc (.cells r 35)).alloc (.cells o 35)) p r o := by
  have b1 := below_alloc w (.cells p 31)
  have b2 := below_alloc (w.alloc (.cells p 31)) (.cells r 35)
  have b3 := below_alloc ((w.alloc (.cells p 31)).alloc (.cells r 35)) (.cells o 35)
  have e1 : (w.alloc (.cells p 31)).heap.size = w.heap.size + 1 := by simp
  have e2 : ((w.alloc (.cells p 31)).alloc (.cells r 35)).heap.size = w.heap.size + 1 + 1 := by simp
  refine ⟨((Blk.new w p _).keep b2).keep b3, ?_, ?_, below_on (below_on b1 (Nat.le_refl _) b2) (Nat.le_refl _) b3, by simp⟩
  · have := (Blk.new (w.alloc (.cells p 31)) r 35).keep b3
    rw [e1] at this
    exact this
  · have := Blk.new ((w.alloc (.cells p 31)).alloc (.cells r 35)) o 35
    rw [e2] at this
    exact this
theorem blk5 {w : World} {b : Nat} {t : TypeId} {a0 a1 a2 a3 a4 : Value} (h : Blk w b #[a0, a1, a2, a3, a4] t) : w.cell? ⟨b, 0, none⟩ = some a0 ∧ w.cell? ⟨b, 1, none⟩ = some a1 ∧ w.cell? ⟨b, 2, none⟩ = some a2 ∧ w.cell? ⟨b, 3, none⟩ = some a3 ∧ w.cell? ⟨b, 4, none⟩ = some a4 := ⟨h.cell 0, h.cell 1, h.cell 2, h.cell 3, h.cell 4⟩
theorem frz5 {w : World} {b : Nat} {t : TypeId} {cur : Array Value} (h : Blk w b cur t) : w.frozen? ⟨b, 0, none⟩ = false ∧ w.frozen? ⟨b, 1, none⟩ = false ∧ w.frozen? ⟨b, 2, none⟩ = false ∧ w.frozen? ⟨b, 3, none⟩ = false ∧ w.frozen? ⟨b, 4, none⟩ = false := ⟨h.frozen 0, h.frozen 1, h.frozen 2, h.frozen 3, h.frozen 4⟩
set_option maxHeartbeats 4000000 in
set_option maxRecDepth 100000 in
theorem toStmt_any (n : Nat) (hS : ToIs n) (x : SS (TL n)) (vb ve : Value) (w : World) (hb : RdT w n vb x.body) (he : RdT w n ve x.els) (h1 : sizeT n x.body ≤ 1048576) (h2 : sizeT n x.els ≤ 1048576) :
    Calls Try.prog 12 #[.agg #[.int .i64 x.k, .int .i64 x.a, .int .i64 x.b, vb, ve]] w fun e w' => ∃ vb' ve', e = .returned (.agg #[.int .i64 x.k, .int .i64 x.a, .int .i64 x.b, vb', ve']) ∧ OwnT w' w.heap.size n vb' x.body ∧ OwnT w' w.heap.size n ve' x.els ∧ Below w.heap.size w w' := by
  have HS : Hid (ToIs n) := hS
  obtain ⟨a1, c1, rfl⟩ := hb.is_slice
  obtain ⟨a2, c2, rfl⟩ := he.is_slice
  have H : Hid (RdT w n (.slice a1 (lenT n x.body) c1) x.body ∧ RdT w n (.slice a2 (lenT n x.els) c2) x.els ∧ sizeT n x.body ≤ 1048576 ∧ sizeT n x.els ≤ 1048576) := ⟨hb, he, h1, h2⟩
  clear hb he h1 h2 hS
  generalize lenT n x.body = lb at H ⊢
  generalize lenT n x.els = le at H ⊢
  have F0 : Hid _ := TsAt.of w #[.int .i64 x.k, .int .i64 x.a, .int .i64 x.b, .slice a1 lb c1, .slice a2 le c2] #[.int .i64 0, .int .i64 0, .int .i64 0, .slice none 0 0, .slice none 0 0] #[.int .i64 0, .int .i64 0, .int .i64 0, .slice none 0 0, .slice none 0 0]
  go_enter Try.func12, Try.ntmps12
  go_upto_region 2 with fail
  refine wp_world (fun u => Hid (TsAt w u #[.int .i64 x.k, .int .i64 x.a, .int .i64 x.b, .slice a1 lb c1, .slice a2 le c2] #[.int .i64 0, .int .i64 0, .int .i64 0, .slice none 0 0, .slice none 0 0] #[.int .i64 0, .int .i64 0, .int .i64 0, .slice none 0 0, .slice none 0 0])) F0 ?_
  rintro U F1
  clear F0
  obtain ⟨p0, p1, p2, p3, p4⟩ := blk5 F1.out.par
  obtain ⟨z0, z1, z2, z3, z4⟩ := frz5 F1.out.loc
  obtain ⟨o0, o1, o2, o3, o4⟩ := blk5 F1.out.loc
  go_upto_region 5 with fail
  have F2 : Hid _ := ((F1.out.set 0 (.int .i64 x.k)).set 1 (.int .i64 x.a)).set 2 (.int .i64 x.b)
  simp only [List.setIfInBounds_toArray, List.set_cons_zero, List.set_cons_succ] at F2
  clear p0 p1 p2 p3 p4 z0 z1 z2 z3 z4 o0 o1 o2 o3 o4 F1
  refine wp_world (fun u => Hid (TsAt w u #[.int .i64 x.k, .int .i64 x.a, .int .i64 x.b, .slice a1 lb c1, .slice a2 le c2] #[.int .i64 0, .int .i64 0, .int .i64 0, .slice none 0 0, .slice none 0 0] #[.int .i64 x.k, .int .i64 x.a, .int .i64 x.b, .slice none 0 0, .slice none 0 0])) F2 ?_
  rintro U1 F3
  clear F2
  clear U
  obtain ⟨p0, p1, p2, p3, p4⟩ := blk5 F3.out.par
  go_wp2_with fail
  refine (HS.out _ x.body U1 (H.out.1.keep F3.out.bel (Nat.le_refl _)) H.out.2.2.1).mono ?_
  rintro e u1 ⟨vb', rfl, ob, b1⟩
  obtain ⟨a3, c3, rfl⟩ := ob.is_slice
  generalize lenT n x.body = lb' at ob ⊢
  have F4 : Hid (TsAt w u1 #[.int .i64 x.k, .int .i64 x.a, .int .i64 x.b, .slice a1 lb c1, .slice a2 le c2] #[.int .i64 0, .int .i64 0, .int .i64 0, .slice none 0 0, .slice none 0 0] #[.int .i64 x.k, .int .i64 x.a, .int .i64 x.b, .slice none 0 0, .slice none 0 0]) := F3.out.keep b1
  have O1 : Hid (OwnT u1 (w.heap.size + 3) n (.slice a3 lb' c3) x.body) := ob.base F3.out.siz
  clear ob b1 F3 p0 p1 p2 p3 p4
  obtain ⟨z0, z1, z2, z3, z4⟩ := frz5 F4.out.loc
  obtain ⟨o0, o1, o2, o3, o4⟩ := blk5 F4.out.loc
  go_upto_region 6 with fail
  have F5 : Hid _ := F4.out.set 3 (.slice a3 lb' c3)
  simp only [List.setIfInBounds_toArray, List.set_cons_zero, List.set_cons_succ] at F5
  have F6 : Hid (TsAt w (u1.setCell ⟨w.heap.size + 1 + 1, 3, none⟩ (.slice a3 lb' c3)) #[.int .i64 x.k, .int .i64 x.a, .int .i64 x.b, .slice a1 lb c1, .slice a2 le c2] #[.int .i64 0, .int .i64 0, .int .i64 0, .slice none 0 0, .slice none 0 0] #[.int .i64 x.k, .int .i64 x.a, .int .i64 x.b, .slice a3 lb' c3, .slice none 0 0] ∧ OwnT (u1.setCell ⟨w.heap.size + 1 + 1, 3, none⟩ (.slice a3 lb' c3)) (w.heap.size + 3) n (.slice a3 lb' c3) x.body) := ⟨F5.out, O1.out.below (by simp only []; omega) _⟩
  clear z0 z1 z2 z3 z4 o0 o1 o2 o3 o4 F4 F5 O1
  refine wp_world (fun u => Hid (TsAt w u #[.int .i64 x.k, .int .i64 x.a, .int .i64 x.b, .slice a1 lb c1, .slice a2 le c2] #[.int .i64 0, .int .i64 0, .int .i64 0, .slice none 0 0, .slice none 0 0] #[.int .i64 x.k, .int .i64 x.a, .int .i64 x.b, .slice a3 lb' c3, .slice none 0 0] ∧ OwnT u (w.heap.size + 3) n (.slice a3 lb' c3) x.body)) F6 ?_
  rintro U2 F7
  clear F6
  clear u1
  obtain ⟨p0, p1, p2, p3, p4⟩ := blk5 F7.out.1.par
  go_wp2_with fail
  refine (HS.out _ x.els U2 (H.out.2.1.keep F7.out.1.bel (Nat.le_refl _)) H.out.2.2.2).mono ?_
  rintro e u2 ⟨ve', rfl, oe, b2⟩
  obtain ⟨a4, c4, rfl⟩ := oe.is_slice
  generalize lenT n x.els = le' at oe ⊢
  have F8 : Hid (TsAt w u2 #[.int .i64 x.k, .int .i64 x.a, .int .i64 x.b, .slice a1 lb c1, .slice a2 le c2] #[.int .i64 0, .int .i64 0, .int .i64 0, .slice none 0 0, .slice none 0 0] #[.int .i64 x.k, .int .i64 x.a, .int .i64 x.b, .slice a3 lb' c3, .slice none 0 0] ∧ OwnT u2 (w.heap.size + 3) n (.slice a3 lb' c3) x.body ∧ OwnT u2 (w.heap.size + 3) n (.slice a4 le' c4) x.els) := ⟨F7.out.1.keep b2, F7.out.2.keep b2 (Nat.le_refl _), oe.base F7.out.1.siz⟩
  clear oe b2 F7 p0 p1 p2 p3 p4
  obtain ⟨z0, z1, z2, z3, z4⟩ := frz5 F8.out.1.loc
  obtain ⟨o0, o1, o2, o3, o4⟩ := blk5 F8.out.1.loc
  go_upto_region 7 with fail
  have F9 : Hid _ := F8.out.1.set 4 (.slice a4 le' c4)
  simp only [List.setIfInBounds_toArray, List.set_cons_zero, List.set_cons_succ] at F9
  have F10 : Hid (TsAt w (u2.setCell ⟨w.heap.size + 1 + 1, 4, none⟩ (.slice a4 le' c4)) #[.int .i64 x.k, .int .i64 x.a, .int .i64 x.b, .slice a1 lb c1, .slice a2 le c2] #[.int .i64 0, .int .i64 0, .int .i64 0, .slice none 0 0, .slice none 0 0] #[.int .i64 x.k, .int .i64 x.a, .int .i64 x.b, .slice a3 lb' c3, .slice a4 le' c4] ∧ OwnT (u2.setCell ⟨w.heap.size + 1 + 1, 4, none⟩ (.slice a4 le' c4)) (w.heap.size + 3) n (.slice a3 lb' c3) x.body ∧ OwnT (u2.setCell ⟨w.heap.size + 1 + 1, 4, none⟩ (.slice a4 le' c4)) (w.heap.size + 3) n (.slice a4 le' c4) x.els) := ⟨F9.out, F8.out.2.1.below (by simp only []; omega) _, F8.out.2.2.below (by simp only []; omega) _⟩
  clear z0 z1 z2 z3 z4 o0 o1 o2 o3 o4 F8 F9
  refine wp_world (fun u => Hid (TsAt w u #[.int .i64 x.k, .int .i64 x.a, .int .i64 x.b, .slice a1 lb c1, .slice a2 le c2] #[.int .i64 0, .int .i64 0, .int .i64 0, .slice none 0 0, .slice none 0 0] #[.int .i64 x.k, .int .i64 x.a, .int .i64 x.b, .slice a3 lb' c3, .slice a4 le' c4] ∧ OwnT u (w.heap.size + 3) n (.slice a3 lb' c3) x.body ∧ OwnT u (w.heap.size + 3) n (.slice a4 le' c4) x.els)) F10 ?_
  rintro U3 F11
  clear F10
  clear u2
  obtain ⟨o0, o1, o2, o3, o4⟩ := blk5 F11.out.1.loc
  obtain ⟨z0, z1, z2, z3, z4⟩ := frz5 F11.out.1.res
  obtain ⟨r0, r1, r2, r3, r4⟩ := blk5 F11.out.1.res
  go_wp2_with fail
  have G : Hid _ := ((((F11.out.1.set' 0 (.int .i64 x.k)).set' 1 (.int .i64 x.a)).set' 2 (.int .i64 x.b)).set' 3 (.slice a3 lb' c3)).set' 4 (.slice a4 le' c4)
  simp only [List.setIfInBounds_toArray, List.set_cons_zero, List.set_cons_succ] at G
  clear o0 o1 o2 o3 o4 z0 z1 z2 z3 z4 r0 r1 r2 r3 r4
  obtain ⟨q0, q1, q2, q3, q4⟩ := blk5 G.out.res
  have hall : ∀ {s : Value} {t : TL n}, OwnT U3 (w.heap.size + 3) n s t → OwnT (((((U3.setCell ⟨w.heap.size + 1, 0, none⟩ (.int .i64 x.k)).setCell ⟨w.heap.size + 1, 1, none⟩ (.int .i64 x.a)).setCell ⟨w.heap.size + 1, 2, none⟩ (.int .i64 x.b)).setCell ⟨w.heap.size + 1, 3, none⟩ (.slice a3 lb' c3)).setCell ⟨w.heap.size + 1, 4, none⟩ (.slice a4 le' c4)) w.heap.size n s t := fun h => (((((h.below (by simp only []; omega) _).below (by simp only []; omega) _).below (by simp only []; omega) _).below (by simp only []; omega) _).below (by simp only []; omega) _).base (by omega)
  exact bodyPost_ret (v := .agg #[.int .i64 x.k, .int .i64 x.a, .int .i64 x.b, .slice a3 lb' c3, .slice a4 le' c4]) (by simp [results, Try.results12, go_sem, q0, q1, q2, q3, q4]) rfl ⟨_, _, rfl, hall F11.out.2.1, hall F11.out.2.2, G.out.bel⟩
end Go.Proofs.Ytjlnglgfehefdaa
