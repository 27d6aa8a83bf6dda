import Derived.Test.YtdfmdgbolmbffaaGreatLf41
import Derived.Test.YtdfmdgbolmbffaaGreatLf4
import Derived.Test.YtdfmdgbolmbffaaGreatLf11
namespace Go.Proofs.YtdfmdgbolmbffaaGreat
open Go.ChangeShapes Go.WideShapes Go.ChangeAt Go.RowKit
set_option linter.unusedVariables false
theorem inBl_take {bs : List MB} {l : List Int} {k b : Nat} {z : Int} {m : MB} (hz : l[k]? = some z) (hb : z = (b : Int)) (hm : bs[b]? = some m) (a : Int) : InBl bs (l.take (k + 1)) a ↔ InBl bs (l.take k) a ∨ (m.first ≤ a ∧ a ≤ m.last) := by
  have hlt := (List.getElem?_eq_some_iff.1 hz).1
  have e : l.take (k + 1) = l.take k ++ [z] := by
    rw [List.take_succ_eq_append_getElem hlt]
    congr 2
    exact (List.getElem?_eq_some_iff.1 hz).2
  rw [e]
  unfold InBl
  constructor
  · rintro ⟨y, hy, m', h1, h2⟩
    rcases List.mem_append.1 hy with hy | hy
    · exact .inl ⟨y, hy, m', h1, h2⟩
    · simp only [List.mem_cons, List.not_mem_nil, or_false] at hy
      subst hy
      rw [hb, Int.toNat_natCast, hm] at h1
      have em := Option.some.inj h1
      subst em
      exact .inr h2
  · rintro (⟨y, hy, m', h1, h2⟩ | h)
    · exact ⟨y, List.mem_append.2 (.inl hy), m', h1, h2⟩
    · exact ⟨z, by simp, m, by rw [hb, Int.toNat_natCast]; exact hm, h⟩
theorem inBl_nil {bs : List MB} (l : List Int) (a : Int) : ¬ InBl bs (l.take 0) a := by
  rintro ⟨y, hy, _⟩
  simp at hy
/-- What is known of a body's blocks, at the beginning. -/
structure BsAt (w : World) (v : BdV) (F : List (MB × Value)) (N : Nat) : Prop where
  len : F.length ≤ 1024
  top : N ≤ 1024
  rd : Rd w 3 (.slice v.b.a v.b.n v.b.c) F.length (F.flatMap bCells)
  blk : ∀ (i : Nat) (m : MB), (F.map Prod.fst)[i]? = some m → ∃ a e : Nat, m.first = (a : Int) ∧ m.last = (e : Int) ∧ a ≤ e ∧ e < N
theorem BsAt.keep {w u : World} {v : BdV} {F : List (MB × Value)} {N : Nat} (h : BsAt w v F N) (hb : Below w.heap.size w u) : BsAt u v F N := ⟨h.len, h.top, h.rd.keep hb (Nat.le_refl _), h.blk⟩
/-- A block among them. -/
theorem BsAt.at {w : World} {v : BdV} {F : List (MB × Value)} {N : Nat} (h : BsAt w v F N) {b : Nat} (hb : b < F.length) : ∃ (m : MB) (g o a e : Nat) (nx : Value), (F.map Prod.fst)[b]? = some m ∧ v.b.a = some ⟨g, o, none⟩ ∧ v.b.n = F.length ∧ w.cell? ⟨g, o + b * 3, none⟩ = some (.int .i64 (a : Int)) ∧ w.cell? ⟨g, o + b * 3 + 1, none⟩ = some (.int .i64 (e : Int)) ∧ w.cell? ⟨g, o + b * 3 + 2, none⟩ = some nx ∧ m.first = (a : Int) ∧ m.last = (e : Int) ∧ a ≤ e ∧ e < N ∧ F[b]? = some (m, nx) := by
  obtain ⟨x, hx⟩ : ∃ x, F[b]? = some x := ⟨_, List.getElem?_eq_getElem hb⟩
  have hm : (F.map Prod.fst)[b]? = some x.1 := by rw [List.getElem?_map, hx]; rfl
  obtain ⟨a, e, h1, h2, h3, h4⟩ := h.blk b x.1 hm
  rcases h.rd.2 with ⟨e0, _⟩ | ⟨g, o, cc, e1, hc1⟩
  · omega
  simp only [Value.slice.injEq] at e1
  have i0 := Rd.elem bCells_length hc1 b x hx 0 _ rfl
  have i1 := Rd.elem bCells_length hc1 b x hx 1 _ rfl
  have i2 := Rd.elem bCells_length hc1 b x hx 2 _ rfl
  rw [Nat.add_zero, h1] at i0
  rw [h2] at i1
  exact ⟨x.1, g, o, a, e, x.2, hm, e1.1, e1.2.1, i0, i1, i2, h1, h2, h3, h4, hx⟩
set_option maxHeartbeats 8000000 in
set_option maxRecDepth 100000 in
theorem instructionsOf_any (v : BdV) (hd : Int) (x y : SlV) (F : List (MB × Value)) (N : Nat) (bl : List Int) (w : World) (hF : BsAt w v F N) (hy : Rd w 1 (.slice y.a y.n y.c) bl.length (bl.flatMap intCell)) (hbl : bl.length ≤ 1024) (hz : ∀ z ∈ bl, ∃ b : Nat, z = (b : Int) ∧ b < F.length) :
    Calls Tryz.prog 94 #[.agg v.cells, .agg #[.int .i64 hd, .slice x.a x.n x.c, .slice y.a y.n y.c]] w fun e w' => ∃ (a : Option Addr) (c : Nat) (ps : List Int), e = .returned (.slice a ps.length c) ∧ Rd w' 1 (.slice a ps.length c) ps.length (ps.flatMap intCell) ∧ (∀ z, z ∈ ps ↔ InBl (F.map Prod.fst) bl z) ∧ ps.length ≤ 1048576 ∧ Below w.heap.size w w' := by
  obtain ⟨k0, hk, hx0, hx1, hx2⟩ := info_parts info64
  have H : Hid (BsAt w v F N ∧ Rd w 1 (.slice y.a y.n y.c) bl.length (bl.flatMap intCell) ∧ ∀ z ∈ bl, ∃ b : Nat, z = (b : Int) ∧ b < F.length) := ⟨hF, hy, hz⟩
  obtain ⟨ya, yc, ey⟩ := hy.is_slice
  simp only [Value.slice.injEq] at ey
  have hyn : y.n = bl.length := ey.2.1
  clear hF hy hz ey ya yc
  obtain ⟨ya, yn, yc⟩ := y
  simp only [] at hyn H ⊢
  subst hyn
  have E0 := two_new w v.cells #[.int .i64 hd, .slice x.a x.n x.c, .slice ya bl.length yc] 106 53
  go_enter Tryz.func94, Tryz.ntmps94
  go_upto_region 2 with fail
  refine wp_world (fun u => Hid (Blk u w.heap.size v.cells 106 ∧ Blk u (w.heap.size + 1) #[.int .i64 hd, .slice x.a x.n x.c, .slice ya bl.length yc] 53 ∧ Below w.heap.size w u)) E0 ?_
  rintro U HE
  clear E0
  obtain ⟨l0, l1, l2⟩ := blk3 HE.out.2.1
  go_wp2_with fail
  clear l0 l1 l2
  go_loopw [5, 12] (fun s i wr => ∃ (k : Nat) (ps : List Int), k ≤ bl.length ∧ i = .int .i64 k ∧ Hid (wr.ownsRow U.heap.size 2 1 s ps.length (ps.flatMap intCell) ∧ (∀ z, z ∈ ps ↔ InBl (F.map Prod.fst) (bl.take k) z) ∧ ps.length ≤ k * 1024 ∧ Below U.heap.size U wr)) (fun _ i _ => bl.length - (intOf i).toNat)
  case atStart => exact ⟨0, [], by omega, rfl, World.ownsRow_nil _ _ _ _, fun z => ⟨fun e => (by cases e), fun e => absurd e (inBl_nil _ _)⟩, by simp, Below.refl _ _⟩
  case round =>
  obtain ⟨k, ps, hk1, rfl, HS⟩ := hrel
  by_cases hlt : k < bl.length
  case pos =>
    obtain ⟨z, hz⟩ : ∃ z, bl[k]? = some z := ⟨_, List.getElem?_eq_getElem hlt⟩
    obtain ⟨b, ez, hb⟩ := H.out.2.2 z (List.mem_of_getElem? hz)
    obtain ⟨m, g, o, ma, me, nx, hm, eg, en, i0, i1, i2, e1, e2, hme, hme2, _⟩ := H.out.1.at hb
    rcases H.out.2.1.2 with ⟨q0, _⟩ | ⟨gd, od, cd, q1, hcd⟩
    · omega
    simp only [Value.slice.injEq, true_and] at q1
    obtain ⟨rfl, rfl⟩ := q1
    have z0 := Rd.elem intCell_length hcd k z hz 0 _ rfl
    rw [Nat.mul_one, Nat.add_zero, ez] at z0
    have HZ : Hid (bl[k]? = some z ∧ z = (b : Int) ∧ (F.map Prod.fst)[b]? = some m ∧ m.first = (ma : Int) ∧ m.last = (me : Int)) := ⟨hz, ez, hm, e1, e2⟩
    clear hz ez hm e1 e2 hcd
    have HBel : Hid (Below w.heap.size w wr) := below_on HE.out.2.2 (Nat.le_refl _) HS.out.2.2.2
    have HEr : Hid (Blk wr w.heap.size v.cells 106 ∧ w.cell? ⟨g, o + b * 3 + 1, none⟩ = some (.int .i64 (me : Int))) := ⟨HE.out.1.keep HS.out.2.2.2, i1⟩
    rw [← HBel.out.cell (block_lt_of_cell z0)] at z0
    rw [← HBel.out.cell (block_lt_of_cell i0)] at i0
    have p11 := HEr.out.1.cell 11
    simp only [BdV.cells] at p11
    simp only [eg, en] at p11
    have hlen : F.length ≤ 1024 := H.out.1.len
    have htop : N ≤ 1024 := H.out.1.top
    have hbI : (b : Int) < (F.length : Int) := by omega
    go_wp2_with fail
    clear i0 p11 z0
    go_loopw [5, 8] (fun s i wr => ∃ (d : Nat) (qs : List Int), ma ≤ d ∧ d ≤ me + 1 ∧ i = .int .i64 d ∧ Hid (wr.ownsRow U.heap.size 2 1 s qs.length (qs.flatMap intCell) ∧ (∀ z, z ∈ qs ↔ InBl (F.map Prod.fst) (bl.take k) z ∨ ((ma : Int) ≤ z ∧ z < (d : Int))) ∧ qs.length ≤ k * 1024 + (d - ma) ∧ Below U.heap.size U wr)) (fun _ i _ => me + 1 - (intOf i).toNat)
    case atStart => exact ⟨ma, ps, by omega, by omega, rfl, HS.out.1, fun z => ⟨fun e => .inl ((HS.out.2.1 z).1 e), fun e => (HS.out.2.1 z).2 (e.elim id fun e => absurd e.2 (by omega))⟩, by have := HS.out.2.2.1; omega, HS.out.2.2.2⟩
    case round =>
    clear HS HBel
    obtain ⟨d, qs, hd1, hd2, rfl, HQ⟩ := hrel
    have HBel : Hid (Below w.heap.size w wr) := below_on HE.out.2.2 (Nat.le_refl _) HQ.out.2.2.2
    have i1 := HEr.out.2
    rw [← HBel.out.cell (block_lt_of_cell i1)] at i1
    have p11 := (HE.out.1.keep HQ.out.2.2.2).cell 11
    simp only [BdV.cells] at p11
    simp only [eg, en] at p11
    by_cases hle : d ≤ me
    case pos =>
      have hleI : (d : Int) ≤ (me : Int) := by omega
      obtain ⟨sa, sc, es⟩ := own_slice HQ.out.1
      subst es
      have hql : qs.length ≤ k * 1024 + (d - ma) := HQ.out.2.2.1
      go_wp2_with (at_builtin; refine wpList_append_own _ rfl _ _ 48 rfl U.heap.size 2 k0 (.int .i64 0) 1 8 Tryz.underlying48 hk hx0 hx1 hx2 rfl (by decide) _ qs.length (qs.flatMap intCell) rfl (HQ.out.1.alloc _) ⟨wr.heap.size, 0, none⟩ 1 1 [.int .i64 (d : Int)] rfl rfl (Go.cell_one_new _ _ _) (fun u hu => by simp at hu; subst hu; rfl) (by unfold maxLen; omega) (by omega) (by have := HQ.out.2.2.2.size; simp; omega) ?_; intro v' w3 hown3 hgrow3 hnil3)
      have HQ3 : Hid (w3.ownsRow U.heap.size 2 1 v' (qs ++ [(d : Int)]).length ((qs ++ [(d : Int)]).flatMap intCell) ∧ Below U.heap.size U w3) := by
        have o1 := HQ.out.1
        refine ⟨?_, (HQ.out.2.2.2.alloc HQ.out.2.2.2.size _).grown hgrow3 (by have := HQ.out.2.2.2.size; simp; omega) (fun i hi => (o1.lt i hi).1)⟩
        rw [List.flatMap_append, List.length_append]
        exact hown3
      clear hown3 hgrow3 hnil3
      have HM : Hid (∀ z, z ∈ qs ++ [(d : Int)] ↔ InBl (F.map Prod.fst) (bl.take k) z ∨ ((ma : Int) ≤ z ∧ z < ((d + 1 : Nat) : Int))) := fun z => by
        rw [List.mem_append, HQ.out.2.1 z]
        simp only [List.mem_cons, List.not_mem_nil, or_false]
        constructor
        · rintro ((h | h) | h)
          · exact .inl h
          · exact .inr (by omega)
          · exact .inr (by omega)
        · rintro (h | h)
          · exact .inl (.inl h)
          · by_cases e : z = (d : Int)
            · exact .inr e
            · exact .inl (.inr (by omega))
      clear i1 p11
      go_wp2
      go_roundw
      case rel => exact ⟨d + 1, qs ++ [(d : Int)], by omega, by omega, by go_num, HQ3.out.1, HM.out, by rw [List.length_append, List.length_singleton]; omega, HQ3.out.2⟩
      case measure => simp [intOf]; omega
    have hdn : d = me + 1 := by omega
    have hleI : ¬ (d : Int) ≤ (me : Int) := by omega
    have HM : Hid ((∀ z, z ∈ qs ↔ InBl (F.map Prod.fst) (bl.take (k + 1)) z) ∧ qs.length ≤ (k + 1) * 1024) := ⟨fun z => by
      rw [HQ.out.2.1 z, inBl_take HZ.out.1 HZ.out.2.1 HZ.out.2.2.1, HZ.out.2.2.2.1, HZ.out.2.2.2.2]
      constructor
      · rintro (h | h)
        · exact .inl h
        · exact .inr (by omega)
      · rintro (h | h)
        · exact .inl h
        · exact .inr (by omega), by have := HQ.out.2.2.1; omega⟩
    go_wp2
    go_roundw
    case rel => exact ⟨k + 1, qs, by omega, by go_num, HQ.out.1, HM.out.1, HM.out.2, HQ.out.2.2.2⟩
    case measure => simp [intOf]; omega
  have hkn : k = bl.length := by omega
  subst hkn
  obtain ⟨sa, sc, es⟩ := own_slice HS.out.1
  subst es
  have HR : Hid ((∀ z, z ∈ ps ↔ InBl (F.map Prod.fst) bl z) ∧ ps.length ≤ 1048576) := ⟨fun z => by have := HS.out.2.1 z; rw [List.take_length] at this; exact this, by have := HS.out.2.2.1; omega⟩
  go_wp2
  go_ret
  exact ⟨sa, sc, ps, rfl, Rd.of_own HS.out.1, HR.out.1, HR.out.2, below_on HE.out.2.2 (Nat.le_refl _) HS.out.2.2.2⟩
end Go.Proofs.YtdfmdgbolmbffaaGreat
