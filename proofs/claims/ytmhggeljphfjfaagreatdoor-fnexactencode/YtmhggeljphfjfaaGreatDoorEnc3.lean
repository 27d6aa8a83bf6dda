/- Enc3: spec.Encode. -/
import Derived.Test.YtmhggeljphfjfaaGreatDoorEnc2
import Derived.Test.YtmhggeljphfjfaaGreatDoorSFault9
import Derived.Test.YtmhggeljphfjfaaGreatDoorCrc
import Derived.Lib.SlBytesConst
import Derived.ArgAppend
namespace Go.Proofs.YtmhggeljphfjfaaGreatDoor
open Go.ChangeShapes Go.WideShapes Go.ChangeAt Go.RowKit
set_option linter.unusedVariables false
theorem magic_cells (u : World) (fr : Nat × Nat) : ∀ j u', magicL[j]? = some u' → (u.alloc (.cells #[.int .u8 80, .int .u8 76, .int .u8 67, .int .u8 49] 5 fr)).cell? ((⟨u.heap.size, 0, none⟩ : Addr).add j) = some u' := by
  intro j u' hj
  have e : (u.alloc (.cells #[.int .u8 80, .int .u8 76, .int .u8 67, .int .u8 49] 5 fr)).heap[u.heap.size]? = some (.cells #[.int .u8 80, .int .u8 76, .int .u8 67, .int .u8 49] 5 fr) := Array.getElem?_push_size
  rw [Addr.add_lit]
  simp only [World.cell?, e]
  unfold magicL at hj
  simpa using hj
set_option maxRecDepth 100000 in
theorem regions_length (rs : List (List Int)) (h : RegionsOk rs) (k : Nat) : ((rs.take k).flatMap encRegion).length ≤ k * 258 := by
  induction k with
  | zero => simp
  | succ k ih =>
    by_cases hk : k < rs.length
    · rw [List.take_succ_eq_append_getElem hk, List.flatMap_append, List.length_append]
      have := (h.2 k hk _ (List.getElem?_eq_getElem hk)).1
      have e : ([rs[k]].flatMap encRegion).length = 2 + rs[k].length := by simp [encRegion_length]
      rw [e]
      omega
    · have e : rs.take (k + 1) = rs.take k := by rw [List.take_of_length_le (by omega), List.take_of_length_le (by omega)]
      rw [e]
      omega
theorem row_cell {α : Type} {f : α → List Value} {w : World} {base : Nat} {e : TypeId} {s : Value} {n : Nat} {xs : List α} (hf : ∀ y, (f y).length = 1) (h : w.ownsRow base e 1 s n (xs.flatMap f)) {k : Nat} {x : α} (hx : xs[k]? = some x) {g o m c : Nat} (hs : s = .slice (some ⟨g, o, none⟩) m c) {u : Value} (hu : (f x)[0]? = some u) : w.cell? ⟨g, o + k, none⟩ = some u := by
  subst hs
  rcases (Rd.of_own h).2 with ⟨rfl, _⟩ | ⟨g', o', c', e', hc⟩
  · have h1 := (List.getElem?_eq_some_iff.1 hx).1
    have h2 := h.1
    rw [flat_length f 1 hf] at h2
    omega
  · simp only [Value.slice.injEq, Option.some.injEq, Addr.mk.injEq] at e'
    obtain ⟨⟨rfl, rfl, _⟩, _, _⟩ := e'
    have := Rd.elem hf hc k x hx 0 u hu
    rw [Nat.mul_one, Nat.add_zero] at this
    exact this
theorem take_next {α : Type} (f : α → List Value) {xs : List α} {k : Nat} {x : α} (h : xs[k]? = some x) : (xs.take (k + 1)).flatMap f = (xs.take k).flatMap f ++ f x := by
  obtain ⟨hlt, rfl⟩ := List.getElem?_eq_some_iff.1 h
  rw [List.take_succ_eq_append_getElem hlt, List.flatMap_append]
  simp
theorem all_regions (rs : List (List Int)) (h : RegionsOk rs) : (rs.flatMap encRegion).length ≤ 774 := by
  have := regions_length rs h 3
  rw [List.take_of_length_le (by rw [h.1]; omega)] at this
  omega
theorem row_at {α : Type} {f : α → List Value} {w : World} {base sz : Nat} {e : TypeId} {s : Value} {n : Nat} {xs : List α} (hf : ∀ y, (f y).length = sz) (hz : 0 < sz) (h : w.ownsRow base e sz s n (xs.flatMap f)) {k : Nat} {x : α} (hx : xs[k]? = some x) {g o m c : Nat} (hs : s = .slice (some ⟨g, o, none⟩) m c) (j : Nat) {u : Value} (hu : (f x)[j]? = some u) : w.cell? ⟨g, o + k * sz + j, none⟩ = some u := by
  subst hs
  rcases (Rd.of_own h).2 with ⟨rfl, _⟩ | ⟨g', o', c', e', hc⟩
  · have h1 := (List.getElem?_eq_some_iff.1 hx).1
    have h2 := h.1
    rw [flat_length f sz hf, Nat.zero_mul] at h2
    rcases Nat.mul_eq_zero.1 h2 with h3 | h3
    · omega
    · omega
  · simp only [Value.slice.injEq, Option.some.injEq, Addr.mk.injEq] at e'
    obtain ⟨⟨rfl, rfl, _⟩, _, _⟩ := e'
    exact Rd.elem hf hc k x hx j u hu
theorem W32_in {z : Int} (h : W32 z) : 0 ≤ z ∧ z ≤ 4294967295 := by simpa [W32, Lit.wf, IntKind.min, IntKind.max, IntKind.signed, IntKind.bits] using h
set_option maxRecDepth 100000 in
theorem funcs_length (fs : List MF) (h : FuncsOk fs) (k : Nat) : ((fs.take k).flatMap encFunc).length ≤ k * 8300 := by
  induction k with
  | zero => simp
  | succ k ih =>
    by_cases hk : k < fs.length
    · rw [List.take_succ_eq_append_getElem hk, List.flatMap_append, List.length_append]
      have h1 := h.2.2.1 k hk _ (List.getElem?_eq_getElem hk)
      have h2 := h1.loc
      have h3 := h1.code1
      have e : ([fs[k]].flatMap encFunc).length = 5 + fs[k].params.length + fs[k].locals.length + fs[k].code.length * 8 := by simp [encFunc_length]
      rw [e]
      omega
    · have e : fs.take (k + 1) = fs.take k := by rw [List.take_of_length_le (by omega), List.take_of_length_le (by omega)]
      rw [e]
      omega
def intOfV : Value → Int
  | .int _ z => z
  | _ => 0
def bytesOf (bs : List Value) : List Int := bs.map intOfV
def AllBytes (bs : List Value) : Prop := ∀ u ∈ bs, ∃ z : Int, u = .int .u8 z ∧ 0 ≤ z ∧ z ≤ 255
theorem bytesOf_all {bs : List Value} (h : AllBytes bs) : (bytesOf bs).map (Value.int .u8) = bs ∧ ∀ j, 0 ≤ (bytesOf bs).getD j 0 ∧ (bytesOf bs).getD j 0 ≤ 255 := by
  constructor
  · unfold bytesOf
    rw [List.map_map]
    conv => rhs; rw [← List.map_id bs]
    apply List.map_congr_left
    intro u hu
    obtain ⟨z, rfl, _⟩ := h u hu
    rfl
  · intro j
    rw [List.getD_eq_getElem?_getD]
    unfold bytesOf
    rw [List.getElem?_map]
    by_cases hj : j < bs.length
    · obtain ⟨z, e, h0, h1⟩ := h _ (List.getElem_mem hj)
      rw [List.getElem?_eq_getElem hj, e]
      exact ⟨h0, h1⟩
    · rw [List.getElem?_eq_none (by omega)]
      simp
theorem AllBytes.append {a b : List Value} (ha : AllBytes a) (hb : AllBytes b) : AllBytes (a ++ b) := fun u hu => (List.mem_append.1 hu).elim (ha u) (hb u)
theorem AllBytes.flat {α : Type} {f : α → List Value} (hf : ∀ y, AllBytes (f y)) (ys : List α) : AllBytes (ys.flatMap f) := fun u hu => by
  obtain ⟨y, _, hy⟩ := List.mem_flatMap.1 hu
  exact hf y u hy
theorem numL_bytes (v : Int) (n : Nat) : AllBytes (numL v n) := fun u hu => by
  unfold numL at hu
  obtain ⟨i, _, rfl⟩ := List.mem_map.1 hu
  exact ⟨_, rfl, Int.emod_nonneg _ (by decide), by have := Int.emod_lt_of_pos (v / 2 ^ (8 * i)) (show (0 : Int) < 256 by decide); omega⟩
theorem numsL_bytes (n : Nat) (ys : List Int) : AllBytes (numsL n ys) := AllBytes.flat (fun y => numL_bytes y n) ys
theorem magicL_bytes : AllBytes magicL := fun u hu => by
  simp [magicL] at hu
  rcases hu with rfl | rfl | rfl | rfl <;> exact ⟨_, rfl, by omega, by omega⟩
theorem encBody_bytes (p : MP) : AllBytes (encBody p) := by
  unfold encBody
  refine .append (.append (.append (.append (.append (.append (.append (.append magicL_bytes (numL_bytes _ _)) (.flat (fun r => ?_) _)) (numL_bytes _ _)) (.flat (fun c => ?_) _)) (numL_bytes _ _)) (.flat (fun f => ?_) _)) (numL_bytes _ _)) (.flat (fun c => ?_) _)
  · exact .append (numL_bytes _ _) (numsL_bytes _ _)
  · exact .append (numL_bytes _ _) (numL_bytes _ _)
  · exact .append (.append (.append (.append (.append (numL_bytes _ _) (numsL_bytes _ _)) (numsL_bytes _ _)) (numsL_bytes _ _)) (numL_bytes _ _)) (.flat (fun x => .append (.append (numsL_bytes _ _) (numL_bytes _ _)) (numL_bytes _ _)) _)
  · exact .append (.append (numsL_bytes _ _) (numL_bytes _ _)) (numL_bytes _ _)
theorem own_some {w : World} {base n : Nat} {e : TypeId} {r : Value} {xs : List Value} (h : w.ownsRow base e 1 r n xs) (hn : 1 ≤ n) : ∃ ad c, r = .slice (some ad) n c := by
  rcases h.2 with ⟨_, e⟩ | ⟨g2, cap, cur, e, _⟩
  · omega
  · exact ⟨_, _, e⟩
/-- A program's bytes, the sum behind them. -/
def encode (p : MP) : List Value := encBody p ++ numL (toI (~~~(crcTo (bytesOf (encBody p)) (encBody p).length))) 4
def EncIs (p : MP) (bs : List Value) : Prop := (FaultIs p 0 ∧ bs = encode p) ∨ (¬ FaultIs p 0 ∧ bs = [])
set_option maxHeartbeats 8000000 in
set_option maxRecDepth 100000 in
theorem specEncode_any (v : VP) (p : MP) (base : Nat) (w : World) (hs : p.small) (hw : p.wf) (h : OwnP w base v p) (hb : base ≤ w.heap.size) :
    Calls Tryz.prog 6 #[.agg #[v.r, v.k, v.f, v.t]] w fun e w' => ∃ r, e = .returned r ∧ Below w.heap.size w w' ∧ ∃ bs, EncIs p bs ∧ w'.ownsRow w.heap.size 5 1 r bs.length bs := by
  obtain ⟨i0, hi, hz0, hz1, hz2⟩ := info_parts infoB
  have H : Hid (p.small ∧ p.wf ∧ OwnP w base v p) := ⟨hs, hw, h⟩
  clear hs hw h
  have A0 : Blk (w.alloc (.cells #[v.r, v.k, v.f, v.t] 35)) w.heap.size #[v.r, v.k, v.f, v.t] 35 := Blk.new _ _ _
  have B0 := below_alloc w (.cells #[v.r, v.k, v.f, v.t] 35)
  go_enter Tryz.func6, Tryz.ntmps6
  go_wp2_with fail
  refine (specFault_any v p _ H.out.1 H.out.2.1 (H.out.2.2.rd.keep B0 (Nat.le_refl _))).mono ?_
  rintro e u1 ⟨⟨n, rfl, hn⟩, bl1⟩
  have HA : Hid (Blk u1 w.heap.size #[v.r, v.k, v.f, v.t] 35 ∧ OwnP u1 base v p ∧ Below w.heap.size w u1) := ⟨A0.keep bl1, H.out.2.2.keep (below_on B0 (Nat.le_refl _) bl1) (Nat.le_refl _), below_on B0 (Nat.le_refl _) bl1⟩
  clear A0 B0 bl1
  by_cases q0 : n = 0
  · subst q0
    have hcv := Lib.run_convert_bytes_const (P := Tryz.prog) u1 29 5 #[.int .u8 80, .int .u8 76, .int .u8 67, .int .u8 49] 4 4 Tryz.underlying29 Tryz.underlying5
    have bM := below_alloc u1 (.cells #[.int .u8 80, .int .u8 76, .int .u8 67, .int .u8 49] 5 (4, 5))
    have E1 : Hid (Blk (u1.alloc (.cells #[.int .u8 80, .int .u8 76, .int .u8 67, .int .u8 49] 5 (4, 5))) w.heap.size #[v.r, v.k, v.f, v.t] 35 ∧ OwnP (u1.alloc (.cells #[.int .u8 80, .int .u8 76, .int .u8 67, .int .u8 49] 5 (4, 5))) base v p ∧ Below w.heap.size w (u1.alloc (.cells #[.int .u8 80, .int .u8 76, .int .u8 67, .int .u8 49] 5 (4, 5))) ∧ ∀ j u', magicL[j]? = some u' → (u1.alloc (.cells #[.int .u8 80, .int .u8 76, .int .u8 67, .int .u8 49] 5 (4, 5))).cell? ((⟨u1.heap.size, 0, none⟩ : Addr).add j) = some u') := ⟨HA.out.1.keep bM, HA.out.2.1.keep bM (Nat.le_refl _), below_on HA.out.2.2 (Nat.le_refl _) bM, magic_cells u1 (4, 5)⟩
    clear HA bM
    go_wp2_with fail
    clear hcv
    generalize u1.alloc (.cells #[.int .u8 80, .int .u8 76, .int .u8 67, .int .u8 49] 5 (4, 5)) = W1 at E1 ⊢
    have hlt1 : u1.heap.size < W1.heap.size := block_lt_of_cell (E1.out.2.2.2 0 _ rfl)
    generalize hm0 : u1.heap.size = mb at E1 hlt1 ⊢
    refine (SPutNumber_in 1 2 W1 (by omega) (by omega)).mono ?_
    rintro e u2 ⟨r2, rfl, own2, bl2⟩
    have E2 : Hid (Blk u2 w.heap.size #[v.r, v.k, v.f, v.t] 35 ∧ OwnP u2 base v p ∧ Below w.heap.size w u2 ∧ ∀ j u', magicL[j]? = some u' → u2.cell? ((⟨mb, 0, none⟩ : Addr).add j) = some u') := ⟨E1.out.1.keep bl2, E1.out.2.1.keep bl2 (Nat.le_refl _), below_on E1.out.2.2.1 (Nat.le_refl _) bl2, fun j u' hj => by
      have h := E1.out.2.2.2 j u' hj
      rw [bl2.cell (block_lt_of_cell h)]
      exact h⟩
    obtain ⟨ad, cr, er⟩ : ∃ ad c, r2 = .slice (some ad) 2 c := own_some own2 (by omega)
    subst er
    have HC : Hid (∀ j u', (numL 1 2)[j]? = some u' → u2.cell? (ad.add j) = some u') := own_cells own2
    clear own2 bl2 E1
    go_wp2_with (at_builtin; refine wpList_append_grows _ rfl _ _ 29 rfl 5 i0 (.int .u8 0) 1 1 Tryz.underlying29 hi hz0 hz1 hz2 rfl (by decide) (some ⟨mb, 0, none⟩) 4 4 magicL rfl ?c0 rfl ?c1 ad 2 cr (numL 1 2) rfl rfl ?c2 ?c3 ?c4 ?c5 ?c6 ?_)
    case c0 => intro h; cases h
    case c1 =>
      intro b hb' j u' hj
      obtain rfl := Option.some.inj hb'
      exact E2.out.2.2.2 j u' hj
    case c2 => exact HC.out
    case c3 => exact numL_oneCell _ _
    case c4 => omega
    case c5 => unfold maxLen; omega
    case c6 => omega
    intro V2 u3 hown' hgrow'
    have bG : Below u2.heap.size u2 u3 := ⟨hgrow'.os, hgrow'.tape, hgrow'.output, hgrow'.size, fun k hk => hgrow'.block k hk (by simp)⟩
    have E3 : Hid (EncAt w v p base u3 V2 (magicL ++ numL 1 2)) := ⟨own_base hown' E2.out.2.2.1.size, E2.out.1.keep bG, E2.out.2.1.keep bG (Nat.le_refl _), below_on E2.out.2.2.1 (Nat.le_refl _) bG⟩
    clear hown' hgrow' E2 HC bG hlt1
    have hn0 := hn
    have HV : Hid (RegionsOk p.regions ∧ ConstsOk p.consts ∧ FuncsOk p.funcs ∧ CodeOk p ∧ CertsOk p) := by
      rcases hn with ⟨e, _⟩ | ⟨e, _⟩ | ⟨e, _⟩ | ⟨e, _⟩ | ⟨e, _⟩ | ⟨_, h⟩
      · omega
      · omega
      · omega
      · omega
      · omega
      · exact h
    have HF0 : Hid (FaultIs p 0) := hn0
    clear hn hn0 hm0
    go_wp2
    go_loopw [3, 4] (fun V i wr => ∃ k : Nat, k ≤ 3 ∧ i = .int .i64 k ∧ Hid (EncAt w v p base wr V (magicL ++ numL 1 2 ++ (p.regions.take k).flatMap encRegion))) (fun _ i _ => 3 - (intOf i).toNat)
    case atStart => exact ⟨0, by omega, rfl, by show EncAt _ _ _ _ _ _ _; simpa using E3.out⟩
    case round =>
      clear E3
      obtain ⟨k, hk, rfl, S0⟩ := hrel
      obtain ⟨p0, p1, p2, p3⟩ := S0.out.arg.at4
      by_cases hlt : k < 3
      · obtain ⟨xs, hxs, hrd, hel⟩ := S0.out.prog.regions
        obtain ⟨⟨r, y⟩, hx⟩ : ∃ x, xs[k]? = some x := ⟨_, List.getElem?_eq_getElem (by have := HV.out.1.1; rw [← hxs] at this; simp at this; omega)⟩
        have e1 := fst_at hxs hx
        have hy := hel _ (List.mem_of_getElem? hx)
        simp only [] at e1 hy
        have hrk := HV.out.1.2 k (by rw [HV.out.1.1]; exact hlt) r e1
        have hrl := hrk.1
        have hR := Rd.of_own hrd
        rw [HV.out.1.1] at hR
        rcases hR.2 with ⟨e0, _⟩ | ⟨g, o, c, e2, hc1⟩
        · omega
        have j0 := Rd.elem rCells_length hc1 k _ hx 0 _ rfl
        rw [Nat.mul_one, Nat.add_zero] at j0
        simp only [] at j0
        rw [e2] at p0
        have HE2 : Hid (v.r = .slice (some ⟨g, o, none⟩) 3 c) := e2
        clear e2
        obtain ⟨ay, cy, ey⟩ := (Rd.of_own hy).is_slice
        rw [ey] at j0
        have HX : Hid (p.regions[k]? = some r ∧ xs[k]? = some (r, .slice ay r.length cy)) := ⟨e1, by rw [← ey]; exact hx⟩
        have hlen : (magicL ++ numL 1 2 ++ (p.regions.take k).flatMap encRegion).length ≤ 6 + k * 258 := by
          rw [List.length_append, List.length_append, numL_length]
          have := regions_length p.regions HV.out.1 k
          show 4 + 2 + _ ≤ _
          omega
        generalize hCS : magicL ++ numL 1 2 ++ (p.regions.take k).flatMap encRegion = cs at S0 hlen
        have HCS : Hid (magicL ++ numL 1 2 ++ (p.regions.take k).flatMap encRegion = cs) := hCS
        clear hCS hR hc1 hx hel hxs e1 hrk
        have S0' : Hid (EncAt w v p base wr u3 cs) := S0
        clear S0
        have RR0 : Hid (wr.ownsRow base 55 1 v.r p.regions.length (xs.flatMap rCells)) := hrd
        have RY0 : Hid (wr.ownsRow base 2 1 (.slice ay r.length cy) r.length (r.flatMap intCell)) := by rw [← ey]; exact hy
        clear hy ey hrd
        go_wp2_with fail
        clear p0 p1 p2 p3 j0
        refine (SPutNumber_in ((r.length : Int)) 2 _ (by omega) (by omega)).mono ?_
        rintro e ua ⟨ra, rfl, owna, bla⟩
        have Ea : Hid (EncAt w v p base ua u3 cs) := S0'.out.call bla
        have RRca : Hid (ua.ownsRow base 55 1 v.r p.regions.length (xs.flatMap rCells)) := own_keep RR0.out bla (Nat.le_refl _)
        have RYca : Hid (ua.ownsRow base 2 1 (.slice ay r.length cy) r.length (r.flatMap intCell)) := own_keep RY0.out bla (Nat.le_refl _)
        obtain ⟨ada, cra, era⟩ : ∃ ad c, ra = .slice (some ad) 2 c := own_some owna (by omega)
        subst era
        have HCa : Hid (∀ j u', (numL ((r.length : Int)) 2)[j]? = some u' → ua.cell? (ada.add j) = some u') := own_cells owna
        clear owna bla S0'
        go_wp2_with (at_builtin; refine wpList_append_own _ rfl _ _ 29 rfl w.heap.size 5 i0 (.int .u8 0) 1 1 Tryz.underlying29 hi hz0 hz1 hz2 rfl (by decide) _ _ _ rfl Ea.out.own ada 2 cra (numL ((r.length : Int)) 2) rfl ?c1 ?c2 ?c3 ?c4 ?c5 ?c6 ?_)
        case c1 => rw [numL_length]
        case c2 => exact HCa.out
        case c3 => exact numL_oneCell _ _
        case c4 => unfold maxLen; omega
        case c5 => omega
        case c6 => exact Ea.out.bel.size
        intro Va wa hown' hgrow' hnil'
        have Sa : Hid (EncAt w v p base wa Va (cs ++ numL ((r.length : Int)) 2)) := Ea.out.more (by rw [List.length_append, numL_length]; exact hown') hgrow'
        have RRa : Hid (wa.ownsRow base 55 1 v.r p.regions.length (xs.flatMap rCells)) := own_grown RRca.out hgrow' Ea.out.own (by decide)
        have RYa : Hid (wa.ownsRow base 2 1 (.slice ay r.length cy) r.length (r.flatMap intCell)) := own_grown RYca.out hgrow' Ea.out.own (by decide)
        clear RR0 RRca RY0 RYca
        clear hown' hgrow' hnil' Ea HCa
        have hla : (cs ++ numL ((r.length : Int)) 2).length ≤ cs.length + 2 := by rw [List.length_append, numL_length]; exact Nat.le_refl _
        generalize hCa : cs ++ numL ((r.length : Int)) 2 = csa at Sa hla
        have HCCa : Hid (cs ++ numL ((r.length : Int)) 2 = csa) := hCa
        clear hCa
        obtain ⟨p0, p1, p2, p3⟩ := Sa.out.arg.at4
        rw [HE2.out] at p0
        have j0 := row_cell rCells_length RRa.out HX.out.2 HE2.out (u := .slice ay r.length cy) rfl
        go_wp2_with fail
        clear p0 p1 p2 p3 j0
        refine (l3Put_any w.heap.size Va csa 1 (.slice ay r.length cy) (r) (base) _ Sa.out.bel.size (by omega) (by omega) (by omega) (by omega) Sa.out.own RYa.out).mono ?_
        rintro e wb ⟨Vb, rfl, bwb⟩
        have Sb : Hid (EncAt w v p base wb Vb (csa ++ numsL 1 (r))) := Sa.out.put bwb
        clear bwb Sa
        have hlb : (csa ++ numsL 1 (r)).length ≤ csa.length + (r).length * 1 := by rw [List.length_append, numsL_length]; exact Nat.le_refl _
        generalize hCb : csa ++ numsL 1 (r) = csb at Sb hlb
        have HCCb : Hid (csa ++ numsL 1 (r) = csb) := hCb
        clear hCb
        have HF : Hid (EncAt w v p base wb Vb (magicL ++ numL 1 2 ++ (p.regions.take (k + 1)).flatMap encRegion)) := by
          show EncAt _ _ _ _ _ _ _
          rw [take_next encRegion HX.out.1, ← List.append_assoc, HCS.out, encRegion, ← List.append_assoc, HCCa.out, HCCb.out]
          exact Sb.out
        clear Sb
        go_wp2
        go_roundw
        case rel => exact ⟨k + 1, by omega, by go_num, HF⟩
        case measure => simp [intOf]; omega
      · have hkn : 3 = k := by omega
        subst hkn
        have E5 : Hid (EncAt w v p base wr u3 (magicL ++ numL 1 2 ++ p.regions.flatMap encRegion)) := by
          show EncAt _ _ _ _ _ _ _
          have := S0.out
          rw [List.take_of_length_le (by rw [HV.out.1.1]; omega)] at this
          exact this
        have hlen := all_regions p.regions HV.out.1
        have hl5 : (magicL ++ numL 1 2 ++ p.regions.flatMap encRegion).length ≤ 780 := by
          rw [List.length_append, List.length_append, numL_length]
          show 4 + 2 + _ ≤ _
          omega
        generalize hC5 : magicL ++ numL 1 2 ++ p.regions.flatMap encRegion = cs5 at E5 hl5
        have HC5 : Hid (magicL ++ numL 1 2 ++ p.regions.flatMap encRegion = cs5) := hC5
        clear hC5 S0 hlen
        obtain ⟨a2, c2, ek⟩ := (Rd.of_own E5.out.prog.consts).is_slice
        rw [ek] at p1
        have HEK : Hid (v.k = .slice a2 p.consts.length c2) := ek
        clear ek
        have hcl := HV.out.2.1.1
        go_wp2_with fail
        clear p0 p1 p2 p3
        refine (SPutNumber_in ((p.consts.length : Int)) 2 _ (by omega) (by omega)).mono ?_
        rintro e uc ⟨rc, rfl, ownc, blc⟩
        have Ec : Hid (EncAt w v p base uc u3 cs5) := E5.out.call blc
        obtain ⟨adc, crc, erc⟩ : ∃ ad c, rc = .slice (some ad) 2 c := own_some ownc (by omega)
        subst erc
        have HCc : Hid (∀ j u', (numL ((p.consts.length : Int)) 2)[j]? = some u' → uc.cell? (adc.add j) = some u') := own_cells ownc
        clear ownc blc E5
        go_wp2_with (at_builtin; refine wpList_append_own _ rfl _ _ 29 rfl w.heap.size 5 i0 (.int .u8 0) 1 1 Tryz.underlying29 hi hz0 hz1 hz2 rfl (by decide) _ _ _ rfl Ec.out.own adc 2 crc (numL ((p.consts.length : Int)) 2) rfl ?c1 ?c2 ?c3 ?c4 ?c5 ?c6 ?_)
        case c1 => rw [numL_length]
        case c2 => exact HCc.out
        case c3 => exact numL_oneCell _ _
        case c4 => unfold maxLen; omega
        case c5 => omega
        case c6 => exact Ec.out.bel.size
        intro Vc wc hown' hgrow' hnil'
        have Sc : Hid (EncAt w v p base wc Vc (cs5 ++ numL ((p.consts.length : Int)) 2)) := Ec.out.more (by rw [List.length_append, numL_length]; exact hown') hgrow'
        clear hown' hgrow' hnil' Ec HCc
        have hlc : (cs5 ++ numL ((p.consts.length : Int)) 2).length ≤ cs5.length + 2 := by rw [List.length_append, numL_length]; exact Nat.le_refl _
        generalize hCc : cs5 ++ numL ((p.consts.length : Int)) 2 = csc at Sc hlc
        have HCCc : Hid (cs5 ++ numL ((p.consts.length : Int)) 2 = csc) := hCc
        clear hCc
        go_wp2
        go_loopw [3, 5] (fun V i wr => ∃ k : Nat, k ≤ p.consts.length ∧ i = .int .i64 k ∧ Hid (EncAt w v p base wr V (csc ++ (p.consts.take k).flatMap encConst))) (fun _ i _ => p.consts.length - (intOf i).toNat)
        case atStart => exact ⟨0, by omega, rfl, by show EncAt _ _ _ _ _ _ _; simpa using Sc.out⟩
        case round =>
          clear Sc
          obtain ⟨k, hk, rfl, S0⟩ := hrel
          obtain ⟨p0, p1, p2, p3⟩ := S0.out.arg.at4
          rw [HEK.out] at p1
          by_cases hlt : k < p.consts.length
          · obtain ⟨x, hx⟩ : ∃ x, p.consts[k]? = some x := ⟨_, List.getElem?_eq_getElem hlt⟩
            have KR0 : Hid (wr.ownsRow base 59 2 v.k p.consts.length (p.consts.flatMap MC.cells)) := S0.out.prog.consts
            obtain ⟨g, o, ea2⟩ : ∃ g o, a2 = some ⟨g, o, none⟩ := by
              rcases (Rd.of_own KR0.out).2 with ⟨e0, _⟩ | ⟨g, o, c, e, _⟩
              · omega
              · rw [HEK.out] at e
                simp only [Value.slice.injEq] at e
                exact ⟨g, o, e.1⟩
            subst ea2
            have HX : Hid (p.consts[k]? = some x) := hx
            obtain ⟨xw0, xw1⟩ := W32_in (H.out.2.1.consts x (List.mem_of_getElem? hx)).2
            have hwr : wrap64 x.word = x.word := by unfold wrap64; omega
            clear hx
            have j0 := row_at MC.cells_length (by omega) KR0.out HX.out HEK.out 0 rfl
            rw [Nat.add_zero] at j0
            have hlen : (csc ++ (p.consts.take k).flatMap encConst).length ≤ csc.length + k * 5 := by rw [List.length_append, flat_length encConst 5 encConst_length, List.length_take, Nat.min_eq_left hk]; exact Nat.le_refl _
            generalize hCS : csc ++ (p.consts.take k).flatMap encConst = cs at S0 hlen
            have HCS : Hid (csc ++ (p.consts.take k).flatMap encConst = cs) := hCS
            clear hCS
            have S0' : Hid (EncAt w v p base wr u3 cs) := S0
            clear S0
            go_wp2_with fail
            clear p0 p1 p2 p3 j0
            refine (SPutNumber_in (x.type) 1 _ (by omega) (by omega)).mono ?_
            rintro e ua ⟨ra, rfl, owna, bla⟩
            have Ea : Hid (EncAt w v p base ua u3 cs) := S0'.out.call bla
            have KRca : Hid (ua.ownsRow base 59 2 v.k p.consts.length (p.consts.flatMap MC.cells)) := own_keep KR0.out bla (Nat.le_refl _)
            obtain ⟨ada, cra, era⟩ : ∃ ad c, ra = .slice (some ad) 1 c := own_some owna (by omega)
            subst era
            have HCa : Hid (∀ j u', (numL (x.type) 1)[j]? = some u' → ua.cell? (ada.add j) = some u') := own_cells owna
            clear owna bla S0'
            go_wp2_with (at_builtin; refine wpList_append_own _ rfl _ _ 29 rfl w.heap.size 5 i0 (.int .u8 0) 1 1 Tryz.underlying29 hi hz0 hz1 hz2 rfl (by decide) _ _ _ rfl Ea.out.own ada 1 cra (numL (x.type) 1) rfl ?c1 ?c2 ?c3 ?c4 ?c5 ?c6 ?_)
            case c1 => rw [numL_length]
            case c2 => exact HCa.out
            case c3 => exact numL_oneCell _ _
            case c4 => unfold maxLen; omega
            case c5 => omega
            case c6 => exact Ea.out.bel.size
            intro Va wa hown' hgrow' hnil'
            have Sa : Hid (EncAt w v p base wa Va (cs ++ numL (x.type) 1)) := Ea.out.more (by rw [List.length_append, numL_length]; exact hown') hgrow'
            have KRa : Hid (wa.ownsRow base 59 2 v.k p.consts.length (p.consts.flatMap MC.cells)) := own_grown KRca.out hgrow' Ea.out.own (by decide)
            clear KR0 KRca
            clear hown' hgrow' hnil' Ea HCa
            have hla : (cs ++ numL (x.type) 1).length ≤ cs.length + 1 := by rw [List.length_append, numL_length]; exact Nat.le_refl _
            generalize hCa : cs ++ numL (x.type) 1 = csa at Sa hla
            have HCCa : Hid (cs ++ numL (x.type) 1 = csa) := hCa
            clear hCa
            obtain ⟨p0, p1, p2, p3⟩ := Sa.out.arg.at4
            rw [HEK.out] at p1
            have j0 := row_at MC.cells_length (by omega) KRa.out HX.out HEK.out 1 rfl
            go_wp2_with fail
            clear p0 p1 p2 p3 j0
            refine (SPutNumber_in (x.word) 4 _ (by omega) (by omega)).mono ?_
            rintro e ub ⟨rb, rfl, ownb, blb⟩
            have Eb : Hid (EncAt w v p base ub Va csa) := Sa.out.call blb
            obtain ⟨adb, crb, erb⟩ : ∃ ad c, rb = .slice (some ad) 4 c := own_some ownb (by omega)
            subst erb
            have HCb : Hid (∀ j u', (numL (x.word) 4)[j]? = some u' → ub.cell? (adb.add j) = some u') := own_cells ownb
            clear ownb blb Sa
            go_wp2_with (at_builtin; refine wpList_append_own _ rfl _ _ 29 rfl w.heap.size 5 i0 (.int .u8 0) 1 1 Tryz.underlying29 hi hz0 hz1 hz2 rfl (by decide) _ _ _ rfl Eb.out.own adb 4 crb (numL (x.word) 4) rfl ?c1 ?c2 ?c3 ?c4 ?c5 ?c6 ?_)
            case c1 => rw [numL_length]
            case c2 => exact HCb.out
            case c3 => exact numL_oneCell _ _
            case c4 => unfold maxLen; omega
            case c5 => omega
            case c6 => exact Eb.out.bel.size
            intro Vb wb hown' hgrow' hnil'
            have Sb : Hid (EncAt w v p base wb Vb (csa ++ numL (x.word) 4)) := Eb.out.more (by rw [List.length_append, numL_length]; exact hown') hgrow'
            clear hown' hgrow' hnil' Eb HCb
            have hlb : (csa ++ numL (x.word) 4).length ≤ csa.length + 4 := by rw [List.length_append, numL_length]; exact Nat.le_refl _
            generalize hCb : csa ++ numL (x.word) 4 = csb at Sb hlb
            have HCCb : Hid (csa ++ numL (x.word) 4 = csb) := hCb
            clear hCb
            have HF : Hid (EncAt w v p base wb Vb (csc ++ (p.consts.take (k + 1)).flatMap encConst)) := by
              show EncAt _ _ _ _ _ _ _
              rw [take_next encConst HX.out, ← List.append_assoc, HCS.out, encConst, ← List.append_assoc, HCCa.out, HCCb.out]
              exact Sb.out
            clear Sb
            go_wp2
            go_roundw
            case rel => exact ⟨k + 1, by omega, by go_num, HF⟩
            case measure => simp [intOf]; omega
          · have hkn : p.consts.length = k := by omega
            subst hkn
            have E6 : Hid (EncAt w v p base wr u3 (csc ++ p.consts.flatMap encConst)) := by
              show EncAt _ _ _ _ _ _ _
              have := S0.out
              rw [List.take_length] at this
              exact this
            have hl6 : (csc ++ p.consts.flatMap encConst).length ≤ csc.length + p.consts.length * 5 := by rw [List.length_append, flat_length encConst 5 encConst_length]; exact Nat.le_refl _
            generalize hC6 : csc ++ p.consts.flatMap encConst = cs6 at E6 hl6
            have HC6 : Hid (csc ++ p.consts.flatMap encConst = cs6) := hC6
            clear hC6 S0
            obtain ⟨a3, c3, ef⟩ : ∃ a c, v.f = .slice a p.funcs.length c := by
              obtain ⟨ys, h1, h2, h3⟩ := E6.out.prog.funcs
              exact (Rd.of_own h2).is_slice
            rw [ef] at p2
            have HEF : Hid (v.f = .slice a3 p.funcs.length c3) := ef
            clear ef
            have hfl := HV.out.2.2.1.2.1
            go_wp2_with fail
            clear p0 p1 p2 p3
            refine (SPutNumber_in ((p.funcs.length : Int)) 2 _ (by omega) (by omega)).mono ?_
            rintro e ud ⟨rd, rfl, ownd, bld⟩
            have Ed : Hid (EncAt w v p base ud u3 cs6) := E6.out.call bld
            obtain ⟨add, crd, erd⟩ : ∃ ad c, rd = .slice (some ad) 2 c := own_some ownd (by omega)
            subst erd
            have HCd : Hid (∀ j u', (numL ((p.funcs.length : Int)) 2)[j]? = some u' → ud.cell? (add.add j) = some u') := own_cells ownd
            clear ownd bld E6
            go_wp2_with (at_builtin; refine wpList_append_own _ rfl _ _ 29 rfl w.heap.size 5 i0 (.int .u8 0) 1 1 Tryz.underlying29 hi hz0 hz1 hz2 rfl (by decide) _ _ _ rfl Ed.out.own add 2 crd (numL ((p.funcs.length : Int)) 2) rfl ?c1 ?c2 ?c3 ?c4 ?c5 ?c6 ?_)
            case c1 => rw [numL_length]
            case c2 => exact HCd.out
            case c3 => exact numL_oneCell _ _
            case c4 => unfold maxLen; omega
            case c5 => omega
            case c6 => exact Ed.out.bel.size
            intro Vd wd hown' hgrow' hnil'
            have Sd : Hid (EncAt w v p base wd Vd (cs6 ++ numL ((p.funcs.length : Int)) 2)) := Ed.out.more (by rw [List.length_append, numL_length]; exact hown') hgrow'
            clear hown' hgrow' hnil' Ed HCd
            have hld : (cs6 ++ numL ((p.funcs.length : Int)) 2).length ≤ cs6.length + 2 := by rw [List.length_append, numL_length]; exact Nat.le_refl _
            generalize hCd : cs6 ++ numL ((p.funcs.length : Int)) 2 = csd at Sd hld
            have HCCd : Hid (cs6 ++ numL ((p.funcs.length : Int)) 2 = csd) := hCd
            clear hCd
            go_wp2
            go_loopw [3, 6] (fun V i wr => ∃ k : Nat, k ≤ p.funcs.length ∧ i = .int .i64 k ∧ Hid (EncAt w v p base wr V (csd ++ (p.funcs.take k).flatMap encFunc))) (fun _ i _ => p.funcs.length - (intOf i).toNat)
            case atStart => exact ⟨0, by omega, rfl, by show EncAt _ _ _ _ _ _ _; simpa using Sd.out⟩
            case round =>
              clear Sd
              obtain ⟨k, hk, rfl, S0⟩ := hrel
              obtain ⟨p0, p1, p2, p3⟩ := S0.out.arg.at4
              rw [HEF.out] at p2
              by_cases hlt : k < p.funcs.length
              · obtain ⟨ys, hys, hrd, hel⟩ := S0.out.prog.funcs
                have hyl : ys.length = p.funcs.length := by rw [← hys]; simp
                obtain ⟨⟨f, vf⟩, hx⟩ : ∃ x, ys[k]? = some x := ⟨_, List.getElem?_eq_getElem (by omega)⟩
                clear hyl
                have e1 := fst_at hys hx
                have hof := hel _ (List.mem_of_getElem? hx)
                simp only [] at e1 hof
                have hfk := HV.out.2.2.1.2.2.1 k hlt f e1
                have hb1 := hfk.par
                have hb2 := hfk.loc
                have hb3 := hfk.code1
                obtain ⟨g, o, ea3⟩ : ∃ g o, a3 = some ⟨g, o, none⟩ := by
                  rcases (Rd.of_own hrd).2 with ⟨e0, _⟩ | ⟨g, o, c, e, _⟩
                  · omega
                  · rw [HEF.out] at e
                    simp only [Value.slice.injEq] at e
                    exact ⟨g, o, e.1⟩
                subst ea3
                have j0 := row_at fCells_length (by omega) hrd hx HEF.out 0 rfl
                have j1 := row_at fCells_length (by omega) hrd hx HEF.out 1 rfl
                have j2 := row_at fCells_length (by omega) hrd hx HEF.out 2 rfl
                have j3 := row_at fCells_length (by omega) hrd hx HEF.out 3 rfl
                rw [Nat.add_zero] at j0
                obtain ⟨ap, cp, ep⟩ := (Rd.of_own hof.1).is_slice
                obtain ⟨al, cl, el⟩ := (Rd.of_own hof.2.1).is_slice
                obtain ⟨ac, cc, ec⟩ := (Rd.of_own hof.2.2).is_slice
                obtain ⟨vp, vl, vc⟩ := vf
                simp only [] at ep el ec j0 j1 j2 j3
                subst ep el ec
                have HX : Hid (p.funcs[k]? = some f ∧ FuncOk f) := ⟨e1, hfk⟩
                have nb : ¬ g = wr.heap.size := Nat.ne_of_lt (block_lt_of_cell j0)
                have mb2 : g < wr.heap.size := block_lt_of_cell j0
                have S1 : Hid (EncAt w v p base (wr.alloc (.cells #[.slice ap f.params.length cp, .int .i64 f.result, .slice al f.locals.length cl, .slice ac f.code.length cc] 62)) u3 (csd ++ (p.funcs.take k).flatMap encFunc)) := S0.out.call (below_alloc _ _)
                have FB0 : Hid (Blk (wr.alloc (.cells #[.slice ap f.params.length cp, .int .i64 f.result, .slice al f.locals.length cl, .slice ac f.code.length cc] 62)) wr.heap.size #[.slice ap f.params.length cp, .int .i64 f.result, .slice al f.locals.length cl, .slice ac f.code.length cc] 62) := Blk.new _ _ _
                have PR0 : Hid ((wr.alloc (.cells #[.slice ap f.params.length cp, .int .i64 f.result, .slice al f.locals.length cl, .slice ac f.code.length cc] 62)).ownsRow base 2 1 (.slice ap f.params.length cp) f.params.length (f.params.flatMap intCell)) := own_keep hof.1 (below_alloc _ _) (Nat.le_refl _)
                have LR0 : Hid ((wr.alloc (.cells #[.slice ap f.params.length cp, .int .i64 f.result, .slice al f.locals.length cl, .slice ac f.code.length cc] 62)).ownsRow base 2 1 (.slice al f.locals.length cl) f.locals.length (f.locals.flatMap intCell)) := own_keep hof.2.1 (below_alloc _ _) (Nat.le_refl _)
                have CR0 : Hid ((wr.alloc (.cells #[.slice ap f.params.length cp, .int .i64 f.result, .slice al f.locals.length cl, .slice ac f.code.length cc] 62)).ownsRow base 64 4 (.slice ac f.code.length cc) f.code.length (f.code.flatMap MI.cells)) := own_keep hof.2.2 (below_alloc _ _) (Nat.le_refl _)
                clear hof hel hrd hys hx e1 hfk S0
                have hlen := funcs_length p.funcs HV.out.2.2.1 k
                have hlen2 : (csd ++ (p.funcs.take k).flatMap encFunc).length ≤ csd.length + k * 8300 := by rw [List.length_append]; omega
                generalize hCS : csd ++ (p.funcs.take k).flatMap encFunc = cs at S1 hlen2
                have HCS : Hid (csd ++ (p.funcs.take k).flatMap encFunc = cs) := hCS
                clear hCS hlen
                go_wp2_with fail
                generalize wr.alloc (.cells #[.slice ap f.params.length cp, .int .i64 f.result, .slice al f.locals.length cl, .slice ac f.code.length cc] 62) = W5 at S1 FB0 PR0 LR0 CR0 ⊢
                generalize wr.heap.size = fb at FB0 ⊢
                clear p0 p1 p2 p3 j0 j1 j2 j3 nb mb2
                refine (SPutNumber_in ((f.params.length : Int)) 1 _ (by omega) (by omega)).mono ?_
                rintro e ue ⟨re, rfl, owne, ble⟩
                have Ee : Hid (EncAt w v p base ue u3 cs) := S1.out.call ble
                have FBce : Hid (Blk ue fb #[.slice ap f.params.length cp, .int .i64 f.result, .slice al f.locals.length cl, .slice ac f.code.length cc] 62) := FB0.out.keep ble
                have PRce : Hid (ue.ownsRow base 2 1 (.slice ap f.params.length cp) f.params.length (f.params.flatMap intCell)) := own_keep PR0.out ble (Nat.le_refl _)
                have LRce : Hid (ue.ownsRow base 2 1 (.slice al f.locals.length cl) f.locals.length (f.locals.flatMap intCell)) := own_keep LR0.out ble (Nat.le_refl _)
                have CRce : Hid (ue.ownsRow base 64 4 (.slice ac f.code.length cc) f.code.length (f.code.flatMap MI.cells)) := own_keep CR0.out ble (Nat.le_refl _)
                obtain ⟨ade, cre, ere⟩ : ∃ ad c, re = .slice (some ad) 1 c := own_some owne (by omega)
                subst ere
                have HCe : Hid (∀ j u', (numL ((f.params.length : Int)) 1)[j]? = some u' → ue.cell? (ade.add j) = some u') := own_cells owne
                clear owne ble S1
                go_wp2_with (at_builtin; refine wpList_append_own _ rfl _ _ 29 rfl w.heap.size 5 i0 (.int .u8 0) 1 1 Tryz.underlying29 hi hz0 hz1 hz2 rfl (by decide) _ _ _ rfl Ee.out.own ade 1 cre (numL ((f.params.length : Int)) 1) rfl ?c1 ?c2 ?c3 ?c4 ?c5 ?c6 ?_)
                case c1 => rw [numL_length]
                case c2 => exact HCe.out
                case c3 => exact numL_oneCell _ _
                case c4 => unfold maxLen; omega
                case c5 => omega
                case c6 => exact Ee.out.bel.size
                intro Ve we hown' hgrow' hnil'
                have Se : Hid (EncAt w v p base we Ve (cs ++ numL ((f.params.length : Int)) 1)) := Ee.out.more (by rw [List.length_append, numL_length]; exact hown') hgrow'
                have FBe : Hid (Blk we fb #[.slice ap f.params.length cp, .int .i64 f.result, .slice al f.locals.length cl, .slice ac f.code.length cc] 62) := FBce.out.grown hgrow' Ee.out.own (by decide)
                have PRe : Hid (we.ownsRow base 2 1 (.slice ap f.params.length cp) f.params.length (f.params.flatMap intCell)) := own_grown PRce.out hgrow' Ee.out.own (by decide)
                have LRe : Hid (we.ownsRow base 2 1 (.slice al f.locals.length cl) f.locals.length (f.locals.flatMap intCell)) := own_grown LRce.out hgrow' Ee.out.own (by decide)
                have CRe : Hid (we.ownsRow base 64 4 (.slice ac f.code.length cc) f.code.length (f.code.flatMap MI.cells)) := own_grown CRce.out hgrow' Ee.out.own (by decide)
                clear FB0 FBce PR0 PRce LR0 LRce CR0 CRce
                clear hown' hgrow' hnil' Ee HCe
                have hle : (cs ++ numL ((f.params.length : Int)) 1).length ≤ cs.length + 1 := by rw [List.length_append, numL_length]; exact Nat.le_refl _
                generalize hCe : cs ++ numL ((f.params.length : Int)) 1 = cse at Se hle
                have HCCe : Hid (cs ++ numL ((f.params.length : Int)) 1 = cse) := hCe
                clear hCe
                obtain ⟨q0, q1, q2, q3⟩ := FBe.out.at4
                go_wp2_with fail
                clear q0 q1 q2 q3
                refine (l3Put_any w.heap.size Ve cse 1 (.slice ap f.params.length cp) (f.params) (base) _ Se.out.bel.size (by omega) (by omega) (by omega) (by omega) Se.out.own PRe.out).mono ?_
                rintro e wf ⟨Vf, rfl, bwf⟩
                have Sf : Hid (EncAt w v p base wf Vf (cse ++ numsL 1 (f.params))) := Se.out.put bwf
                have FBf : Hid (Blk wf fb #[.slice ap f.params.length cp, .int .i64 f.result, .slice al f.locals.length cl, .slice ac f.code.length cc] 62) := FBe.out.grown bwf.grown Se.out.own (by decide)
                have LRf : Hid (wf.ownsRow base 2 1 (.slice al f.locals.length cl) f.locals.length (f.locals.flatMap intCell)) := own_grown LRe.out bwf.grown Se.out.own (by decide)
                have CRf : Hid (wf.ownsRow base 64 4 (.slice ac f.code.length cc) f.code.length (f.code.flatMap MI.cells)) := own_grown CRe.out bwf.grown Se.out.own (by decide)
                clear bwf Se FBe LRe CRe
                have hlf : (cse ++ numsL 1 (f.params)).length ≤ cse.length + (f.params).length * 1 := by rw [List.length_append, numsL_length]; exact Nat.le_refl _
                generalize hCf : cse ++ numsL 1 (f.params) = csf at Sf hlf
                have HCCf : Hid (cse ++ numsL 1 (f.params) = csf) := hCf
                clear hCf
                clear PRe
                obtain ⟨q0, q1, q2, q3⟩ := FBf.out.at4
                have nfb : ¬ fb = wf.heap.size := Nat.ne_of_lt FBf.out.lt
                have mfb : fb < wf.heap.size := FBf.out.lt
                have S2 : Hid (EncAt w v p base (wf.alloc (.cells #[.int .i64 f.result, .int .i64 (f.locals.length : Int)] 2)) Vf csf) := Sf.out.call (below_alloc _ _)
                have FB2 : Hid (Blk (wf.alloc (.cells #[.int .i64 f.result, .int .i64 (f.locals.length : Int)] 2)) fb #[.slice ap f.params.length cp, .int .i64 f.result, .slice al f.locals.length cl, .slice ac f.code.length cc] 62) := FBf.out.keep (below_alloc _ _)
                have LR2 : Hid ((wf.alloc (.cells #[.int .i64 f.result, .int .i64 (f.locals.length : Int)] 2)).ownsRow base 2 1 (.slice al f.locals.length cl) f.locals.length (f.locals.flatMap intCell)) := own_keep LRf.out (below_alloc _ _) (Nat.le_refl _)
                have CR2 : Hid ((wf.alloc (.cells #[.int .i64 f.result, .int .i64 (f.locals.length : Int)] 2)).ownsRow base 64 4 (.slice ac f.code.length cc) f.code.length (f.code.flatMap MI.cells)) := own_keep CRf.out (below_alloc _ _) (Nat.le_refl _)
                have KO : Hid ((wf.alloc (.cells #[.int .i64 f.result, .int .i64 (f.locals.length : Int)] 2)).ownsRow wf.heap.size 2 1 (.slice (some ⟨wf.heap.size, 0, none⟩) 2 2) 2 ([f.result, (f.locals.length : Int)].flatMap intCell)) := World.ownsRow_lit (base := wf.heap.size) (e := 2) (size := 1) wf #[.int .i64 f.result, .int .i64 (f.locals.length : Int)] 2 (Nat.le_refl _) (by unfold maxLen; omega) (by simp)
                clear Sf FBf LRf CRf
                go_wp2_with fail
                clear q0 q1 q2 q3 nfb mfb
                generalize wf.alloc (.cells #[.int .i64 f.result, .int .i64 (f.locals.length : Int)] 2) = W6 at S2 FB2 LR2 CR2 KO ⊢
                generalize wf.heap.size = cb at KO ⊢
                refine (l3Put_any w.heap.size Vf csf 1 (.slice (some ⟨cb, 0, none⟩) 2 2) ([f.result, (f.locals.length : Int)]) (cb) _ S2.out.bel.size (by omega) (by omega) (by simp) (by omega) S2.out.own KO.out).mono ?_
                rintro e wg ⟨Vg, rfl, bwg⟩
                have Sg : Hid (EncAt w v p base wg Vg (csf ++ numsL 1 ([f.result, (f.locals.length : Int)]))) := S2.out.put bwg
                have FBg : Hid (Blk wg fb #[.slice ap f.params.length cp, .int .i64 f.result, .slice al f.locals.length cl, .slice ac f.code.length cc] 62) := FB2.out.grown bwg.grown S2.out.own (by decide)
                have LRg : Hid (wg.ownsRow base 2 1 (.slice al f.locals.length cl) f.locals.length (f.locals.flatMap intCell)) := own_grown LR2.out bwg.grown S2.out.own (by decide)
                have CRg : Hid (wg.ownsRow base 64 4 (.slice ac f.code.length cc) f.code.length (f.code.flatMap MI.cells)) := own_grown CR2.out bwg.grown S2.out.own (by decide)
                clear bwg S2 FB2 LR2 CR2
                have hlg : (csf ++ numsL 1 ([f.result, (f.locals.length : Int)])).length ≤ csf.length + ([f.result, (f.locals.length : Int)]).length * 1 := by rw [List.length_append, numsL_length]; exact Nat.le_refl _
                generalize hCg : csf ++ numsL 1 ([f.result, (f.locals.length : Int)]) = csg at Sg hlg
                have HCCg : Hid (csf ++ numsL 1 ([f.result, (f.locals.length : Int)]) = csg) := hCg
                clear hCg
                clear KO
                simp only [List.length_cons, List.length_nil] at hlg
                obtain ⟨q0, q1, q2, q3⟩ := FBg.out.at4
                go_wp2_with fail
                clear q0 q1 q2 q3
                refine (l3Put_any w.heap.size Vg csg 1 (.slice al f.locals.length cl) (f.locals) (base) _ Sg.out.bel.size (by omega) (by omega) (by omega) (by omega) Sg.out.own LRg.out).mono ?_
                rintro e wh ⟨Vh, rfl, bwh⟩
                have Sh : Hid (EncAt w v p base wh Vh (csg ++ numsL 1 (f.locals))) := Sg.out.put bwh
                have FBh : Hid (Blk wh fb #[.slice ap f.params.length cp, .int .i64 f.result, .slice al f.locals.length cl, .slice ac f.code.length cc] 62) := FBg.out.grown bwh.grown Sg.out.own (by decide)
                have CRh : Hid (wh.ownsRow base 64 4 (.slice ac f.code.length cc) f.code.length (f.code.flatMap MI.cells)) := own_grown CRg.out bwh.grown Sg.out.own (by decide)
                clear bwh Sg FBg CRg
                have hlh : (csg ++ numsL 1 (f.locals)).length ≤ csg.length + (f.locals).length * 1 := by rw [List.length_append, numsL_length]; exact Nat.le_refl _
                generalize hCh : csg ++ numsL 1 (f.locals) = csh at Sh hlh
                have HCCh : Hid (csg ++ numsL 1 (f.locals) = csh) := hCh
                clear hCh
                clear LRg
                obtain ⟨q0, q1, q2, q3⟩ := FBh.out.at4
                go_wp2_with fail
                clear q0 q1 q2 q3
                refine (SPutNumber_in ((f.code.length : Int)) 2 _ (by omega) (by omega)).mono ?_
                rintro e ui ⟨ri, rfl, owni, bli⟩
                have Ei : Hid (EncAt w v p base ui Vh csh) := Sh.out.call bli
                have FBci : Hid (Blk ui fb #[.slice ap f.params.length cp, .int .i64 f.result, .slice al f.locals.length cl, .slice ac f.code.length cc] 62) := FBh.out.keep bli
                have CRci : Hid (ui.ownsRow base 64 4 (.slice ac f.code.length cc) f.code.length (f.code.flatMap MI.cells)) := own_keep CRh.out bli (Nat.le_refl _)
                obtain ⟨adi, cri, eri⟩ : ∃ ad c, ri = .slice (some ad) 2 c := own_some owni (by omega)
                subst eri
                have HCi : Hid (∀ j u', (numL ((f.code.length : Int)) 2)[j]? = some u' → ui.cell? (adi.add j) = some u') := own_cells owni
                clear owni bli Sh
                go_wp2_with (at_builtin; refine wpList_append_own _ rfl _ _ 29 rfl w.heap.size 5 i0 (.int .u8 0) 1 1 Tryz.underlying29 hi hz0 hz1 hz2 rfl (by decide) _ _ _ rfl Ei.out.own adi 2 cri (numL ((f.code.length : Int)) 2) rfl ?c1 ?c2 ?c3 ?c4 ?c5 ?c6 ?_)
                case c1 => rw [numL_length]
                case c2 => exact HCi.out
                case c3 => exact numL_oneCell _ _
                case c4 => unfold maxLen; omega
                case c5 => omega
                case c6 => exact Ei.out.bel.size
                intro Vi wi hown' hgrow' hnil'
                have Si : Hid (EncAt w v p base wi Vi (csh ++ numL ((f.code.length : Int)) 2)) := Ei.out.more (by rw [List.length_append, numL_length]; exact hown') hgrow'
                have FBi : Hid (Blk wi fb #[.slice ap f.params.length cp, .int .i64 f.result, .slice al f.locals.length cl, .slice ac f.code.length cc] 62) := FBci.out.grown hgrow' Ei.out.own (by decide)
                have CRi : Hid (wi.ownsRow base 64 4 (.slice ac f.code.length cc) f.code.length (f.code.flatMap MI.cells)) := own_grown CRci.out hgrow' Ei.out.own (by decide)
                clear FBh FBci CRh CRci
                clear hown' hgrow' hnil' Ei HCi
                have hli : (csh ++ numL ((f.code.length : Int)) 2).length ≤ csh.length + 2 := by rw [List.length_append, numL_length]; exact Nat.le_refl _
                generalize hCi : csh ++ numL ((f.code.length : Int)) 2 = csi at Si hli
                have HCCi : Hid (csh ++ numL ((f.code.length : Int)) 2 = csi) := hCi
                clear hCi
                obtain ⟨q0, q1, q2, q3⟩ := FBi.out.at4
                go_wp2
                clear q0 q1 q2 q3
                go_loopw [3, 8] (fun V i wr => ∃ q : Nat, q ≤ f.code.length ∧ i = .int .i64 q ∧ Hid (EncAt w v p base wr V (csi ++ (f.code.take q).flatMap encInstr)) ∧ Hid (Blk wr fb #[.slice ap f.params.length cp, .int .i64 f.result, .slice al f.locals.length cl, .slice ac f.code.length cc] 62 ∧ wr.ownsRow base 64 4 (.slice ac f.code.length cc) f.code.length (f.code.flatMap MI.cells))) (fun _ i _ => f.code.length - (intOf i).toNat)
                case atStart => exact ⟨0, by omega, rfl, by show EncAt _ _ _ _ _ _ _; simpa using Si.out, ⟨FBi.out, CRi.out⟩⟩
                case round =>
                  clear Si FBi CRi
                  obtain ⟨q, hq, rfl, T0, FB4⟩ := hrel
                  obtain ⟨q0, q1, q2, q3⟩ := FB4.out.1.at4
                  by_cases hlq : q < f.code.length
                  · obtain ⟨x, hx⟩ : ∃ x, f.code[q]? = some x := ⟨_, List.getElem?_eq_getElem hlq⟩
                    obtain ⟨g2, o2, eac⟩ : ∃ g o, ac = some ⟨g, o, none⟩ := by
                      rcases (Rd.of_own FB4.out.2).2 with ⟨e0, _⟩ | ⟨g, o, c, e, _⟩
                      · omega
                      · simp only [Value.slice.injEq] at e
                        exact ⟨g, o, e.1⟩
                    subst eac
                    have j0 := row_at MI.cells_length (by omega) FB4.out.2 hx rfl 0 rfl
                    have j1 := row_at MI.cells_length (by omega) FB4.out.2 hx rfl 1 rfl
                    have j2 := row_at MI.cells_length (by omega) FB4.out.2 hx rfl 2 rfl
                    have j3 := row_at MI.cells_length (by omega) FB4.out.2 hx rfl 3 rfl
                    rw [Nat.add_zero] at j0
                    obtain ⟨xo, xa, xb, xc⟩ := x
                    simp only [] at j0 j1 j2 j3
                    have nb : ¬ g2 = wr.heap.size := Nat.ne_of_lt (block_lt_of_cell j0)
                    have mb2 : g2 < wr.heap.size := block_lt_of_cell j0
                    have HX2 : Hid (f.code[q]? = some ⟨xo, xa, xb, xc⟩) := hx
                    clear hx
                    have b7 : Below wr.heap.size wr ((wr.alloc (.cells #[.int .i64 xo, .int .i64 xa, .int .i64 xb, .int .i64 xc] 64)).alloc (.cells #[.int .i64 xo, .int .i64 xa] 2)) := below_on (below_alloc _ _) (Nat.le_refl _) (below_alloc _ _)
                    have T1 : Hid (EncAt w v p base ((wr.alloc (.cells #[.int .i64 xo, .int .i64 xa, .int .i64 xb, .int .i64 xc] 64)).alloc (.cells #[.int .i64 xo, .int .i64 xa] 2)) u3 (csi ++ (f.code.take q).flatMap encInstr)) := T0.out.call b7
                    have FB7 : Hid (Blk ((wr.alloc (.cells #[.int .i64 xo, .int .i64 xa, .int .i64 xb, .int .i64 xc] 64)).alloc (.cells #[.int .i64 xo, .int .i64 xa] 2)) fb #[.slice ap f.params.length cp, .int .i64 f.result, .slice al f.locals.length cl, .slice (some ⟨g2, o2, none⟩) f.code.length cc] 62) := FB4.out.1.keep b7
                    have CR7 : Hid (((wr.alloc (.cells #[.int .i64 xo, .int .i64 xa, .int .i64 xb, .int .i64 xc] 64)).alloc (.cells #[.int .i64 xo, .int .i64 xa] 2)).ownsRow base 64 4 (.slice (some ⟨g2, o2, none⟩) f.code.length cc) f.code.length (f.code.flatMap MI.cells)) := own_keep FB4.out.2 b7 (Nat.le_refl _)
                    have XB7 : Hid (Blk ((wr.alloc (.cells #[.int .i64 xo, .int .i64 xa, .int .i64 xb, .int .i64 xc] 64)).alloc (.cells #[.int .i64 xo, .int .i64 xa] 2)) wr.heap.size #[.int .i64 xo, .int .i64 xa, .int .i64 xb, .int .i64 xc] 64) := (Blk.new _ _ _).keep (below_alloc _ _)
                    have hsz7 : (wr.alloc (.cells #[.int .i64 xo, .int .i64 xa, .int .i64 xb, .int .i64 xc] 64)).heap.size = wr.heap.size + 1 := by simp
                    have KO7 : Hid (((wr.alloc (.cells #[.int .i64 xo, .int .i64 xa, .int .i64 xb, .int .i64 xc] 64)).alloc (.cells #[.int .i64 xo, .int .i64 xa] 2)).ownsRow (wr.heap.size + 1) 2 1 (.slice (some ⟨wr.heap.size + 1, 0, none⟩) 2 2) 2 ([xo, xa].flatMap intCell)) := by
                      have := World.ownsRow_lit (base := wr.heap.size + 1) (e := 2) (size := 1) (wr.alloc (.cells #[.int .i64 xo, .int .i64 xa, .int .i64 xb, .int .i64 xc] 64)) #[.int .i64 xo, .int .i64 xa] 2 (by rw [hsz7]; exact Nat.le_refl _) (by unfold maxLen; omega) (by simp)
                      rw [hsz7] at this
                      exact this
                    clear b7 hsz7 T0 FB4
                    have hlen3 : (csi ++ (f.code.take q).flatMap encInstr).length ≤ csi.length + q * 8 := by rw [List.length_append, flat_length encInstr 8 encInstr_length, List.length_take, Nat.min_eq_left hq]; exact Nat.le_refl _
                    generalize hCS2 : csi ++ (f.code.take q).flatMap encInstr = cs2 at T1 hlen3
                    have HCS2 : Hid (csi ++ (f.code.take q).flatMap encInstr = cs2) := hCS2
                    clear hCS2
                    go_wp2_with fail
                    clear q0 q1 q2 q3 j0 j1 j2 j3 nb mb2
                    generalize (wr.alloc (.cells #[.int .i64 xo, .int .i64 xa, .int .i64 xb, .int .i64 xc] 64)).alloc (.cells #[.int .i64 xo, .int .i64 xa] 2) = W8 at T1 FB7 CR7 XB7 KO7 ⊢
                    generalize wr.heap.size = xb0 at XB7 KO7 ⊢
                    refine (l3Put_any w.heap.size u3 cs2 1 (.slice (some ⟨xb0 + 1, 0, none⟩) 2 2) ([xo, xa]) (xb0 + 1) _ T1.out.bel.size (by omega) (by omega) (by simp) (by omega) T1.out.own KO7.out).mono ?_
                    rintro e wj ⟨Vj, rfl, bwj⟩
                    have Sj : Hid (EncAt w v p base wj Vj (cs2 ++ numsL 1 ([xo, xa]))) := T1.out.put bwj
                    have FBj : Hid (Blk wj fb #[.slice ap f.params.length cp, .int .i64 f.result, .slice al f.locals.length cl, .slice (some ⟨g2, o2, none⟩) f.code.length cc] 62) := FB7.out.grown bwj.grown T1.out.own (by decide)
                    have CRj : Hid (wj.ownsRow base 64 4 (.slice (some ⟨g2, o2, none⟩) f.code.length cc) f.code.length (f.code.flatMap MI.cells)) := own_grown CR7.out bwj.grown T1.out.own (by decide)
                    have XBj : Hid (Blk wj xb0 #[.int .i64 xo, .int .i64 xa, .int .i64 xb, .int .i64 xc] 64) := XB7.out.grown bwj.grown T1.out.own (by decide)
                    clear bwj T1 FB7 CR7 XB7
                    have hlj : (cs2 ++ numsL 1 ([xo, xa])).length ≤ cs2.length + ([xo, xa]).length * 1 := by rw [List.length_append, numsL_length]; exact Nat.le_refl _
                    generalize hCj : cs2 ++ numsL 1 ([xo, xa]) = csj at Sj hlj
                    have HCCj : Hid (cs2 ++ numsL 1 ([xo, xa]) = csj) := hCj
                    clear hCj
                    clear KO7
                    simp only [List.length_cons, List.length_nil] at hlj
                    obtain ⟨q0, q1, q2, q3⟩ := XBj.out.at4
                    go_wp2_with fail
                    clear q0 q1 q2 q3
                    refine (SPutNumber_in (xb) 2 _ (by omega) (by omega)).mono ?_
                    rintro e uk ⟨rk, rfl, ownk, blk⟩
                    have Ek : Hid (EncAt w v p base uk Vj csj) := Sj.out.call blk
                    have FBck : Hid (Blk uk fb #[.slice ap f.params.length cp, .int .i64 f.result, .slice al f.locals.length cl, .slice (some ⟨g2, o2, none⟩) f.code.length cc] 62) := FBj.out.keep blk
                    have CRck : Hid (uk.ownsRow base 64 4 (.slice (some ⟨g2, o2, none⟩) f.code.length cc) f.code.length (f.code.flatMap MI.cells)) := own_keep CRj.out blk (Nat.le_refl _)
                    have XBck : Hid (Blk uk xb0 #[.int .i64 xo, .int .i64 xa, .int .i64 xb, .int .i64 xc] 64) := XBj.out.keep blk
                    obtain ⟨adk, crk, erk⟩ : ∃ ad c, rk = .slice (some ad) 2 c := own_some ownk (by omega)
                    subst erk
                    have HCk : Hid (∀ j u', (numL (xb) 2)[j]? = some u' → uk.cell? (adk.add j) = some u') := own_cells ownk
                    clear ownk blk Sj
                    go_wp2_with (at_builtin; refine wpList_append_own _ rfl _ _ 29 rfl w.heap.size 5 i0 (.int .u8 0) 1 1 Tryz.underlying29 hi hz0 hz1 hz2 rfl (by decide) _ _ _ rfl Ek.out.own adk 2 crk (numL (xb) 2) rfl ?c1 ?c2 ?c3 ?c4 ?c5 ?c6 ?_)
                    case c1 => rw [numL_length]
                    case c2 => exact HCk.out
                    case c3 => exact numL_oneCell _ _
                    case c4 => unfold maxLen; omega
                    case c5 => omega
                    case c6 => exact Ek.out.bel.size
                    intro Vk wk hown' hgrow' hnil'
                    have Sk : Hid (EncAt w v p base wk Vk (csj ++ numL (xb) 2)) := Ek.out.more (by rw [List.length_append, numL_length]; exact hown') hgrow'
                    have FBk : Hid (Blk wk fb #[.slice ap f.params.length cp, .int .i64 f.result, .slice al f.locals.length cl, .slice (some ⟨g2, o2, none⟩) f.code.length cc] 62) := FBck.out.grown hgrow' Ek.out.own (by decide)
                    have CRk : Hid (wk.ownsRow base 64 4 (.slice (some ⟨g2, o2, none⟩) f.code.length cc) f.code.length (f.code.flatMap MI.cells)) := own_grown CRck.out hgrow' Ek.out.own (by decide)
                    have XBk : Hid (Blk wk xb0 #[.int .i64 xo, .int .i64 xa, .int .i64 xb, .int .i64 xc] 64) := XBck.out.grown hgrow' Ek.out.own (by decide)
                    clear FBj FBck CRj CRck XBj XBck
                    clear hown' hgrow' hnil' Ek HCk
                    have hlk : (csj ++ numL (xb) 2).length ≤ csj.length + 2 := by rw [List.length_append, numL_length]; exact Nat.le_refl _
                    generalize hCk : csj ++ numL (xb) 2 = csk at Sk hlk
                    have HCCk : Hid (csj ++ numL (xb) 2 = csk) := hCk
                    clear hCk
                    obtain ⟨q0, q1, q2, q3⟩ := XBk.out.at4
                    go_wp2_with fail
                    clear q0 q1 q2 q3
                    refine (SPutNumber_in (xc) 4 _ (by omega) (by omega)).mono ?_
                    rintro e ul ⟨rl, rfl, ownl, bll⟩
                    have El : Hid (EncAt w v p base ul Vk csk) := Sk.out.call bll
                    have FBcl : Hid (Blk ul fb #[.slice ap f.params.length cp, .int .i64 f.result, .slice al f.locals.length cl, .slice (some ⟨g2, o2, none⟩) f.code.length cc] 62) := FBk.out.keep bll
                    have CRcl : Hid (ul.ownsRow base 64 4 (.slice (some ⟨g2, o2, none⟩) f.code.length cc) f.code.length (f.code.flatMap MI.cells)) := own_keep CRk.out bll (Nat.le_refl _)
                    have XBcl : Hid (Blk ul xb0 #[.int .i64 xo, .int .i64 xa, .int .i64 xb, .int .i64 xc] 64) := XBk.out.keep bll
                    obtain ⟨adl, crl, erl⟩ : ∃ ad c, rl = .slice (some ad) 4 c := own_some ownl (by omega)
                    subst erl
                    have HCl : Hid (∀ j u', (numL (xc) 4)[j]? = some u' → ul.cell? (adl.add j) = some u') := own_cells ownl
                    clear ownl bll Sk
                    go_wp2_with (at_builtin; refine wpList_append_own _ rfl _ _ 29 rfl w.heap.size 5 i0 (.int .u8 0) 1 1 Tryz.underlying29 hi hz0 hz1 hz2 rfl (by decide) _ _ _ rfl El.out.own adl 4 crl (numL (xc) 4) rfl ?c1 ?c2 ?c3 ?c4 ?c5 ?c6 ?_)
                    case c1 => rw [numL_length]
                    case c2 => exact HCl.out
                    case c3 => exact numL_oneCell _ _
                    case c4 => unfold maxLen; omega
                    case c5 => omega
                    case c6 => exact El.out.bel.size
                    intro Vl wl hown' hgrow' hnil'
                    have Sl : Hid (EncAt w v p base wl Vl (csk ++ numL (xc) 4)) := El.out.more (by rw [List.length_append, numL_length]; exact hown') hgrow'
                    have FBl : Hid (Blk wl fb #[.slice ap f.params.length cp, .int .i64 f.result, .slice al f.locals.length cl, .slice (some ⟨g2, o2, none⟩) f.code.length cc] 62) := FBcl.out.grown hgrow' El.out.own (by decide)
                    have CRl : Hid (wl.ownsRow base 64 4 (.slice (some ⟨g2, o2, none⟩) f.code.length cc) f.code.length (f.code.flatMap MI.cells)) := own_grown CRcl.out hgrow' El.out.own (by decide)
                    have XBl : Hid (Blk wl xb0 #[.int .i64 xo, .int .i64 xa, .int .i64 xb, .int .i64 xc] 64) := XBcl.out.grown hgrow' El.out.own (by decide)
                    clear FBk FBcl CRk CRcl XBk XBcl
                    clear hown' hgrow' hnil' El HCl
                    have hll : (csk ++ numL (xc) 4).length ≤ csk.length + 4 := by rw [List.length_append, numL_length]; exact Nat.le_refl _
                    generalize hCl : csk ++ numL (xc) 4 = csl at Sl hll
                    have HCCl : Hid (csk ++ numL (xc) 4 = csl) := hCl
                    clear hCl
                    have HF : Hid (EncAt w v p base wl Vl (csi ++ (f.code.take (q + 1)).flatMap encInstr)) := by
                      show EncAt _ _ _ _ _ _ _
                      rw [take_next encInstr HX2.out, ← List.append_assoc, HCS2.out, encInstr, ← List.append_assoc, ← List.append_assoc, HCCj.out, HCCk.out, HCCl.out]
                      exact Sl.out
                    clear Sl XBl
                    go_wp2
                    go_roundw
                    case rel => exact ⟨q + 1, by omega, by go_num, HF, ⟨FBl.out, CRl.out⟩⟩
                    case measure => simp [intOf]; omega
                  · have hqn : f.code.length = q := by omega
                    have HF : Hid (EncAt w v p base wr u3 (csd ++ (p.funcs.take (k + 1)).flatMap encFunc)) := by
                      show EncAt _ _ _ _ _ _ _
                      have := T0.out
                      rw [← hqn, List.take_length] at this
                      rw [take_next encFunc HX.out.1, ← List.append_assoc, HCS.out, encFunc, ← List.append_assoc, ← List.append_assoc, ← List.append_assoc, ← List.append_assoc, ← List.append_assoc, HCCe.out, HCCf.out, HCCg.out, HCCh.out, HCCi.out]
                      exact this
                    clear T0 FB4
                    go_wp2
                    go_roundw
                    case rel => exact ⟨k + 1, by omega, by go_num, HF⟩
                    case measure => simp [intOf]; omega
              · have hkn : p.funcs.length = k := by omega
                subst hkn
                have E7 : Hid (EncAt w v p base wr u3 (csd ++ p.funcs.flatMap encFunc)) := by
                  show EncAt _ _ _ _ _ _ _
                  have := S0.out
                  rw [List.take_length] at this
                  exact this
                have hlen := funcs_length p.funcs HV.out.2.2.1 p.funcs.length
                rw [List.take_length] at hlen
                have hl7 : (csd ++ p.funcs.flatMap encFunc).length ≤ csd.length + p.funcs.length * 8300 := by rw [List.length_append]; omega
                generalize hC7 : csd ++ p.funcs.flatMap encFunc = cs7 at E7 hl7
                have HC7 : Hid (csd ++ p.funcs.flatMap encFunc = cs7) := hC7
                clear hC7 S0 hlen
                obtain ⟨a4, c4, et⟩ := (Rd.of_own E7.out.prog.certs).is_slice
                rw [et] at p3
                have HET : Hid (v.t = .slice a4 p.certs.length c4) := et
                clear et
                have htl := HV.out.2.2.2.2.1
                go_wp2_with fail
                clear p0 p1 p2 p3
                refine (SPutNumber_in ((p.certs.length : Int)) 2 _ (by omega) (by omega)).mono ?_
                rintro e um ⟨rm, rfl, ownm, blm⟩
                have Em : Hid (EncAt w v p base um u3 cs7) := E7.out.call blm
                obtain ⟨adm, crm, erm⟩ : ∃ ad c, rm = .slice (some ad) 2 c := own_some ownm (by omega)
                subst erm
                have HCm : Hid (∀ j u', (numL ((p.certs.length : Int)) 2)[j]? = some u' → um.cell? (adm.add j) = some u') := own_cells ownm
                clear ownm blm E7
                go_wp2_with (at_builtin; refine wpList_append_own _ rfl _ _ 29 rfl w.heap.size 5 i0 (.int .u8 0) 1 1 Tryz.underlying29 hi hz0 hz1 hz2 rfl (by decide) _ _ _ rfl Em.out.own adm 2 crm (numL ((p.certs.length : Int)) 2) rfl ?c1 ?c2 ?c3 ?c4 ?c5 ?c6 ?_)
                case c1 => rw [numL_length]
                case c2 => exact HCm.out
                case c3 => exact numL_oneCell _ _
                case c4 => unfold maxLen; omega
                case c5 => omega
                case c6 => exact Em.out.bel.size
                intro Vm wm hown' hgrow' hnil'
                have Sm : Hid (EncAt w v p base wm Vm (cs7 ++ numL ((p.certs.length : Int)) 2)) := Em.out.more (by rw [List.length_append, numL_length]; exact hown') hgrow'
                clear hown' hgrow' hnil' Em HCm
                have hlm : (cs7 ++ numL ((p.certs.length : Int)) 2).length ≤ cs7.length + 2 := by rw [List.length_append, numL_length]; exact Nat.le_refl _
                generalize hCm : cs7 ++ numL ((p.certs.length : Int)) 2 = csm at Sm hlm
                have HCCm : Hid (cs7 ++ numL ((p.certs.length : Int)) 2 = csm) := hCm
                clear hCm
                go_wp2
                go_loopw [3, 10] (fun V i wr => ∃ k : Nat, k ≤ p.certs.length ∧ i = .int .i64 k ∧ Hid (EncAt w v p base wr V (csm ++ (p.certs.take k).flatMap encCert))) (fun _ i _ => p.certs.length - (intOf i).toNat)
                case atStart => exact ⟨0, by omega, rfl, by show EncAt _ _ _ _ _ _ _; simpa using Sm.out⟩
                case round =>
                  clear Sm
                  obtain ⟨k, hk, rfl, S0⟩ := hrel
                  obtain ⟨p0, p1, p2, p3⟩ := S0.out.arg.at4
                  rw [HET.out] at p3
                  by_cases hlt : k < p.certs.length
                  · obtain ⟨x, hx⟩ : ∃ x, p.certs[k]? = some x := ⟨_, List.getElem?_eq_getElem hlt⟩
                    have hrd := S0.out.prog.certs
                    obtain ⟨g2, o2, eac⟩ : ∃ g o, a4 = some ⟨g, o, none⟩ := by
                      rcases (Rd.of_own hrd).2 with ⟨e0, _⟩ | ⟨g, o, c, e, _⟩
                      · omega
                      · rw [HET.out] at e
                        simp only [Value.slice.injEq] at e
                        exact ⟨g, o, e.1⟩
                    subst eac
                    have j0 := row_at MT.cells_length (by omega) hrd hx HET.out 0 rfl
                    have j1 := row_at MT.cells_length (by omega) hrd hx HET.out 1 rfl
                    have j2 := row_at MT.cells_length (by omega) hrd hx HET.out 2 rfl
                    have j3 := row_at MT.cells_length (by omega) hrd hx HET.out 3 rfl
                    rw [Nat.add_zero] at j0
                    obtain ⟨xw0, xw1⟩ := W32_in (H.out.2.1.certs x (List.mem_of_getElem? hx)).2.2.2
                    obtain ⟨xo, xa, xb, xc⟩ := x
                    simp only [] at j0 j1 j2 j3 xw0 xw1
                    have hwr : wrap64 xc = xc := by unfold wrap64; omega
                    have nb : ¬ g2 = wr.heap.size := Nat.ne_of_lt (block_lt_of_cell j0)
                    have mb2 : g2 < wr.heap.size := block_lt_of_cell j0
                    have HX2 : Hid (p.certs[k]? = some ⟨xo, xa, xb, xc⟩) := hx
                    clear hx hrd
                    have b7 : Below wr.heap.size wr ((wr.alloc (.cells #[.int .i64 xo, .int .i64 xa, .int .i64 xb, .int .u32 xc] 66)).alloc (.cells #[.int .i64 xo, .int .i64 xa] 2)) := below_on (below_alloc _ _) (Nat.le_refl _) (below_alloc _ _)
                    have T1 : Hid (EncAt w v p base ((wr.alloc (.cells #[.int .i64 xo, .int .i64 xa, .int .i64 xb, .int .u32 xc] 66)).alloc (.cells #[.int .i64 xo, .int .i64 xa] 2)) u3 (csm ++ (p.certs.take k).flatMap encCert)) := S0.out.call b7
                    have XB7 : Hid (Blk ((wr.alloc (.cells #[.int .i64 xo, .int .i64 xa, .int .i64 xb, .int .u32 xc] 66)).alloc (.cells #[.int .i64 xo, .int .i64 xa] 2)) wr.heap.size #[.int .i64 xo, .int .i64 xa, .int .i64 xb, .int .u32 xc] 66) := (Blk.new _ _ _).keep (below_alloc _ _)
                    have hsz7 : (wr.alloc (.cells #[.int .i64 xo, .int .i64 xa, .int .i64 xb, .int .u32 xc] 66)).heap.size = wr.heap.size + 1 := by simp
                    have KO7 : Hid (((wr.alloc (.cells #[.int .i64 xo, .int .i64 xa, .int .i64 xb, .int .u32 xc] 66)).alloc (.cells #[.int .i64 xo, .int .i64 xa] 2)).ownsRow (wr.heap.size + 1) 2 1 (.slice (some ⟨wr.heap.size + 1, 0, none⟩) 2 2) 2 ([xo, xa].flatMap intCell)) := by
                      have := World.ownsRow_lit (base := wr.heap.size + 1) (e := 2) (size := 1) (wr.alloc (.cells #[.int .i64 xo, .int .i64 xa, .int .i64 xb, .int .u32 xc] 66)) #[.int .i64 xo, .int .i64 xa] 2 (by rw [hsz7]; exact Nat.le_refl _) (by unfold maxLen; omega) (by simp)
                      rw [hsz7] at this
                      exact this
                    clear b7 hsz7 S0
                    have hlen3 : (csm ++ (p.certs.take k).flatMap encCert).length ≤ csm.length + k * 9 := by rw [List.length_append, flat_length encCert 9 encCert_length, List.length_take, Nat.min_eq_left hk]; exact Nat.le_refl _
                    generalize hCS2 : csm ++ (p.certs.take k).flatMap encCert = cs2 at T1 hlen3
                    have HCS2 : Hid (csm ++ (p.certs.take k).flatMap encCert = cs2) := hCS2
                    clear hCS2
                    go_wp2_with fail
                    clear p0 p1 p2 p3 j0 j1 j2 j3 nb mb2
                    generalize (wr.alloc (.cells #[.int .i64 xo, .int .i64 xa, .int .i64 xb, .int .u32 xc] 66)).alloc (.cells #[.int .i64 xo, .int .i64 xa] 2) = W8 at T1 XB7 KO7 ⊢
                    generalize wr.heap.size = xb0 at XB7 KO7 ⊢
                    refine (l3Put_any w.heap.size u3 cs2 2 (.slice (some ⟨xb0 + 1, 0, none⟩) 2 2) ([xo, xa]) (xb0 + 1) _ T1.out.bel.size (by omega) (by omega) (by simp) (by omega) T1.out.own KO7.out).mono ?_
                    rintro e wn ⟨Vn, rfl, bwn⟩
                    have Sn : Hid (EncAt w v p base wn Vn (cs2 ++ numsL 2 ([xo, xa]))) := T1.out.put bwn
                    have XBn : Hid (Blk wn xb0 #[.int .i64 xo, .int .i64 xa, .int .i64 xb, .int .u32 xc] 66) := XB7.out.grown bwn.grown T1.out.own (by decide)
                    clear bwn T1 XB7
                    have hln : (cs2 ++ numsL 2 ([xo, xa])).length ≤ cs2.length + ([xo, xa]).length * 2 := by rw [List.length_append, numsL_length]; exact Nat.le_refl _
                    generalize hCn : cs2 ++ numsL 2 ([xo, xa]) = csn at Sn hln
                    have HCCn : Hid (cs2 ++ numsL 2 ([xo, xa]) = csn) := hCn
                    clear hCn
                    clear KO7
                    simp only [List.length_cons, List.length_nil] at hln
                    obtain ⟨q0, q1, q2, q3⟩ := XBn.out.at4
                    go_wp2_with fail
                    clear q0 q1 q2 q3
                    refine (SPutNumber_in (xb) 1 _ (by omega) (by omega)).mono ?_
                    rintro e uo ⟨ro, rfl, owno, blo⟩
                    have Eo : Hid (EncAt w v p base uo Vn csn) := Sn.out.call blo
                    have XBco : Hid (Blk uo xb0 #[.int .i64 xo, .int .i64 xa, .int .i64 xb, .int .u32 xc] 66) := XBn.out.keep blo
                    obtain ⟨ado, cro, ero⟩ : ∃ ad c, ro = .slice (some ad) 1 c := own_some owno (by omega)
                    subst ero
                    have HCo : Hid (∀ j u', (numL (xb) 1)[j]? = some u' → uo.cell? (ado.add j) = some u') := own_cells owno
                    clear owno blo Sn
                    go_wp2_with (at_builtin; refine wpList_append_own _ rfl _ _ 29 rfl w.heap.size 5 i0 (.int .u8 0) 1 1 Tryz.underlying29 hi hz0 hz1 hz2 rfl (by decide) _ _ _ rfl Eo.out.own ado 1 cro (numL (xb) 1) rfl ?c1 ?c2 ?c3 ?c4 ?c5 ?c6 ?_)
                    case c1 => rw [numL_length]
                    case c2 => exact HCo.out
                    case c3 => exact numL_oneCell _ _
                    case c4 => unfold maxLen; omega
                    case c5 => omega
                    case c6 => exact Eo.out.bel.size
                    intro Vo wo hown' hgrow' hnil'
                    have So : Hid (EncAt w v p base wo Vo (csn ++ numL (xb) 1)) := Eo.out.more (by rw [List.length_append, numL_length]; exact hown') hgrow'
                    have XBo : Hid (Blk wo xb0 #[.int .i64 xo, .int .i64 xa, .int .i64 xb, .int .u32 xc] 66) := XBco.out.grown hgrow' Eo.out.own (by decide)
                    clear XBn XBco
                    clear hown' hgrow' hnil' Eo HCo
                    have hlo : (csn ++ numL (xb) 1).length ≤ csn.length + 1 := by rw [List.length_append, numL_length]; exact Nat.le_refl _
                    generalize hCo : csn ++ numL (xb) 1 = cso at So hlo
                    have HCCo : Hid (csn ++ numL (xb) 1 = cso) := hCo
                    clear hCo
                    obtain ⟨q0, q1, q2, q3⟩ := XBo.out.at4
                    go_wp2_with fail
                    clear q0 q1 q2 q3
                    refine (SPutNumber_in (xc) 4 _ (by omega) (by omega)).mono ?_
                    rintro e uq ⟨rq, rfl, ownq, blq⟩
                    have Eq : Hid (EncAt w v p base uq Vo cso) := So.out.call blq
                    have XBcq : Hid (Blk uq xb0 #[.int .i64 xo, .int .i64 xa, .int .i64 xb, .int .u32 xc] 66) := XBo.out.keep blq
                    obtain ⟨adq, crq, erq⟩ : ∃ ad c, rq = .slice (some ad) 4 c := own_some ownq (by omega)
                    subst erq
                    have HCq : Hid (∀ j u', (numL (xc) 4)[j]? = some u' → uq.cell? (adq.add j) = some u') := own_cells ownq
                    clear ownq blq So
                    go_wp2_with (at_builtin; refine wpList_append_own _ rfl _ _ 29 rfl w.heap.size 5 i0 (.int .u8 0) 1 1 Tryz.underlying29 hi hz0 hz1 hz2 rfl (by decide) _ _ _ rfl Eq.out.own adq 4 crq (numL (xc) 4) rfl ?c1 ?c2 ?c3 ?c4 ?c5 ?c6 ?_)
                    case c1 => rw [numL_length]
                    case c2 => exact HCq.out
                    case c3 => exact numL_oneCell _ _
                    case c4 => unfold maxLen; omega
                    case c5 => omega
                    case c6 => exact Eq.out.bel.size
                    intro Vq wq hown' hgrow' hnil'
                    have Sq : Hid (EncAt w v p base wq Vq (cso ++ numL (xc) 4)) := Eq.out.more (by rw [List.length_append, numL_length]; exact hown') hgrow'
                    have XBq : Hid (Blk wq xb0 #[.int .i64 xo, .int .i64 xa, .int .i64 xb, .int .u32 xc] 66) := XBcq.out.grown hgrow' Eq.out.own (by decide)
                    clear XBo XBcq
                    clear hown' hgrow' hnil' Eq HCq
                    have hlq : (cso ++ numL (xc) 4).length ≤ cso.length + 4 := by rw [List.length_append, numL_length]; exact Nat.le_refl _
                    generalize hCq : cso ++ numL (xc) 4 = csq at Sq hlq
                    have HCCq : Hid (cso ++ numL (xc) 4 = csq) := hCq
                    clear hCq
                    have HF : Hid (EncAt w v p base wq Vq (csm ++ (p.certs.take (k + 1)).flatMap encCert)) := by
                      show EncAt _ _ _ _ _ _ _
                      rw [take_next encCert HX2.out, ← List.append_assoc, HCS2.out, encCert, ← List.append_assoc, ← List.append_assoc, HCCn.out, HCCo.out, HCCq.out]
                      exact Sq.out
                    clear Sq XBq
                    go_wp2
                    go_roundw
                    case rel => exact ⟨k + 1, by omega, by go_num, HF⟩
                    case measure => simp [intOf]; omega
                  · have hkn : p.certs.length = k := by omega
                    subst hkn
                    have E8 : Hid (EncAt w v p base wr u3 (encBody p)) := by
                      show EncAt _ _ _ _ _ _ _
                      have := S0.out
                      rw [List.take_length] at this
                      rw [encBody, HC5.out, HCCc.out, HC6.out, HCCd.out, HC7.out, HCCm.out]
                      exact this
                    have hl8 : (csm ++ p.certs.flatMap encCert).length ≤ csm.length + p.certs.length * 9 := by rw [List.length_append, flat_length encCert 9 encCert_length]; exact Nat.le_refl _
                    have hl9 : (encBody p).length ≤ 300000 := by
                      rw [encBody, HC5.out, HCCc.out, HC6.out, HCCd.out, HC7.out, HCCm.out]
                      omega
                    have HZ : Hid ((bytesOf (encBody p)).map (Value.int .u8) = encBody p ∧ ∀ j, 0 ≤ (bytesOf (encBody p)).getD j 0 ∧ (bytesOf (encBody p)).getD j 0 ≤ 255) := bytesOf_all (encBody_bytes p)
                    clear hl8 S0
                    generalize hEB : encBody p = eb at E8 hl9 HZ
                    have HEB : Hid (encBody p = eb) := hEB
                    clear hEB
                    go_wp2_with fail
                    clear p0 p1 p2 p3
                    refine (SCrc_any u3 eb.length (bytesOf eb) wr (by omega) (by rw [HZ.out.1]; exact Reads.of_own E8.out.own) HZ.out.2).mono ?_
                    rintro e u9 ⟨rfl, rfl⟩
                    obtain ⟨t0, t1⟩ := toI_bd (~~~(crcTo (bytesOf eb) eb.length))
                    generalize hCR : toI (~~~(crcTo (bytesOf eb) eb.length)) = C at t0 t1 ⊢
                    have HCR : Hid (toI (~~~(crcTo (bytesOf eb) eb.length)) = C) := hCR
                    clear hCR
                    have hwC : wrap64 C = C := by unfold wrap64; omega
                    go_wp2_with fail
                    refine (SPutNumber_in (C) 4 _ (by omega) (by omega)).mono ?_
                    rintro e ur ⟨rr, rfl, ownr, blr⟩
                    have Er : Hid (EncAt w v p base ur u3 eb) := E8.out.call blr
                    obtain ⟨adr, crr, err⟩ : ∃ ad c, rr = .slice (some ad) 4 c := own_some ownr (by omega)
                    subst err
                    have HCr : Hid (∀ j u', (numL (C) 4)[j]? = some u' → ur.cell? (adr.add j) = some u') := own_cells ownr
                    clear ownr blr E8
                    go_wp2_with (at_builtin; refine wpList_append_own _ rfl _ _ 29 rfl w.heap.size 5 i0 (.int .u8 0) 1 1 Tryz.underlying29 hi hz0 hz1 hz2 rfl (by decide) _ _ _ rfl Er.out.own adr 4 crr (numL (C) 4) rfl ?c1 ?c2 ?c3 ?c4 ?c5 ?c6 ?_)
                    case c1 => rw [numL_length]
                    case c2 => exact HCr.out
                    case c3 => exact numL_oneCell _ _
                    case c4 => unfold maxLen; omega
                    case c5 => omega
                    case c6 => exact Er.out.bel.size
                    intro Vr wr hown' hgrow' hnil'
                    have Sr : Hid (EncAt w v p base wr Vr (eb ++ numL (C) 4)) := Er.out.more (by rw [List.length_append, numL_length]; exact hown') hgrow'
                    clear hown' hgrow' hnil' Er HCr
                    have hlr : (eb ++ numL (C) 4).length ≤ eb.length + 4 := by rw [List.length_append, numL_length]; exact Nat.le_refl _
                    generalize hCr : eb ++ numL (C) 4 = csr at Sr hlr
                    have HCCr : Hid (eb ++ numL (C) 4 = csr) := hCr
                    clear hCr
                    go_wp2
                    go_ret
                    exact ⟨_, rfl, Sr.out.bel, csr, .inl ⟨HF0.out, by rw [← HCCr.out, encode, HEB.out, HCR.out]⟩, Sr.out.own⟩
  · have HNF : Hid (¬ FaultIs p 0) := fun e => q0 (hn.one e)
    have q0' : (n == 0) = false := by simpa using q0
    have q0'' : (n != 0) = true := by simpa using q0
    go_wp2
    go_ret
    exact ⟨_, rfl, below_on HA.out.2.2 (Nat.le_refl _) (below_alloc _ _), [], .inr ⟨HNF.out, rfl⟩, rfl, .inr ⟨u1.heap.size, 0, #[], rfl, HA.out.2.2.size, Blk.new _ _ _, Nat.le_refl _, Nat.zero_le _, rfl, rfl⟩⟩
end Go.Proofs.YtmhggeljphfjfaaGreatDoor
