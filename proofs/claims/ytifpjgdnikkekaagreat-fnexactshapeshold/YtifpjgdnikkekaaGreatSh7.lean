import Derived.Test.YtifpjgdnikkekaaGreatSh6
namespace Go.Proofs.YtifpjgdnikkekaaGreat
open Go.ChangeShapes Go.WideShapes Go.ChangeAt Go.RowKit
set_option linter.unusedVariables false
/-- A constant without a fault. -/
def ConstOk (c : MC) : Prop := isT c.type = true ∧ (c.type = 1 → c.word ≤ 1)
def ConstsOk (cs : List MC) : Prop := cs.length ≤ 64 ∧ ∀ j, j < cs.length → ∀ c, cs[j]? = some c → ConstOk c
theorem upto_next {α : Type} {q : α → Prop} {xs : List α} {k : Nat} {x : α} (h1 : xs[k]? = some x) (hx : q x) (h : ∀ j, j < k → ∀ c, xs[j]? = some c → q c) : ∀ j, j < k + 1 → ∀ c, xs[j]? = some c → q c := by
  intro j hj c hc
  by_cases e : j = k
  · subst e
    rw [h1] at hc
    exact (Option.some.inj hc) ▸ hx
  · exact h j (by omega) c hc
set_option maxHeartbeats 2000000 in
set_option maxRecDepth 100000 in
theorem l3Consts_any (v : VP) (p : MP) (w : World) (hs : p.small) (h : RdP w v p) :
    Calls Tryz.prog 62 #[.agg #[v.r, v.k, v.f, v.t]] w fun e w' => SaysIff e (ConstsOk p.consts) ∧ Below w.heap.size w w' := by
  have H1 : Hid (Rd w 2 v.k p.consts.length (p.consts.flatMap MC.cells)) := h.consts
  have hn := hs.consts
  obtain ⟨vr, vk, vf, vt⟩ := v
  obtain ⟨a1, c1, e1⟩ : ∃ a c, vk = .slice a p.consts.length c := h.consts.is_slice
  subst e1
  clear h hs
  have HW : Hid (Below w.heap.size w (w.alloc (.cells #[vr, .slice a1 p.consts.length c1, vf, vt] 36)) ∧ At4 (w.alloc (.cells #[vr, .slice a1 p.consts.length c1, vf, vt] 36)) w.heap.size vr (.slice a1 p.consts.length c1) vf vt) := ⟨below_alloc _ _, At4.new _ _ _ _ _ _⟩
  generalize hcs : p.consts = cs at *
  clear hcs
  generalize hLL : cs.length = n at hn H1 HW
  have HL : Hid (cs.length = n) := hLL
  clear hLL
  go_enter Tryz.func62, Tryz.ntmps62
  go_wp2
  go_loopw [3] (fun i wr => ∃ k : Nat, k ≤ n ∧ i = .int .i64 k ∧ Hid (∀ j, j < k → ∀ c, cs[j]? = some c → ConstOk c) ∧ Hid (Below w.heap.size w wr ∧ At4 wr w.heap.size vr (.slice a1 n c1) vf vt)) (fun i _ => n - (intOf i).toNat)
  case atStart => exact ⟨0, by omega, rfl, fun j hj => by omega, HW⟩
  case round =>
    clear HW
    obtain ⟨k, hk, rfl, HT, HW⟩ := hrel
    obtain ⟨p0, p1, p2, p3⟩ := HW.out.2
    by_cases hlt : k < n
    · obtain ⟨x, hx⟩ : ∃ x, cs[k]? = some x := ⟨_, List.getElem?_eq_getElem (by rw [HL.out]; exact hlt)⟩
      rcases H1.out.2 with ⟨e0, _⟩ | ⟨b, o, c, e1, hc1⟩
      · omega
      · simp only [Value.slice.injEq, true_and] at e1
        obtain ⟨rfl, rfl⟩ := e1
        have i0 := Rd.elem MC.cells_length hc1 k x hx 0 _ rfl
        have i1 := Rd.elem MC.cells_length hc1 k x hx 1 _ rfl
        rw [← HW.out.1.cell (block_lt_of_cell i0), Nat.add_zero] at i0
        rw [← HW.out.1.cell (block_lt_of_cell i1)] at i1
        have HX : Hid (cs[k]? = some x) := hx
        clear hc1 hx
        have nb : ¬ b = wr.heap.size := Nat.ne_of_lt (block_lt_of_cell i0)
        have mb : b < wr.heap.size := block_lt_of_cell i0
        have HW2 : Hid (Below w.heap.size w (wr.alloc (.cells #[.int .i64 x.type, .int .u32 x.word] 128)) ∧ At4 (wr.alloc (.cells #[.int .i64 x.type, .int .u32 x.word] 128)) w.heap.size vr (.slice (some ⟨b, o, none⟩) n c1) vf vt) := ⟨below_on HW.out.1 (Nat.le_refl _) (below_alloc _ _), HW.out.2.alloc _⟩
        go_wp2_with fail
        refine (l2Type_any x.type _).mono ?_
        rintro e u ⟨rfl, rfl⟩
        clear i0 i1 nb mb p0 p1 p2 p3
        cases t1 : isT x.type
        · have HN : Hid (¬ ConstsOk cs) := fun e => by have := (e.2 k (by rw [HL.out]; exact hlt) x HX.out).1; simp [t1] at this
          clear t1
          go_wp2
          go_ret
          exact ⟨.no HN.out, HW2.out.1⟩
        · have HT1 : Hid (isT x.type = true) := t1
          clear t1
          by_cases q1 : x.type = 1
          · rw [q1] at HW2
            by_cases q2 : 1 < x.word
            · have HN : Hid (¬ ConstsOk cs) := fun e => by have := (e.2 k (by rw [HL.out]; exact hlt) x HX.out).2 q1; omega
              go_wp2
              go_ret
              exact ⟨.no HN.out, HW2.out.1⟩
            · have HC : Hid (ConstOk x) := ⟨HT1.out, fun _ => by omega⟩
              go_wp2
              go_roundw
              case rel => exact ⟨k + 1, by omega, by go_num, upto_next HX.out HC.out HT.out, HW2⟩
              case measure => simp [intOf]; omega
          · have q1' : (x.type == 1) = false := by simpa using q1
            have HC : Hid (ConstOk x) := ⟨HT1.out, fun e => absurd e q1⟩
            go_wp2
            go_roundw
            case rel => exact ⟨k + 1, by omega, by go_num, upto_next HX.out HC.out HT.out, HW2⟩
            case measure => simp [intOf]; omega
    · have hkn : n = k := by omega
      subst hkn
      have HY : Hid (decide ((n : Int) ≤ 64) = true ↔ ConstsOk cs) := by
        show _ ↔ _
        rw [decide_eq_true_eq]
        exact ⟨fun e => ⟨by rw [HL.out]; omega, by rw [HL.out]; exact HT.out⟩, fun e => by have := e.1; rw [HL.out] at this; omega⟩
      go_wp2
      go_ret
      exact ⟨.of HY.out, HW.out.1⟩
end Go.Proofs.YtifpjgdnikkekaaGreat
namespace Go.Proofs.YtifpjgdnikkekaaGreat
open Go.ChangeShapes Go.WideShapes Go.ChangeAt Go.RowKit
set_option linter.unusedVariables false
/-- A mask that may choose among cells. -/
structure MaskOk (p : MP) (a b c : Int) : Prop where
  low : 0 ≤ c
  high : c < 256
  mask : bits .and .i64 c (c + 1) = 0
  there : ¬ cellOf p a b = 0
  one : ∀ j : Nat, (j : Int) ≤ c → cellOf p a (b + j) = cellOf p a b
theorem cellOf_ne {p : MP} {r c : Int} (hs : ∀ l ∈ p.regions, l.length ≤ 1048576) (h : ¬ cellOf p r c = 0) : 0 ≤ c ∧ c < 1048576 := by
  unfold cellOf at h
  split at h
  · exact absurd rfl h
  · rename_i hq
    refine ⟨by omega, ?_⟩
    by_cases hr : r.toNat < p.regions.length
    · have hm := hs _ (List.getElem_mem hr)
      have e : p.regions.getD r.toNat [] = p.regions[r.toNat] := by rw [List.getD_eq_getElem?_getD, List.getElem?_eq_getElem hr]; rfl
      rw [e] at h
      by_cases hc : c.toNat < p.regions[r.toNat].length
      · omega
      · exact absurd (by rw [List.getD_eq_getElem?_getD, List.getElem?_eq_none (by omega)]; rfl) h
    · have e : p.regions.getD r.toNat [] = [] := by rw [List.getD_eq_getElem?_getD, List.getElem?_eq_none (by omega)]; rfl
      rw [e] at h
      exact absurd rfl h
theorem W64_of {z : Int} (h0 : -9223372036854775808 ≤ z) (h1 : z ≤ 9223372036854775807) : W64 z := by simp [W64, Lit.wf, IntKind.min, IntKind.max, IntKind.signed, IntKind.bits]; omega
theorem W64_in {z : Int} (h : W64 z) : -9223372036854775808 ≤ z ∧ z ≤ 9223372036854775807 := by simpa [W64, Lit.wf, IntKind.min, IntKind.max, IntKind.signed, IntKind.bits] using h
set_option maxHeartbeats 2000000 in
set_option maxRecDepth 100000 in
theorem l3Mask_any (v : VP) (p : MP) (op a b c : Int) (w : World) (hs : p.small) (h3 : p.regions.length = 3) (ha : W64 a) (hb : W64 b) (hc : W64 c) (h : RdP w v p) :
    Calls Tryz.prog 100 #[.agg #[v.r, v.k, v.f, v.t], .agg #[.int .i64 op, .int .i64 a, .int .i64 b, .int .i64 c]] w fun e w' => SaysIff e (MaskOk p a b c) ∧ Below w.heap.size w w' := by
  have HB : Hid (Below w.heap.size w ((w.alloc (.cells #[v.r, v.k, v.f, v.t] 36)).alloc (.cells #[.int .i64 op, .int .i64 a, .int .i64 b, .int .i64 c] 73))) := below_on (below_alloc _ _) (Nat.le_refl _) (below_alloc _ _)
  have HP : Hid (At4 ((w.alloc (.cells #[v.r, v.k, v.f, v.t] 36)).alloc (.cells #[.int .i64 op, .int .i64 a, .int .i64 b, .int .i64 c] 73)) w.heap.size v.r v.k v.f v.t) := (At4.new w _ _ _ _ _).alloc _
  have HX : Hid (At4 ((w.alloc (.cells #[v.r, v.k, v.f, v.t] 36)).alloc (.cells #[.int .i64 op, .int .i64 a, .int .i64 b, .int .i64 c] 73)) (w.heap.size + 1) (.int .i64 op) (.int .i64 a) (.int .i64 b) (.int .i64 c)) := by
    have := At4.new (w.alloc (.cells #[v.r, v.k, v.f, v.t] 36)) (.int .i64 op) (.int .i64 a) (.int .i64 b) (.int .i64 c) 73
    simpa [Hid] using this
  have H : Hid (p.small ∧ p.regions.length = 3 ∧ W64 a ∧ W64 b ∧ RdP w v p) := ⟨hs, h3, ha, hb, h⟩
  obtain ⟨c0, c1⟩ := W64_in hc
  clear hs h3 ha hb h hc
  by_cases q0 : c < 0
  · have HN : Hid (¬ MaskOk p a b c) := fun e => absurd e.low (by omega)
    clear H HP HX
    go_enter Tryz.func100, Tryz.ntmps100
    go_wp2
    go_ret
    exact ⟨.no HN.out, HB.out⟩
  by_cases q1 : 256 ≤ c
  · have HN : Hid (¬ MaskOk p a b c) := fun e => absurd e.high (by omega)
    clear H HP HX
    go_enter Tryz.func100, Tryz.ntmps100
    go_wp2
    go_ret
    exact ⟨.no HN.out, HB.out⟩
  obtain ⟨c, rfl⟩ := Int.eq_ofNat_of_zero_le (show 0 ≤ c by omega)
  have hcn : c < 256 := by omega
  clear c0 c1 q0 q1
  have q0 : ¬ (c : Int) < 0 := by omega
  have q1 : ¬ (256 : Int) ≤ (c : Int) := by omega
  by_cases q2 : bits .and .i64 (c : Int) ((c : Int) + 1) = 0
  · have HM : Hid (bits .and .i64 (c : Int) ((c : Int) + 1) = 0) := q2
    go_enter Tryz.func100, Tryz.ntmps100
    go_wp2_with fail
    clear q2 q0 q1
    refine (l3Cell_any v p a b _ H.out.1 H.out.2.1 H.out.2.2.1 H.out.2.2.2.1 (H.out.2.2.2.2.keep HB.out (Nat.le_refl _))).mono ?_
    rintro e u0 ⟨rfl, bl0⟩
    have HB1 : Hid (Below w.heap.size w u0 ∧ At4 u0 w.heap.size v.r v.k v.f v.t ∧ At4 u0 (w.heap.size + 1) (.int .i64 op) (.int .i64 a) (.int .i64 b) (.int .i64 (c : Int))) := ⟨below_on HB.out (Nat.le_refl _) bl0, HP.out.keep bl0, HX.out.keep bl0⟩
    clear bl0 HB HP HX
    generalize hT : cellOf p a b = T
    have HT : Hid (cellOf p a b = T) := hT
    clear hT
    go_wp2
    go_loopw [6] (fun i wr => ∃ k : Nat, k ≤ c + 1 ∧ i = .int .i64 k ∧ Hid ((0 < k → ¬ T = 0) ∧ ∀ j : Nat, j < k → cellOf p a (b + j) = T) ∧ Hid (Below w.heap.size w wr ∧ At4 wr w.heap.size v.r v.k v.f v.t ∧ At4 wr (w.heap.size + 1) (.int .i64 op) (.int .i64 a) (.int .i64 b) (.int .i64 (c : Int)))) (fun i _ => c + 1 - (intOf i).toNat)
    case atStart => exact ⟨0, by omega, rfl, ⟨fun h => by omega, fun j hj => by omega⟩, HB1⟩
    case round =>
      clear HB1
      obtain ⟨k, hk, rfl, HI, HW⟩ := hrel
      obtain ⟨p0, p1, p2, p3⟩ := HW.out.2.1
      obtain ⟨i0, i1, i2, i3⟩ := HW.out.2.2
      by_cases hlt : k < c + 1
      · have hlt' : (k : Int) ≤ (c : Int) := by omega
        by_cases q3 : T = 0
        · have q3' : (T == 0) = true := by simpa using q3
          have HN : Hid (¬ MaskOk p a b c) := fun e => e.there (HT.out.trans q3)
          clear q3
          go_wp2
          go_ret
          exact ⟨.no HN.out, HW.out.1⟩
        · have q3' : (T == 0) = false := by simpa using q3
          have hbb := cellOf_ne H.out.1.region (by rw [HT.out]; exact q3)
          obtain ⟨b0, b1⟩ := hbb
          have HQ3 : Hid (¬ T = 0) := q3
          clear q3
          go_wp2_with fail
          refine (l3Cell_any v p a (b + k) _ H.out.1 H.out.2.1 H.out.2.2.1 (W64_of (by omega) (by omega)) (H.out.2.2.2.2.keep HW.out.1 (Nat.le_refl _))).mono ?_
          rintro e u1 ⟨rfl, bl1⟩
          have HW2 : Hid (Below w.heap.size w u1 ∧ At4 u1 w.heap.size v.r v.k v.f v.t ∧ At4 u1 (w.heap.size + 1) (.int .i64 op) (.int .i64 a) (.int .i64 b) (.int .i64 (c : Int))) := ⟨below_on HW.out.1 (Nat.le_refl _) bl1, HW.out.2.1.keep bl1, HW.out.2.2.keep bl1⟩
          clear bl1 HW p0 p1 p2 p3 i0 i1 i2 i3
          by_cases q4 : cellOf p a (b + k) = T
          · rw [q4]
            have HI2 : Hid ((0 < k + 1 → ¬ T = 0) ∧ ∀ j : Nat, j < k + 1 → cellOf p a (b + j) = T) := ⟨fun _ => HQ3.out, fun j hj => by
              by_cases e : j = k
              · rw [e]; exact q4
              · exact HI.out.2 j (by omega)⟩
            clear q4
            go_wp2
            go_roundw
            case rel => exact ⟨k + 1, by omega, by go_num, HI2, HW2⟩
            case measure => simp [intOf]; omega
          · have HN : Hid (¬ MaskOk p a b c) := fun e => q4 ((e.one k hlt').trans HT.out)
            have q4' : (cellOf p a (b + k) == T) = false := by simpa using q4
            have q4'' : (cellOf p a (b + k) != T) = true := by simpa using q4
            go_wp2
            go_ret
            exact ⟨.no HN.out, HW2.out.1⟩
      · have hkn : k = c + 1 := by omega
        subst hkn
        have HY : Hid (MaskOk p a b c) := ⟨by omega, by omega, HM.out, by rw [HT.out]; exact HI.out.1 (by omega), fun j hj => by rw [HT.out]; exact HI.out.2 j (by omega)⟩
        have hle : ¬ ((c : Int) + 1) ≤ (c : Int) := by omega
        go_wp2
        go_ret
        exact ⟨.yes HY.out, HW.out.1⟩
  · have HN : Hid (¬ MaskOk p a b c) := fun e => q2 e.mask
    have q2' : (bits .and .i64 (c : Int) ((c : Int) + 1) == 0) = false := by simpa using q2
    clear H HP HX
    go_enter Tryz.func100, Tryz.ntmps100
    go_wp2
    go_ret
    exact ⟨.no HN.out, HB.out⟩
end Go.Proofs.YtifpjgdnikkekaaGreat
namespace Go.Proofs.YtifpjgdnikkekaaGreat
open Go.ChangeShapes Go.WideShapes Go.ChangeAt Go.RowKit
set_option linter.unusedVariables false
/-- A certificate of a function, a place and a local of type uint that are there. -/
def CertOk (p : MP) (c : MT) : Prop := ∃ f, p.funcs[c.func.toNat]? = some f ∧ 0 ≤ c.func ∧ 0 ≤ c.head ∧ c.head < f.code.length ∧ localOf f c.counter = 3
def Rises (d c : MT) : Prop := d.func < c.func ∨ d.func = c.func ∧ d.head < c.head
def CertAt (p : MP) (cs : List MT) (j : Nat) : Prop := ∀ c, cs[j]? = some c → CertOk p c ∧ ∀ i d, i + 1 = j → cs[i]? = some d → Rises d c
def CertsOk (p : MP) : Prop := p.certs.length ≤ 64 ∧ ∀ j, j < p.certs.length → CertAt p p.certs j
theorem certs_next {p : MP} {cs : List MT} {k : Nat} (hx : CertAt p cs k) (h : ∀ j, j < k → CertAt p cs j) : ∀ j, j < k + 1 → CertAt p cs j := by
  intro j hj
  by_cases e : j = k
  · subst e
    exact hx
  · exact h j (by omega)
set_option maxHeartbeats 4000000 in
set_option maxRecDepth 100000 in
theorem l3Certs_any (v : VP) (p : MP) (w : World) (hs : p.small) (hw : p.wf) (h : RdP w v p) :
    Calls Tryz.prog 65 #[.agg #[v.r, v.k, v.f, v.t]] w fun e w' => SaysIff e (CertsOk p) ∧ Below w.heap.size w w' := by
  obtain ⟨vr, vk, vf, vt⟩ := v
  have H1 : Hid (Rd w 4 vt p.certs.length (p.certs.flatMap MT.cells)) := h.certs
  obtain ⟨xs, hxs, hrd, hel⟩ := h.funcs
  simp only [] at hrd
  have hxl : xs.length = p.funcs.length := by rw [← hxs]; simp
  have H2 : Hid (Rd w 4 vf p.funcs.length (xs.flatMap fCells) ∧ xs.map Prod.fst = p.funcs ∧ (∀ x ∈ xs, RdF w x.2 x.1) ∧ (∀ f ∈ p.funcs, f.small) ∧ xs.length = p.funcs.length) := ⟨hrd, hxs, hel, hs.func, hxl⟩
  have hn := hs.certs
  have hm := hs.funcs
  obtain ⟨a1, c1, e1⟩ : ∃ a c, vt = .slice a p.certs.length c := h.certs.is_slice
  obtain ⟨a2, c2, e2⟩ := hrd.is_slice
  subst e1 e2
  have HV : Hid p.wf := hw
  clear h hs hrd hxs hel hxl hw
  have HW : Hid (Below w.heap.size w (w.alloc (.cells #[vr, vk, .slice a2 p.funcs.length c2, .slice a1 p.certs.length c1] 36)) ∧ At4 (w.alloc (.cells #[vr, vk, .slice a2 p.funcs.length c2, .slice a1 p.certs.length c1] 36)) w.heap.size vr vk (.slice a2 p.funcs.length c2) (.slice a1 p.certs.length c1)) := ⟨below_alloc _ _, At4.new _ _ _ _ _ _⟩
  generalize hcs : p.certs.length = n at *
  generalize hfs : p.funcs.length = m at *
  have HL : Hid (p.certs.length = n ∧ p.funcs.length = m) := ⟨hcs, hfs⟩
  clear hcs hfs
  go_enter Tryz.func65, Tryz.ntmps65
  go_wp2
  go_loopw [3] (fun i wr => ∃ k : Nat, k ≤ n ∧ i = .int .i64 k ∧ Hid (∀ j, j < k → CertAt p p.certs j) ∧ Hid (Below w.heap.size w wr ∧ At4 wr w.heap.size vr vk (.slice a2 m c2) (.slice a1 n c1))) (fun i _ => n - (intOf i).toNat)
  case atStart => exact ⟨0, by omega, rfl, fun j hj => by omega, HW⟩
  case round =>
    clear HW
    obtain ⟨k, hk, rfl, HT, HW⟩ := hrel
    obtain ⟨p0, p1, p2, p3⟩ := HW.out.2
    by_cases hlt : k < n
    · obtain ⟨x, hx⟩ : ∃ x, p.certs[k]? = some x := ⟨_, List.getElem?_eq_getElem (by rw [HL.out.1]; exact hlt)⟩
      have hxw := HV.out.certs x (List.mem_of_getElem? hx)
      rcases H1.out.2 with ⟨e0, _⟩ | ⟨b, o, c, e1, hc1⟩
      · omega
      simp only [Value.slice.injEq, true_and] at e1
      obtain ⟨rfl, rfl⟩ := e1
      have i0 := Rd.elem MT.cells_length hc1 k x hx 0 _ rfl
      have i1 := Rd.elem MT.cells_length hc1 k x hx 1 _ rfl
      have i2 := Rd.elem MT.cells_length hc1 k x hx 2 _ rfl
      have i3 := Rd.elem MT.cells_length hc1 k x hx 3 _ rfl
      rw [← HW.out.1.cell (block_lt_of_cell i0), Nat.add_zero] at i0
      rw [← HW.out.1.cell (block_lt_of_cell i1)] at i1
      rw [← HW.out.1.cell (block_lt_of_cell i2)] at i2
      rw [← HW.out.1.cell (block_lt_of_cell i3)] at i3
      have HX : Hid (p.certs[k]? = some x) := hx
      have HC : Hid (∀ j u, (p.certs.flatMap MT.cells)[j]? = some u → w.cell? ⟨b, o + j, none⟩ = some u) := hc1
      clear hc1 hx
      obtain ⟨fu, hd, co, ini⟩ := x
      simp only [] at i0 i1 i2 i3
      obtain ⟨x0, x1⟩ := W64_in hxw.1
      obtain ⟨x2, x3⟩ := W64_in hxw.2.1
      have HCO : Hid (W64 co) := hxw.2.2.1
      clear hxw
      have nb : ¬ b = wr.heap.size := Nat.ne_of_lt (block_lt_of_cell i0)
      have mb : b < wr.heap.size := block_lt_of_cell i0
      have np : ¬ w.heap.size = wr.heap.size := Nat.ne_of_lt HW.out.2.lt
      have mp : w.heap.size < wr.heap.size := HW.out.2.lt
      have HW1 : Hid (Below w.heap.size w (wr.alloc (.cells #[.int .i64 fu, .int .i64 hd, .int .i64 co, .int .u32 ini] 100)) ∧ At4 (wr.alloc (.cells #[.int .i64 fu, .int .i64 hd, .int .i64 co, .int .u32 ini] 100)) w.heap.size vr vk (.slice a2 m c2) (.slice (some ⟨b, o, none⟩) n c1) ∧ At4 (wr.alloc (.cells #[.int .i64 fu, .int .i64 hd, .int .i64 co, .int .u32 ini] 100)) wr.heap.size (.int .i64 fu) (.int .i64 hd) (.int .i64 co) (.int .u32 ini)) := ⟨below_on HW.out.1 (Nat.le_refl _) (below_alloc _ _), HW.out.2.alloc _, At4.new _ _ _ _ _ _⟩
      by_cases q0 : fu < 0
      · have HN : Hid (¬ CertsOk p) := fun e => by obtain ⟨⟨f, h1, h2, _⟩, _⟩ := e.2 k (by rw [HL.out.1]; exact hlt) _ HX.out; simp only [] at h2; omega
        go_wp2
        go_ret
        exact ⟨.no HN.out, HW1.out.1⟩
      obtain ⟨fn, rfl⟩ := Int.eq_ofNat_of_zero_le (show 0 ≤ fu by omega)
      clear x0 x1
      by_cases q1 : m ≤ fn
      · have HN : Hid (¬ CertsOk p) := fun e => by
          obtain ⟨⟨f, h1, h2, _⟩, _⟩ := e.2 k (by rw [HL.out.1]; exact hlt) _ HX.out
          have := (List.getElem?_eq_some_iff.1 h1).1
          simp only [] at this
          rw [HL.out.2] at this
          omega
        have q1' : ¬ (fn : Int) < (m : Int) := by omega
        have q1'' : (m : Int) ≤ (fn : Int) := by omega
        go_wp2
        go_ret
        exact ⟨.no HN.out, HW1.out.1⟩
      have q1' : ¬ (m : Int) ≤ (fn : Int) := by omega
      obtain ⟨⟨f, v⟩, hy⟩ : ∃ y, xs[fn]? = some y := ⟨_, List.getElem?_eq_getElem (by rw [H2.out.2.2.2.2]; omega)⟩
      have e1 := fst_at H2.out.2.1 hy
      have HF : Hid (RdF wr v f ∧ f.small ∧ p.funcs[fn]? = some f) := ⟨(H2.out.2.2.1 _ (List.mem_of_getElem? hy)).keep HW.out.1 (Nat.le_refl _), H2.out.2.2.2.1 _ (List.mem_of_getElem? e1), e1⟩
      clear e1
      rcases H2.out.1.2 with ⟨e0, _⟩ | ⟨b', o', c', e1, hc2⟩
      · omega
      simp only [Value.slice.injEq, true_and] at e1
      obtain ⟨rfl, rfl⟩ := e1
      have j0 := Rd.elem fCells_length hc2 fn _ hy 0 _ rfl
      have j1 := Rd.elem fCells_length hc2 fn _ hy 1 _ rfl
      have j2 := Rd.elem fCells_length hc2 fn _ hy 2 _ rfl
      have j3 := Rd.elem fCells_length hc2 fn _ hy 3 _ rfl
      rw [← HW.out.1.cell (block_lt_of_cell j0), Nat.add_zero] at j0
      rw [← HW.out.1.cell (block_lt_of_cell j1)] at j1
      rw [← HW.out.1.cell (block_lt_of_cell j2)] at j2
      rw [← HW.out.1.cell (block_lt_of_cell j3)] at j3
      clear hc2 hy
      simp only [] at j0 j1 j2 j3
      obtain ⟨ap, cp, ep⟩ := HF.out.1.1.is_slice
      obtain ⟨al, cl, el⟩ := HF.out.1.2.1.is_slice
      obtain ⟨ac, cc, ec⟩ := HF.out.1.2.2.is_slice
      obtain ⟨vp, vl, vc⟩ := v
      simp only [] at ep el ec j0 j1 j2 j3
      subst ep el ec
      have nb' : ¬ b' = wr.heap.size := Nat.ne_of_lt (block_lt_of_cell j0)
      have mb' : b' < wr.heap.size := block_lt_of_cell j0
      have hcl := HF.out.2.1.2.2
      have HW2 : Hid (Below w.heap.size w ((wr.alloc (.cells #[.int .i64 (fn : Int), .int .i64 hd, .int .i64 co, .int .u32 ini] 100)).alloc (.cells #[.slice ap f.params.length cp, .int .i64 f.result, .slice al f.locals.length cl, .slice ac f.code.length cc] 63))) := below_on HW1.out.1 (Nat.le_refl _) (below_alloc _ _)
      by_cases q2 : hd < 0
      · have HN : Hid (¬ CertsOk p) := fun e => by obtain ⟨⟨f, h1, h2, h3, _⟩, _⟩ := e.2 k (by rw [HL.out.1]; exact hlt) _ HX.out; simp only [] at h3; omega
        go_wp2
        go_ret
        exact ⟨.no HN.out, HW2.out⟩
      by_cases q3 : (f.code.length : Int) ≤ hd
      · have HN : Hid (¬ CertsOk p) := fun e => by
          obtain ⟨⟨g, h1, h2, h3, h4, _⟩, _⟩ := e.2 k (by rw [HL.out.1]; exact hlt) _ HX.out
          simp only [Int.toNat_natCast] at h1 h4
          rw [HF.out.2.2] at h1
          obtain rfl := Option.some.inj h1
          omega
        go_wp2
        go_ret
        exact ⟨.no HN.out, HW2.out⟩
      go_wp2_with fail
      refine (l3Local_any ⟨.slice ap f.params.length cp, .slice al f.locals.length cl, .slice ac f.code.length cc⟩ f co _ HF.out.2.1 HCO.out (HF.out.1.keep (below_on (below_alloc _ _) (Nat.le_refl _) (below_alloc _ _)) (Nat.le_refl _))).mono ?_
      rintro e u ⟨rfl, bl⟩
      have HW3 : Hid (Below w.heap.size w u ∧ At4 u w.heap.size vr vk (.slice (some ⟨b', o', none⟩) m c2) (.slice (some ⟨b, o, none⟩) n c1) ∧ At4 u wr.heap.size (.int .i64 (fn : Int)) (.int .i64 hd) (.int .i64 co) (.int .u32 ini)) := ⟨below_on HW2.out (Nat.le_refl _) bl, (HW1.out.2.1.alloc _).keep bl, (HW1.out.2.2.alloc _).keep bl⟩
      clear bl HW1 HW2 i0 i1 i2 i3 j0 j1 j2 j3 p0 p1 p2 p3 nb mb nb' mb' np mp
      by_cases q4 : localOf f co = 3
      · rw [q4]
        have HOK : Hid (CertOk p ⟨(fn : Int), hd, co, ini⟩) := ⟨f, by simp only [Int.toNat_natCast]; exact HF.out.2.2, by simp only []; omega, by simp only []; omega, by simp only []; omega, q4⟩
        clear q4
        by_cases q5 : k = 0
        · subst q5
          have HA : Hid (CertAt p p.certs 0) := fun c hc => by
            rw [HX.out] at hc
            obtain rfl := Option.some.inj hc
            exact ⟨HOK.out, fun i d hi => by omega⟩
          go_wp2
          go_quiet (fail)
          go_wp2
          go_roundw
          case rel => exact ⟨1, by omega, by go_num, certs_next HA.out HT.out, ⟨HW3.out.1.trans (below_drewN _ _ _), HW3.out.2.1.keep (below_drewN _ _ _)⟩⟩
          case measure => simp [intOf]; omega
        · obtain ⟨i, rfl⟩ : ∃ i, k = i + 1 := ⟨k - 1, by omega⟩
          obtain ⟨d, hd'⟩ : ∃ d, p.certs[i]? = some d := ⟨_, List.getElem?_eq_getElem (by rw [HL.out.1]; omega)⟩
          have y0 := Rd.elem MT.cells_length HC.out i d hd' 0 _ rfl
          have y1 := Rd.elem MT.cells_length HC.out i d hd' 1 _ rfl
          rw [← HW3.out.1.cell (block_lt_of_cell y0), Nat.add_zero] at y0
          rw [← HW3.out.1.cell (block_lt_of_cell y1)] at y1
          obtain ⟨p0, p1, p2, p3⟩ := HW3.out.2.1
          obtain ⟨r0, r1, r2, r3⟩ := HW3.out.2.2
          obtain ⟨dfu, dhd, dco, dini⟩ := d
          simp only [] at y0 y1
          have HD : Hid (p.certs[i]? = some ⟨dfu, dhd, dco, dini⟩) := hd'
          clear hd'
          have hki : ((i + 1 : Nat) : Int) - 1 = (i : Int) := by omega
          have hkp : (0 : Int) < ((i + 1 : Nat) : Int) := by omega
          by_cases q6 : (fn : Int) < dfu
          · have HN : Hid (¬ CertsOk p) := fun e => by
              have := (e.2 (i + 1) (by rw [HL.out.1]; exact hlt) _ HX.out).2 i _ rfl HD.out
              simp only [Rises] at this
              omega
            go_wp2
            go_quiet (fail)
            go_wp2
            go_ret
            exact ⟨.no HN.out, HW3.out.1.trans (below_drewN _ _ _)⟩
          by_cases q7 : dfu = (fn : Int)
          · subst q7
            by_cases q8 : hd ≤ dhd
            · have HN : Hid (¬ CertsOk p) := fun e => by
                have := (e.2 (i + 1) (by rw [HL.out.1]; exact hlt) _ HX.out).2 i _ rfl HD.out
                simp only [Rises] at this
                omega
              go_wp2
              go_quiet (fail)
              go_wp2
              go_ret
              exact ⟨.no HN.out, HW3.out.1.trans (below_drewN _ _ _)⟩
            · have HA : Hid (CertAt p p.certs (i + 1)) := fun c hc => by
                rw [HX.out] at hc
                obtain rfl := Option.some.inj hc
                refine ⟨HOK.out, fun i' d' hi hd' => ?_⟩
                obtain rfl : i' = i := by omega
                rw [HD.out] at hd'
                obtain rfl := Option.some.inj hd'
                unfold Rises
                dsimp only
                omega
              go_wp2
              go_quiet (fail)
              go_wp2
              go_roundw
              case rel => exact ⟨i + 1 + 1, by omega, by go_num, certs_next HA.out HT.out, ⟨HW3.out.1.trans (below_drewN _ _ _), HW3.out.2.1.keep (below_drewN _ _ _)⟩⟩
              case measure => simp [intOf]; omega
          · have q7' : (dfu == (fn : Int)) = false := by simpa using q7
            have q6' : decide ((fn : Int) < dfu) = false := by simpa using q6
            have q9 : dfu < (fn : Int) := by omega
            have HA : Hid (CertAt p p.certs (i + 1)) := fun c hc => by
              rw [HX.out] at hc
              obtain rfl := Option.some.inj hc
              refine ⟨HOK.out, fun i' d' hi hd' => ?_⟩
              obtain rfl : i' = i := by omega
              rw [HD.out] at hd'
              obtain rfl := Option.some.inj hd'
              unfold Rises
              dsimp only
              omega
            go_wp2
            go_quiet (fail)
            go_wp2
            go_roundw
            case rel => exact ⟨i + 1 + 1, by omega, by go_num, certs_next HA.out HT.out, ⟨HW3.out.1.trans (below_drewN _ _ _), HW3.out.2.1.keep (below_drewN _ _ _)⟩⟩
            case measure => simp [intOf]; omega
      · have HN : Hid (¬ CertsOk p) := fun e => by
          obtain ⟨⟨g, h1, h2, h3, h4, h5⟩, _⟩ := e.2 k (by rw [HL.out.1]; exact hlt) _ HX.out
          simp only [Int.toNat_natCast] at h1 h5
          rw [HF.out.2.2] at h1
          obtain rfl := Option.some.inj h1
          exact q4 h5
        have q4' : (localOf f co == 3) = false := by simpa using q4
        have q4'' : (localOf f co != 3) = true := by simpa using q4
        go_wp2
        go_ret
        exact ⟨.no HN.out, HW3.out.1⟩
    · have hkn : n = k := by omega
      subst hkn
      have HY : Hid (decide ((n : Int) ≤ 64) = true ↔ CertsOk p) := by
        show _ ↔ _
        rw [decide_eq_true_eq]
        exact ⟨fun e => ⟨by rw [HL.out.1]; omega, by rw [HL.out.1]; exact HT.out⟩, fun e => by have := e.1; rw [HL.out.1] at this; omega⟩
      go_wp2
      go_ret
      exact ⟨.of HY.out, HW.out.1⟩
end Go.Proofs.YtifpjgdnikkekaaGreat
