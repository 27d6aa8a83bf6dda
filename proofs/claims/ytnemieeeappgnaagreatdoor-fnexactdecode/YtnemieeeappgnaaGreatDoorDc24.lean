import Derived.Test.YtnemieeeappgnaaGreatDoorDc23
namespace Go.Proofs.YtnemieeeappgnaaGreatDoor
open Go.ChangeShapes Go.WideShapes Go.ChangeAt Go.RowKit
set_option linter.unusedVariables false
/-- A constant without a fault. -/
def ConstOk (c : MC) : Prop := isT c.type = true ∧ (c.type = 1 → c.word ≤ 1)
def ConstsOk (cs : List MC) : Prop := cs.length ≤ 64 ∧ ∀ j, j < cs.length → ∀ c, cs[j]? = some c → ConstOk c
theorem upto_next {α : Type} {q : α → Prop} {xs : List α} {k : Nat} {x : α} (h1 : xs[k]? = some x) (hx : q x) (h : ∀ j, j < k → ∀ c, xs[j]? = some c → q c) : ∀ j, j < k + 1 → ∀ c, xs[j]? = some c → q c := by
  intro j hj c hc
  by_cases e : j = k
  · subst e
    rw [h1] at hc
    exact (Option.some.inj hc) ▸ hx
  · exact h j (by omega) c hc
set_option maxHeartbeats 2000000 in
set_option maxRecDepth 100000 in
theorem l3Consts_any (v : VP) (p : MP) (w : World) (hs : p.small) (h : RdP w v p) :
    Calls Tryz.prog 25 #[.agg #[v.r, v.k, v.f, v.t]] w fun e w' => SaysIff e (ConstsOk p.consts) ∧ Below w.heap.size w w' := by
  have H1 : Hid (Rd w 2 v.k p.consts.length (p.consts.flatMap MC.cells)) := h.consts
  have hn := hs.consts
  obtain ⟨vr, vk, vf, vt⟩ := v
  obtain ⟨a1, c1, e1⟩ : ∃ a c, vk = .slice a p.consts.length c := h.consts.is_slice
  subst e1
  clear h hs
  have HW : Hid (Below w.heap.size w (w.alloc (.cells #[vr, .slice a1 p.consts.length c1, vf, vt] 28)) ∧ At4 (w.alloc (.cells #[vr, .slice a1 p.consts.length c1, vf, vt] 28)) w.heap.size vr (.slice a1 p.consts.length c1) vf vt) := ⟨below_alloc _ _, At4.new _ _ _ _ _ _⟩
  generalize hcs : p.consts = cs at *
  clear hcs
  generalize hLL : cs.length = n at hn H1 HW
  have HL : Hid (cs.length = n) := hLL
  clear hLL
  go_enter Tryz.func25, Tryz.ntmps25
  go_wp2
  go_loopw [3] (fun i wr => ∃ k : Nat, k ≤ n ∧ i = .int .i64 k ∧ Hid (∀ j, j < k → ∀ c, cs[j]? = some c → ConstOk c) ∧ Hid (Below w.heap.size w wr ∧ At4 wr w.heap.size vr (.slice a1 n c1) vf vt)) (fun i _ => n - (intOf i).toNat)
  case atStart => exact ⟨0, by omega, rfl, fun j hj => by omega, HW⟩
  case round =>
    clear HW
    obtain ⟨k, hk, rfl, HT, HW⟩ := hrel
    obtain ⟨p0, p1, p2, p3⟩ := HW.out.2
    by_cases hlt : k < n
    · obtain ⟨x, hx⟩ : ∃ x, cs[k]? = some x := ⟨_, List.getElem?_eq_getElem (by rw [HL.out]; exact hlt)⟩
      rcases H1.out.2 with ⟨e0, _⟩ | ⟨b, o, c, e1, hc1⟩
      · omega
      · simp only [Value.slice.injEq, true_and] at e1
        obtain ⟨rfl, rfl⟩ := e1
        have i0 := Rd.elem MC.cells_length hc1 k x hx 0 _ rfl
        have i1 := Rd.elem MC.cells_length hc1 k x hx 1 _ rfl
        rw [← HW.out.1.cell (block_lt_of_cell i0), Nat.add_zero] at i0
        rw [← HW.out.1.cell (block_lt_of_cell i1)] at i1
        have HX : Hid (cs[k]? = some x) := hx
        clear hc1 hx
        have nb : ¬ b = wr.heap.size := Nat.ne_of_lt (block_lt_of_cell i0)
        have mb : b < wr.heap.size := block_lt_of_cell i0
        have HW2 : Hid (Below w.heap.size w (wr.alloc (.cells #[.int .i64 x.type, .int .u32 x.word] 61)) ∧ At4 (wr.alloc (.cells #[.int .i64 x.type, .int .u32 x.word] 61)) w.heap.size vr (.slice (some ⟨b, o, none⟩) n c1) vf vt) := ⟨below_on HW.out.1 (Nat.le_refl _) (below_alloc _ _), HW.out.2.alloc _⟩
        go_wp2_with fail
        refine (l2Type_any x.type _).mono ?_
        rintro e u ⟨rfl, rfl⟩
        clear i0 i1 nb mb p0 p1 p2 p3
        cases t1 : isT x.type
        · have HN : Hid (¬ ConstsOk cs) := fun e => by have := (e.2 k (by rw [HL.out]; exact hlt) x HX.out).1; simp [t1] at this
          clear t1
          go_wp2
          go_ret
          exact ⟨.no HN.out, HW2.out.1⟩
        · have HT1 : Hid (isT x.type = true) := t1
          clear t1
          by_cases q1 : x.type = 1
          · rw [q1] at HW2
            by_cases q2 : 1 < x.word
            · have HN : Hid (¬ ConstsOk cs) := fun e => by have := (e.2 k (by rw [HL.out]; exact hlt) x HX.out).2 q1; omega
              go_wp2
              go_ret
              exact ⟨.no HN.out, HW2.out.1⟩
            · have HC : Hid (ConstOk x) := ⟨HT1.out, fun _ => by omega⟩
              go_wp2
              go_roundw
              case rel => exact ⟨k + 1, by omega, by go_num, upto_next HX.out HC.out HT.out, HW2⟩
              case measure => simp [intOf]; omega
          · have q1' : (x.type == 1) = false := by simpa using q1
            have HC : Hid (ConstOk x) := ⟨HT1.out, fun e => absurd e q1⟩
            go_wp2
            go_roundw
            case rel => exact ⟨k + 1, by omega, by go_num, upto_next HX.out HC.out HT.out, HW2⟩
            case measure => simp [intOf]; omega
    · have hkn : n = k := by omega
      subst hkn
      have HY : Hid (decide ((n : Int) ≤ 64) = true ↔ ConstsOk cs) := by
        show _ ↔ _
        rw [decide_eq_true_eq]
        exact ⟨fun e => ⟨by rw [HL.out]; omega, by rw [HL.out]; exact HT.out⟩, fun e => by have := e.1; rw [HL.out] at this; omega⟩
      go_wp2
      go_ret
      exact ⟨.of HY.out, HW.out.1⟩
end Go.Proofs.YtnemieeeappgnaaGreatDoor
