import Derived.Test.YtdbaghmjomdmbaaFo20
import Derived.Deep.AppendLies
namespace Go.Proofs.Ytdbaghmjomdmbaa
open Go.ChangeShapes Go.WideShapes Go.ChangeAt Go.RowKit
set_option linter.unusedVariables false
theorem w64_nat {x : Nat} (h : x ≤ 1048576) : W64 (x : Int) := by
  simp [W64, Lit.wf, IntKind.min, IntKind.max, IntKind.signed, IntKind.bits]
  omega
set_option maxHeartbeats 8000000 in
set_option maxRecDepth 100000 in
theorem walk_any (w : World) (g o c n bm bs be bw bl : Nat) (E : Nat → List Nat) (hn : n ≤ 1024) (hE : ∀ b, b < n → ∀ x ∈ E b, x < n) (hsz : ∀ b, (E b).length ≤ 2048) (h : EdAt w g o n E) :
    ∀ (m : Nat) (S O : List Nat) (b : Nat) (V : Value) (u : World), unseen S n = m → b < n → PO w u n bm bs be bw bl (.slice (some ⟨g, o, none⟩) n c) V S O → (b ∉ S → O.length + unseen S n ≤ n) →
    Calls Try.prog 61 #[.int .i64 (b : Int), .pointer (some ⟨bs, 0, none⟩), .pointer (some ⟨be, 0, none⟩), .pointer (some ⟨bw, 0, none⟩), .pointer (some ⟨bl, 0, none⟩)] u fun e u' => e = .returned (.tuple #[]) ∧ ∃ V' S' O', Vs E S O [b] S' O' ∧ PO w u' n bm bs be bw bl (.slice (some ⟨g, o, none⟩) n c) V' S' O' ∧ O'.length + unseen S' n ≤ O.length + unseen S n := by
  obtain ⟨k0, hk, hx0, hx1, hx2⟩ := info_parts info64
  have H : Hid (EdAt w g o n E ∧ (∀ b, b < n → ∀ x ∈ E b, x < n) ∧ (∀ b, (E b).length ≤ 2048)) := ⟨h, hE, hsz⟩
  clear h hE hsz
  intro m
  induction m using Nat.strongRecOn with
  | ind m ih =>
    intro S O b V u hm hb hpo hlen
    have IH : Hid (∀ m', m' < m → ∀ (S O : List Nat) (b : Nat) (V : Value) (u : World), unseen S n = m' → b < n → PO w u n bm bs be bw bl (.slice (some ⟨g, o, none⟩) n c) V S O → (b ∉ S → O.length + unseen S n ≤ n) →
      Calls Try.prog 61 #[.int .i64 (b : Int), .pointer (some ⟨bs, 0, none⟩), .pointer (some ⟨be, 0, none⟩), .pointer (some ⟨bw, 0, none⟩), .pointer (some ⟨bl, 0, none⟩)] u fun e u' => e = .returned (.tuple #[]) ∧ ∃ V' S' O', Vs E S O [b] S' O' ∧ PO w u' n bm bs be bw bl (.slice (some ⟨g, o, none⟩) n c) V' S' O' ∧ O'.length + unseen S' n ≤ O.length + unseen S n) := ih
    have HP : Hid (PO w u n bm bs be bw bl (.slice (some ⟨g, o, none⟩) n c) V S O) := hpo
    obtain ⟨cnt, D, hs, hcn, hD⟩ := hpo.set
    have HS : Hid (SetAt u bm cnt D ∧ cnt + unseen S n ≤ n + 1 ∧ ∀ x : Nat, Go.Maps.has D (.int .i64 (x : Int)) = S.contains x) := ⟨hs, hcn, hD⟩
    have hDb := hD b
    have s0 : u.cell? ⟨bs, 0, none⟩ = some (.map (some bm)) := hpo.sb.cell 0
    have hbI : (b : Int) < (n : Int) := by omega
    clear ih hpo hs hD
    go_enter Try.func61, Try.ntmps61
    go_wp2_with fail
    refine (has_any bm cnt D (b : Int) u (w64_nat (by omega)) HS.out.1).mono ?_
    rintro e u1 ⟨rfl, b1⟩
    rw [hDb]
    have HP1 : Hid (PO w u1 n bm bs be bw bl (.slice (some ⟨g, o, none⟩) n c) V S O ∧ SetAt u1 bm cnt D) := ⟨HP.out.keep b1, HS.out.1.keep b1⟩
    clear b1 s0 hDb
    cases hc : S.contains b
    · have hbS : b ∉ S := by simpa using hc
      have hu1 := unseen_cons S n b hb hbS
      have HU1 : Hid (unseen (b :: S) n + 1 = unseen S n ∧ unseen S n = m ∧ O.length + unseen S n ≤ n) := ⟨hu1, hm, hlen hbS⟩
      clear hu1 hm hlen
      have s0 : u1.cell? ⟨bs, 0, none⟩ = some (.map (some bm)) := HP1.out.1.sb.cell 0
      have HA : Hid ((u1.alloc (.cells #[.int .i64 (b : Int)] 2)).cell? ⟨u1.heap.size, 0, none⟩ = some (.int .i64 (b : Int)) ∧ SetAt (u1.alloc (.cells #[.int .i64 (b : Int)] 2)) bm cnt D ∧ PO w (u1.alloc (.cells #[.int .i64 (b : Int)] 2)) n bm bs be bw bl (.slice (some ⟨g, o, none⟩) n c) V S O ∧ ¬ u1.heap.size = bm) := ⟨(Blk.new u1 #[.int .i64 (b : Int)] 2).cell 0, HP1.out.2.keep (below_alloc _ _), HP1.out.1.keep (below_alloc _ _), by have := World.ownsMap.lt HP1.out.2; omega⟩
      go_wp2_with fail
      refine (add_one bm cnt u1.heap.size 1 D (b : Int) _ (w64_nat (by omega)) (by have := HS.out.2.1; omega) HA.out.1 HA.out.2.2.2 HA.out.2.1).mono ?_
      rintro e u2 ⟨rfl, s2, g2⟩
      have HP2 : Hid (PO w u2 n bm bs be bw bl (.slice (some ⟨g, o, none⟩) n c) V (b :: S) O) := HA.out.2.2.1.add HA.out.2.1 HS.out.2.1 HS.out.2.2 hb hbS s2 g2
      clear s2 g2 s0 HA HP1 HS HP hcn
      obtain ⟨a, ca, g0, g1⟩ := H.out.1 b hb
      have HG : Hid (w.cell? ⟨g, o + b, none⟩ = some (.slice a (E b).length ca) ∧ RdN w (.slice a (E b).length ca) (E b)) := ⟨g0, g1⟩
      replace g0 := bcell_keep HP2.out.bel g0
      have e0 : u2.cell? ⟨be, 0, none⟩ = some (.slice (some ⟨g, o, none⟩) n c) := HP2.out.eb.cell 0
      have hE2 := H.out.2.2 b
      clear g1
      go_wp2
      go_loopw [20] (fun i wr => ∃ (S' O' : List Nat) (V' : Value) (k : Nat), i = .int .i64 k ∧ k ≤ (E b).length ∧ Hid (Vs E (b :: S) O ((E b).take k) S' O' ∧ PO w wr n bm bs be bw bl (.slice (some ⟨g, o, none⟩) n c) V' S' O' ∧ O'.length + unseen S' n + 1 ≤ O.length + unseen S n)) (fun i _ => (E b).length - (intOf i).toNat)
      case atStart => exact ⟨b :: S, O, V, 0, rfl, by omega, by simpa using Vs.nil (b :: S) O, HP2.out, by have := HU1.out; omega⟩
      case round =>
        clear HP2 g0 e0
        obtain ⟨S', O', V', k, rfl, hkE, HL⟩ := hrel
        by_cases hlt : k < (E b).length
        · have hltI : (k : Int) < ((E b).length : Int) := by omega
          obtain ⟨y, hy⟩ : ∃ y, (E b)[k]? = some y := ⟨_, List.getElem?_eq_getElem hlt⟩
          have hyn : y < n := H.out.2.1 b hb y (List.mem_of_getElem? hy)
          obtain ⟨ga, oa, rfl, _, y0⟩ := HG.out.2.at_ hy
          replace y0 := bcell_keep HL.out.2.1.bel y0
          have f0 : wr.cell? ⟨bw, 0, none⟩ = some (.func (.func 61) #[] #[.pointer (some ⟨bs, 0, none⟩), .pointer (some ⟨be, 0, none⟩), .pointer (some ⟨bw, 0, none⟩), .pointer (some ⟨bl, 0, none⟩)]) := HL.out.2.1.wb.cell 0
          have HT : Hid ((E b).take (k + 1) = (E b).take k ++ [y]) := by
            obtain ⟨hl, rfl⟩ := List.getElem?_eq_some_iff.1 hy
            exact List.take_succ_eq_append_getElem hl
          have hmo := HL.out.1.more
          have hun := unseen_mono n hmo
          have HC : Hid (Calls Try.prog 61 #[.int .i64 (y : Int), .pointer (some ⟨bs, 0, none⟩), .pointer (some ⟨be, 0, none⟩), .pointer (some ⟨bw, 0, none⟩), .pointer (some ⟨bl, 0, none⟩)] wr fun e u' => e = .returned (.tuple #[]) ∧ ∃ V'' S'' O'', Vs E S' O' [y] S'' O'' ∧ PO w u' n bm bs be bw bl (.slice (some ⟨g, o, none⟩) n c) V'' S'' O'' ∧ O''.length + unseen S'' n ≤ O'.length + unseen S' n) := IH.out (unseen S' n) (by have := HU1.out; omega) S' O' y V' wr rfl hyn HL.out.2.1 (fun _ => by have := HL.out.2.2; have := HU1.out; omega)
          clear hy hmo hun
          go_wp2_with fail
          refine HC.out.mono ?_
          rintro e u3 ⟨rfl, V3, S3, O3, hv3, hp3, hl3⟩
          have HN : Hid (Vs E (b :: S) O ((E b).take (k + 1)) S3 O3 ∧ PO w u3 n bm bs be bw bl (.slice (some ⟨g, o, none⟩) n c) V3 S3 O3 ∧ O3.length + unseen S3 n + 1 ≤ O.length + unseen S n) := by
            refine ⟨?_, hp3, by have := HL.out.2.2; omega⟩
            rw [HT.out]
            exact HL.out.1.app hv3
          clear hv3 hp3 hl3 y0 f0 HC
          go_wp2
          go_roundw
          case rel => exact ⟨S3, O3, V3, k + 1, by go_num, by omega, HN⟩
          case measure => simp [intOf]; omega
        · obtain rfl : k = (E b).length := by omega
          obtain ⟨aV, cV, rfl⟩ := own_slice HL.out.2.1.list
          have hO3 := HU1.out
          have hO4 := HL.out.2.2
          go_upto_region 7 with fail
          refine wp_world (fun u => Hid (PO w u n bm bs be bw bl (.slice (some ⟨g, o, none⟩) n c) (.slice aV O'.length cV) S' O')) HL.out.2.1 ?_
          intro U HU
          have l0 : U.cell? ⟨bl, 0, none⟩ = some (.slice aV O'.length cV) := HU.out.lb.cell 0
          go_wp2_with (at_builtin; refine wpList_append_lies _ rfl _ _ 33 rfl w.heap.size 2 k0 (.int .i64 0) 1 8 Try.underlying33 hk hx0 hx1 hx2 rfl (by decide) _ O'.length (nv O') rfl (HU.out.al (.cells #[.int .i64 (b : Int)] 2)).1 ⟨U.heap.size, 0, none⟩ 1 1 [.int .i64 (b : Int)] rfl rfl (one_cell U (b : Int)) (fun u hu => by simp at hu; subst hu; rfl) (by omega) (by simp [maxLen]; omega) (by omega) (HU.out.al (.cells #[.int .i64 (b : Int)] 2)).2 _ rfl ?_; intro g5 cap5 w5 hown hgrow hat hlt9; obtain ⟨kb5, l5⟩ := HU.out.app hown hgrow (by omega); have HU5 : Hid (PO w (w5.setCell ⟨bl, 0, none⟩ (.slice (some ⟨g5, 0, none⟩) (O'.length + 1) cap5)) n bm bs be bw bl (.slice (some ⟨g, o, none⟩) n c) (.slice (some ⟨g5, 0, none⟩) (O'.length + 1) cap5) S' (O' ++ [b])) := l5; have t5 : w5.cell? ⟨bl, 0, none⟩ = some (.slice aV O'.length cV) := kb5.cell 0; have z5 := kb5.frozen 0; clear hown hgrow hat hlt9 kb5 l5)
          go_end0
          refine ⟨rfl, _, S', O' ++ [b], ?_, HU5.out, by rw [List.length_append, List.length_singleton]; omega⟩
          have := HL.out.1
          rw [List.take_of_length_le (Nat.le_refl _)] at this
          exact .new hbS this (.nil _ _)
    · go_wp2_with fail
      exact bodyPost_ret (v := .tuple #[]) (by simp [results, Try.results61, go_sem]) rfl ⟨rfl, V, S, O, .old (by simpa using hc) (.nil _ _), HP1.out.1, Nat.le_refl _⟩
end Go.Proofs.Ytdbaghmjomdmbaa
