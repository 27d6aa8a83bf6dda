import Derived.Test.YtnemieeeappgnaaGreatDoorDc37
import Derived.Test.YtnemieeeappgnaaGreatDoorDc43
namespace Go.Proofs.YtnemieeeappgnaaGreatDoor
open Go.ChangeShapes Go.WideShapes Go.ChangeAt Go.RowKit
set_option linter.unusedVariables false
theorem getAcc_take (zs : List Int) (m p : Nat) : ∀ n, p + n ≤ m → getAcc (zs.take m) p n = getAcc zs p n
  | 0, _ => rfl
  | n + 1, h => by
    have e : (zs.take m)[p + n]? = zs[p + n]? := by
      rw [List.getElem?_take, if_pos (by omega)]
    simp only [getAcc, getAcc_take zs m p n (by omega), e]
def PrgRes (w : World) (I : Nat) (zs : List Int) (e : Ending) (w' : World) : Prop :=
  (∃ c, e = stopE c ∧ c ≠ 0 ∧ DecIs zs c noP ∧ Chg (fun j => j = I) w w') ∨ (∃ (v : VP) (F : List (List Int × Value)) (cs : List MC) (G : List (MF × VF)) (ts : List MT), e = .returned (.agg #[v.r, v.k, v.f, v.t]) ∧ Sep w' w.heap.size (pItems v F cs G ts []) ∧ MP.small ⟨F.map Prod.fst, cs, G.map Prod.fst, ts⟩ ∧ DecIs zs 0 ⟨F.map Prod.fst, cs, G.map Prod.fst, ts⟩ ∧ Chg (fun j => j = I) w w')
set_option maxHeartbeats 8000000 in
set_option maxRecDepth 100000 in
theorem program_any (B I L : Nat) (a : Option Addr) (c : Nat) (zs : List Int) (w : World) (ht : TabAt w) (htB : 1 < B) (h : InR w B I L a c zs 0) :
    Calls Tryz.prog 30 #[.pointer (some ⟨I, 0, none⟩)] w (PrgRes w I zs) := by
  have H0 : Hid (Br w (w.alloc (.cells #[.slice none 0 0, .slice none 0 0, .slice none 0 0, .slice none 0 0] 28)) [gb w.heap.size (⟨.slice none 0 0, .slice none 0 0, .slice none 0 0, .slice none 0 0⟩ : VP)] B I L a c zs 0) := (Br.start h).box 28 4 _ rfl
  have HT : Hid (TabAt (w.alloc (.cells #[.slice none 0 0, .slice none 0 0, .slice none 0 0, .slice none 0 0] 28))) := fun j hj => by rw [(below_alloc _ _).cell (block_lt_of_cell (ht j hj))]; exact ht j hj
  have HLen : Hid (zs.length = L) := h.len
  have hL := h.big
  clear h ht
  go_enter Tryz.func30, Tryz.ntmps30
  go_wp2_with fail
  refine (envelope_any B I L a c zs _ HT.out htB H0.out.got.at_).mono ?_
  rintro e u1 (⟨rfl, hs, hc⟩ | ⟨rfl, hs, hs4, hc⟩ | ⟨rfl, hs, hs4, hin, hc⟩)
  · unfold stopE
    go_wp2
    exact ⟨rfl, .inl ⟨1, rfl, by omega, .inl ⟨hs, rfl, rfl⟩, H0.out.got.chg.on hc⟩⟩
  · unfold stopE
    go_wp2
    exact ⟨rfl, .inl ⟨2, rfl, by omega, .inr (.inl ⟨hs, hs4, rfl, rfl⟩), H0.out.got.chg.on hc⟩⟩
  have h10 := hs.1
  rw [HLen.out] at h10
  have HST : Hid (Start zs ∧ Sum4 zs) := ⟨hs, hs4⟩
  have H1 : Hid (Br w u1 [gb w.heap.size (⟨.slice none 0 0, .slice none 0 0, .slice none 0 0, .slice none 0 0⟩ : VP)] B I (L - 4) a c (bodyZ zs) 4) := ⟨H0.out.sep.chg hc (fun j hj e => by have := H0.out.lt; omega), ⟨hin, H0.out.got.chg.on hc⟩, H0.out.lt⟩
  have HZ : Hid (AllB (bodyZ zs)) := hin.hz
  have HLB : Hid ((bodyZ zs).length = L - 4) := hin.len
  clear hs hs4 hin hc H0 HT
  have HN2 : Hid (numR (bodyZ zs) 2 4 = some (wrap64 (getAcc zs 4 2), 6)) := by
    show _ = _
    unfold numR
    rw [if_pos (by rw [HLB.out]; omega), bodyZ, getAcc_take zs _ 4 2 (by rw [HLen.out]; omega)]
  have HV : Hid (Vers zs ↔ wrap64 (getAcc zs 4 2) = 1) := Iff.rfl
  generalize wrap64 (getAcc zs 4 2) = x2 at HN2 HV
  go_wp2_with fail
  refine (number_any B I (L - 4) a c (bodyZ zs) 2 4 _ (by omega) (by omega) H1.out.got.at_).mono ?_
  rintro e u2 (⟨x, V, k2, rfl, hr, rfl, hg⟩ | ⟨rfl, hn, hc⟩)
  rotate_left
  · rw [HN2.out] at hn; cases hn
  rw [HN2.out] at hr
  simp only [Option.some.injEq, Prod.mk.injEq] at hr
  obtain ⟨rfl, rfl⟩ := hr
  have H2 : Hid (Br w u2 [gb w.heap.size (⟨.slice none 0 0, .slice none 0 0, .slice none 0 0, .slice none 0 0⟩ : VP)] B I (L - 4) a c (bodyZ zs) 6) := H1.out.read hg
  clear hg H1 HN2
  by_cases hv : x2 = 1
  rotate_left
  · have hb : (x2 == 1) = false := by simpa using hv
    have HNV : Hid (¬ Vers zs) := fun h => hv (HV.out.1 h)
    go_wp2_with (go_at_call 51; refine (demand_no 3 _).mono ?_; rintro e v2 ⟨rfl, hu⟩; obtain rfl := hu.symm; unfold stopE)
    exact ⟨rfl, .inl ⟨3, rfl, by omega, .inr (.inr (.inl ⟨HST.out.1, HST.out.2, HNV.out, rfl, rfl⟩)), H2.out.got.chg⟩⟩
  subst hv
  have HVS : Hid (Vers zs) := HV.out.2 rfl
  clear HV
  have S4 : Hid (∀ q : Nat, progR (bodyZ zs) 6 = none → DecIs zs 4 noP) := fun q h => .inr (.inr (.inr (.inl ⟨HST.out.1, HST.out.2, HVS.out, h, rfl, rfl⟩)))
  go_upto_region 3 with (go_at_call 51; refine (demand_yes 3 _).mono ?_; rintro e v2 ⟨rfl, hu⟩; obtain rfl := hu.symm)
  go_wp2_with fail
  refine (listRegion_any B I (L - 4) a c (bodyZ zs) 3 6 _ (by omega) H2.out.got.at_).mono ?_
  rintro e u3 (⟨_, V3, k3, rfl, hr, ⟨F, rfl, ho⟩, hg⟩ | ⟨rfl, hn, hc⟩)
  rotate_left
  · unfold stopE
    go_wp2
    exact ⟨rfl, .inl ⟨4, rfl, by omega, S4.out 0 (thenR_none hn), H2.out.got.chg.on hc⟩⟩
  obtain ⟨a3, d3, e3⟩ : ∃ a c, V3 = .slice a F.length c := own_sl (ho.own (rHead V3 F) (by simp))
  subst e3
  have H3 : Hid (Br w u3 (([gb w.heap.size (⟨.slice none 0 0, .slice none 0 0, .slice none 0 0, .slice none 0 0⟩ : VP)]) ++ (rHead (.slice a3 F.length d3) F :: rItems F)) B I (L - 4) a c (bodyZ zs) k3) := H2.out.rows hg ho
  have R3 : Hid (manyR (typesR (bodyZ zs) 2) 3 6 = some (F.map Prod.fst, k3)) := hr
  clear hr hg ho H2
  go_wp2_with fail
  refine (number_any B I (L - 4) a c (bodyZ zs) 2 k3 _ (by omega) (by omega) H3.out.got.at_).mono ?_
  rintro e u4 (⟨x4, V, k4, rfl, hr, rfl, hg⟩ | ⟨rfl, hn, hc⟩)
  rotate_left
  · unfold stopE
    go_wp2
    exact ⟨rfl, .inl ⟨4, rfl, by omega, S4.out 0 (then_some (r := manyR (typesR (bodyZ zs) 2) 3) R3.out (thenR_none (thenR_none hn))), H3.out.got.chg.on hc⟩⟩
  have H4 : Hid (Br w u4 ([gb w.heap.size (⟨.slice none 0 0, .slice none 0 0, .slice none 0 0, .slice none 0 0⟩ : VP)] ++ (rHead (.slice a3 F.length d3) F :: rItems F)) B I (L - 4) a c (bodyZ zs) k4) := H3.out.read hg
  have R4 : Hid (numR (bodyZ zs) 2 k3 = some (x4, k4)) := hr
  obtain ⟨p4, p4'⟩ := num_bdR HZ.out (by omega) hr
  obtain ⟨m4, rfl⟩ := Int.eq_ofNat_of_zero_le p4
  have hm4 : m4 ≤ 65535 := by omega
  clear hr hg H3
  go_wp2_with fail
  refine (listConst_any B I (L - 4) a c (bodyZ zs) m4 k4 _ (by omega) H4.out.got.at_).mono ?_
  rintro e u5 (⟨cs, V5, k5, rfl, hr, ho, hg⟩ | ⟨rfl, hn, hc⟩)
  rotate_left
  · unfold stopE
    go_wp2
    exact ⟨rfl, .inl ⟨4, rfl, by omega, S4.out 0 (then_some (r := manyR (typesR (bodyZ zs) 2) 3) R3.out (thenR_none (then_some R4.out hn))), H4.out.got.chg.on hc⟩⟩
  obtain ⟨a5, d5, e5⟩ : ∃ a c, V5 = .slice a cs.length c := own_sl ho
  subst e5
  have H5 : Hid (Br w u5 (([gb w.heap.size (⟨.slice none 0 0, .slice none 0 0, .slice none 0 0, .slice none 0 0⟩ : VP)] ++ (rHead (.slice a3 F.length d3) F :: rItems F)) ++ [cRow (.slice a5 cs.length d5) cs]) B I (L - 4) a c (bodyZ zs) k5) := H4.out.row hg ho
  have R5 : Hid (manyR (constR (bodyZ zs)) m4 k4 = some (cs, k5)) := hr
  clear hr hg ho H4
  go_wp2_with fail
  refine (number_any B I (L - 4) a c (bodyZ zs) 2 k5 _ (by omega) (by omega) H5.out.got.at_).mono ?_
  rintro e u6 (⟨x6, V, k6, rfl, hr, rfl, hg⟩ | ⟨rfl, hn, hc⟩)
  rotate_left
  · unfold stopE
    go_wp2
    exact ⟨rfl, .inl ⟨4, rfl, by omega, S4.out 0 (then_some (r := manyR (typesR (bodyZ zs) 2) 3) R3.out (then_some (r := listR (bodyZ zs) 2 (constR (bodyZ zs))) (then_some R4.out R5.out) (thenR_none (thenR_none hn)))), H5.out.got.chg.on hc⟩⟩
  have H6 : Hid (Br w u6 ([gb w.heap.size (⟨.slice none 0 0, .slice none 0 0, .slice none 0 0, .slice none 0 0⟩ : VP)] ++ (rHead (.slice a3 F.length d3) F :: rItems F) ++ [cRow (.slice a5 cs.length d5) cs]) B I (L - 4) a c (bodyZ zs) k6) := H5.out.read hg
  have R6 : Hid (numR (bodyZ zs) 2 k5 = some (x6, k6)) := hr
  obtain ⟨p6, p6'⟩ := num_bdR HZ.out (by omega) hr
  obtain ⟨m6, rfl⟩ := Int.eq_ofNat_of_zero_le p6
  have hm6 : m6 ≤ 65535 := by omega
  clear hr hg H5
  go_wp2_with fail
  refine (listFunc_any B I (L - 4) a c (bodyZ zs) m6 k6 _ (by omega) H6.out.got.at_).mono ?_
  rintro e u7 (⟨_, V7, k7, rfl, hr, ⟨G, rfl, ho⟩, hg⟩ | ⟨rfl, hn, hc⟩)
  rotate_left
  · unfold stopE
    go_wp2
    exact ⟨rfl, .inl ⟨4, rfl, by omega, S4.out 0 (then_some (r := manyR (typesR (bodyZ zs) 2) 3) R3.out (then_some (r := listR (bodyZ zs) 2 (constR (bodyZ zs))) (then_some R4.out R5.out) (thenR_none (then_some R6.out hn)))), H6.out.got.chg.on hc⟩⟩
  obtain ⟨a7, d7, e7⟩ : ∃ a c, V7 = .slice a G.length c := own_sl (ho.own (fHead V7 G) (by simp))
  subst e7
  have H7 : Hid (Br w u7 (([gb w.heap.size (⟨.slice none 0 0, .slice none 0 0, .slice none 0 0, .slice none 0 0⟩ : VP)] ++ (rHead (.slice a3 F.length d3) F :: rItems F) ++ [cRow (.slice a5 cs.length d5) cs]) ++ (fHead (.slice a7 G.length d7) G :: fItems G)) B I (L - 4) a c (bodyZ zs) k7) := H6.out.rows hg ho
  have R7 : Hid (manyR (funcR (bodyZ zs)) m6 k6 = some (G.map Prod.fst, k7)) := hr
  clear hr hg ho H6
  go_wp2_with fail
  refine (number_any B I (L - 4) a c (bodyZ zs) 2 k7 _ (by omega) (by omega) H7.out.got.at_).mono ?_
  rintro e u8 (⟨x8, V, k8, rfl, hr, rfl, hg⟩ | ⟨rfl, hn, hc⟩)
  rotate_left
  · unfold stopE
    go_wp2
    exact ⟨rfl, .inl ⟨4, rfl, by omega, S4.out 0 (then_some (r := manyR (typesR (bodyZ zs) 2) 3) R3.out (then_some (r := listR (bodyZ zs) 2 (constR (bodyZ zs))) (then_some R4.out R5.out) (then_some (r := listR (bodyZ zs) 2 (funcR (bodyZ zs))) (then_some R6.out R7.out) (thenR_none (thenR_none hn))))), H7.out.got.chg.on hc⟩⟩
  have H8 : Hid (Br w u8 ([gb w.heap.size (⟨.slice none 0 0, .slice none 0 0, .slice none 0 0, .slice none 0 0⟩ : VP)] ++ (rHead (.slice a3 F.length d3) F :: rItems F) ++ [cRow (.slice a5 cs.length d5) cs] ++ (fHead (.slice a7 G.length d7) G :: fItems G)) B I (L - 4) a c (bodyZ zs) k8) := H7.out.read hg
  have R8 : Hid (numR (bodyZ zs) 2 k7 = some (x8, k8)) := hr
  obtain ⟨p8, p8'⟩ := num_bdR HZ.out (by omega) hr
  obtain ⟨m8, rfl⟩ := Int.eq_ofNat_of_zero_le p8
  have hm8 : m8 ≤ 65535 := by omega
  clear hr hg H7
  go_wp2_with fail
  refine (listCert_any B I (L - 4) a c (bodyZ zs) m8 k8 _ (by omega) H8.out.got.at_).mono ?_
  rintro e u9 (⟨ts, V9, k9, rfl, hr, ho, hg⟩ | ⟨rfl, hn, hc⟩)
  rotate_left
  · unfold stopE
    go_wp2
    exact ⟨rfl, .inl ⟨4, rfl, by omega, S4.out 0 (then_some (r := manyR (typesR (bodyZ zs) 2) 3) R3.out (then_some (r := listR (bodyZ zs) 2 (constR (bodyZ zs))) (then_some R4.out R5.out) (then_some (r := listR (bodyZ zs) 2 (funcR (bodyZ zs))) (then_some R6.out R7.out) (thenR_none (then_some R8.out hn))))), H8.out.got.chg.on hc⟩⟩
  obtain ⟨a9, d9, e9⟩ : ∃ a c, V9 = .slice a ts.length c := own_sl ho
  subst e9
  have H9 : Hid (Br w u9 (([gb w.heap.size (⟨.slice none 0 0, .slice none 0 0, .slice none 0 0, .slice none 0 0⟩ : VP)] ++ (rHead (.slice a3 F.length d3) F :: rItems F) ++ [cRow (.slice a5 cs.length d5) cs] ++ (fHead (.slice a7 G.length d7) G :: fItems G)) ++ [tRow (.slice a9 ts.length d9) ts]) B I (L - 4) a c (bodyZ zs) k9) := H8.out.row hg ho
  have R9 : Hid (manyR (certR (bodyZ zs)) m8 k8 = some (ts, k9)) := hr
  clear hr hg ho H8
  have HPR : Hid (progR (bodyZ zs) 6 = some (⟨F.map Prod.fst, cs, G.map Prod.fst, ts⟩, k9)) := (then_some (r := manyR (typesR (bodyZ zs) 2) 3) R3.out (then_some (r := listR (bodyZ zs) 2 (constR (bodyZ zs))) (then_some R4.out R5.out) (then_some (r := listR (bodyZ zs) 2 (funcR (bodyZ zs))) (then_some R6.out R7.out) (then_some (r := listR (bodyZ zs) 2 (certR (bodyZ zs))) (then_some R8.out R9.out) rfl))))
  have HSW := Gives.prog HZ.out _ _ _ HPR.out
  have HP9 : Hid (Br w u9 (gb w.heap.size (⟨.slice none 0 0, .slice none 0 0, .slice none 0 0, .slice none 0 0⟩ : VP) :: pItems ⟨.slice a3 F.length d3, .slice a5 cs.length d5, .slice a7 G.length d7, .slice a9 ts.length d9⟩ F cs G ts []) B I (L - 4) a c (bodyZ zs) k9) := by have := H9.out; simpa [Hid, pItems, List.append_assoc] using this
  clear H9 R3 R4 R5 R6 R7 R8 R9 S4
  go_upto_region 4 with fail
  refine wp_world (fun u => Hid (Br w u ((gb w.heap.size (⟨.slice none 0 0, .slice none 0 0, .slice none 0 0, .slice none 0 0⟩ : VP) :: pItems ⟨.slice a3 F.length d3, .slice a5 cs.length d5, .slice a7 G.length d7, .slice a9 ts.length d9⟩ F cs G ts []) ++ [gb u9.heap.size ⟨.slice a3 F.length d3, .slice a5 cs.length d5, .slice a7 G.length d7, .slice a9 ts.length d9⟩]) B I (L - 4) a c (bodyZ zs) k9)) (HP9.out.box 28 4 _ rfl) ?_
  clear HP9
  generalize u9.heap.size = X
  intro v0 E0
  have ED : Hid (Br w v0.drew ((gb w.heap.size (⟨.slice none 0 0, .slice none 0 0, .slice none 0 0, .slice none 0 0⟩ : VP) :: pItems ⟨.slice a3 F.length d3, .slice a5 cs.length d5, .slice a7 G.length d7, .slice a9 ts.length d9⟩ F cs G ts []) ++ [gb X ⟨.slice a3 F.length d3, .slice a5 cs.length d5, .slice a7 G.length d7, .slice a9 ts.length d9⟩]) B I (L - 4) a c (bodyZ zs) k9) := E0.out.keep (below_drew1 _)
  clear E0
  have hkL := ED.out.got.at_.at_
  have KS : ∀ u, Blk u I #[.slice a (L - 4) c, .int .i64 (k9 : Int)] 76 → (u.cell? ⟨I, 0, none⟩ = some (.slice a (L - 4) c) ∧ u.cell? ⟨I, 1, none⟩ = some (.int .i64 (k9 : Int))) := fun u h => ⟨h.cell 0, h.cell 1⟩
  by_cases hk : k9 = L - 4
  rotate_left
  · have hk2 : ¬ (k9 : Int) = ((L - 4 : Nat) : Int) := by omega
    have hk3 : ((k9 : Int) == ((L - 4 : Nat) : Int)) = false := by simpa using hk2
    have HK : Hid (¬ k9 = zs.length - 4) := by rw [HLen.out]; exact hk
    refine wp_region_held_drew (S := fun w' => w'.cell? ⟨I, 0, none⟩ = some (.slice a (L - 4) c) ∧ w'.cell? ⟨I, 1, none⟩ = some (.int .i64 (k9 : Int))) (by kernel_rfl) (KS _ ED.out.got.at_.blk) (fun hHeld => ?_)
    generalize v0.drew = UD at ED hHeld ⊢
    refine wpAnyH_take (i := 0) (v := ?_) rfl (by kernel_rfl) (by kernel_rfl) (by kernel_rfl) (fun _ _ _ h => h) (Or.inl ⟨by rfl, ?_⟩) (by assumption) ?_
    rotate_left
    · (intro w hSw; (try dsimp only at hSw); go_simp; (try with_reducible rfl))
    refine wpAnyH_take (i := 1) (v := ?_) rfl (by kernel_rfl) (by kernel_rfl) (by kernel_rfl) (fun _ _ _ h => h) (Or.inl ⟨by rfl, ?_⟩) (by assumption) ?_
    rotate_left
    · (intro w hSw; (try dsimp only at hSw); go_simp; (try with_reducible rfl))
    refine wpAnyH_take (i := 2) (v := ?_) rfl (by kernel_rfl) (by kernel_rfl) (by kernel_rfl) (fun _ _ _ h => h) (Or.inl ⟨by rfl, ?_⟩) (by assumption) ?_
    rotate_left
    · (intro w hSw; (try dsimp only at hSw); go_simp; (try with_reducible rfl))
    refine wpAnyH_take (i := 3) (v := ?_) rfl (by kernel_rfl) (by kernel_rfl) (by kernel_rfl) (fun _ _ _ h => h) (Or.inl ⟨by rfl, ?_⟩) (by assumption) ?_
    rotate_left
    · (intro w hSw; (try dsimp only at hSw); go_simp; (try with_reducible rfl))
    refine wpAnyH_take (i := 4) (v := ?_) rfl (by kernel_rfl) (by kernel_rfl) (by kernel_rfl) (fun _ _ _ h => h) (Or.inl ⟨by rfl, ?_⟩) (by assumption) ?_
    rotate_left
    · (intro w hSw; (try dsimp only at hSw); go_simp; (try with_reducible rfl))
    refine wpAnyH_take (i := 5) (v := ?_) rfl (by kernel_rfl) (by kernel_rfl) (by kernel_rfl) (fun _ _ _ h => h) (Or.inl ⟨by rfl, ?_⟩) (by assumption) ?_
    rotate_left
    · (intro w hSw; (try dsimp only at hSw); go_simp; (try with_reducible rfl))
    refine wpAnyH_take (i := 6) (v := ?_) rfl (by kernel_rfl) (by kernel_rfl) (by kernel_rfl) (fun _ _ _ h => h) (Or.inl ⟨by rfl, ?_⟩) (by assumption) ?_
    rotate_left
    · (intro w hSw; (try dsimp only at hSw); go_simp; (try with_reducible rfl))
    refine wpAnyH_take (i := 7) (v := ?_) rfl (by kernel_rfl) (by kernel_rfl) (by kernel_rfl) (fun _ _ _ h => h) (Or.inl ⟨by rfl, ?_⟩) (by assumption) ?_
    rotate_left
    · (intro w hSw; (try dsimp only at hSw); go_simp; (try with_reducible rfl))
    refine wpAnyH_take (i := 8) (v := ?_) rfl (by kernel_rfl) (by kernel_rfl) (by kernel_rfl) (fun _ _ _ h => h) (Or.inl ⟨by rfl, ?_⟩) (by assumption) ?_
    rotate_left
    · (intro w hSw; (try dsimp only at hSw); go_simp; (try with_reducible rfl))
    refine wpAnyH_take (i := 9) (v := ?_) rfl (by kernel_rfl) (by kernel_rfl) (by kernel_rfl) (fun _ _ _ h => h) (Or.inl ⟨by rfl, ?_⟩) (by assumption) ?_
    rotate_left
    · (intro w hSw; (try dsimp only at hSw); go_simp; (try with_reducible rfl))
    clear hHeld
    go_simp
    refine wpAnyH_ready (rs := [10]) (by kernel_rfl) (by simp) ?_
    refine AllReadyH.cons rfl (fun KC hKC => ?_) AllReadyH.nil
    go_simp
    refine (demand_no 5 _).mono ?_
    rintro e v2 ⟨rfl, hv⟩
    obtain rfl := hv.symm
    unfold stopE
    go_wp2
    exact ⟨rfl, .inl ⟨5, rfl, by omega, .inr (.inr (.inr (.inr (.inl ⟨_, k9, HST.out.1, HST.out.2, HVS.out, HPR.out, HK.out, rfl, rfl⟩)))), ED.out.got.chg⟩⟩
  have hk3 : ((k9 : Int) == ((L - 4 : Nat) : Int)) = true := by rw [hk]; simp
  have HK : Hid (k9 = zs.length - 4) := by rw [HLen.out]; exact hk
  clear hk
  refine wp_region_held_drew (S := fun w' => w'.cell? ⟨I, 0, none⟩ = some (.slice a (L - 4) c) ∧ w'.cell? ⟨I, 1, none⟩ = some (.int .i64 (k9 : Int))) (by kernel_rfl) (KS _ ED.out.got.at_.blk) (fun hHeld => ?_)
  generalize v0.drew = UD at ED hHeld ⊢
  refine wpAnyH_take (i := 0) (v := ?_) rfl (by kernel_rfl) (by kernel_rfl) (by kernel_rfl) (fun _ _ _ h => h) (Or.inl ⟨by rfl, ?_⟩) (by assumption) ?_
  rotate_left
  · (intro w hSw; (try dsimp only at hSw); go_simp; (try with_reducible rfl))
  refine wpAnyH_take (i := 1) (v := ?_) rfl (by kernel_rfl) (by kernel_rfl) (by kernel_rfl) (fun _ _ _ h => h) (Or.inl ⟨by rfl, ?_⟩) (by assumption) ?_
  rotate_left
  · (intro w hSw; (try dsimp only at hSw); go_simp; (try with_reducible rfl))
  refine wpAnyH_take (i := 2) (v := ?_) rfl (by kernel_rfl) (by kernel_rfl) (by kernel_rfl) (fun _ _ _ h => h) (Or.inl ⟨by rfl, ?_⟩) (by assumption) ?_
  rotate_left
  · (intro w hSw; (try dsimp only at hSw); go_simp; (try with_reducible rfl))
  refine wpAnyH_take (i := 3) (v := ?_) rfl (by kernel_rfl) (by kernel_rfl) (by kernel_rfl) (fun _ _ _ h => h) (Or.inl ⟨by rfl, ?_⟩) (by assumption) ?_
  rotate_left
  · (intro w hSw; (try dsimp only at hSw); go_simp; (try with_reducible rfl))
  refine wpAnyH_take (i := 4) (v := ?_) rfl (by kernel_rfl) (by kernel_rfl) (by kernel_rfl) (fun _ _ _ h => h) (Or.inl ⟨by rfl, ?_⟩) (by assumption) ?_
  rotate_left
  · (intro w hSw; (try dsimp only at hSw); go_simp; (try with_reducible rfl))
  refine wpAnyH_take (i := 5) (v := ?_) rfl (by kernel_rfl) (by kernel_rfl) (by kernel_rfl) (fun _ _ _ h => h) (Or.inl ⟨by rfl, ?_⟩) (by assumption) ?_
  rotate_left
  · (intro w hSw; (try dsimp only at hSw); go_simp; (try with_reducible rfl))
  refine wpAnyH_take (i := 6) (v := ?_) rfl (by kernel_rfl) (by kernel_rfl) (by kernel_rfl) (fun _ _ _ h => h) (Or.inl ⟨by rfl, ?_⟩) (by assumption) ?_
  rotate_left
  · (intro w hSw; (try dsimp only at hSw); go_simp; (try with_reducible rfl))
  refine wpAnyH_take (i := 7) (v := ?_) rfl (by kernel_rfl) (by kernel_rfl) (by kernel_rfl) (fun _ _ _ h => h) (Or.inl ⟨by rfl, ?_⟩) (by assumption) ?_
  rotate_left
  · (intro w hSw; (try dsimp only at hSw); go_simp; (try with_reducible rfl))
  refine wpAnyH_take (i := 8) (v := ?_) rfl (by kernel_rfl) (by kernel_rfl) (by kernel_rfl) (fun _ _ _ h => h) (Or.inl ⟨by rfl, ?_⟩) (by assumption) ?_
  rotate_left
  · (intro w hSw; (try dsimp only at hSw); go_simp; (try with_reducible rfl))
  refine wpAnyH_take (i := 9) (v := ?_) rfl (by kernel_rfl) (by kernel_rfl) (by kernel_rfl) (fun _ _ _ h => h) (Or.inl ⟨by rfl, ?_⟩) (by assumption) ?_
  rotate_left
  · (intro w hSw; (try dsimp only at hSw); go_simp; (try with_reducible rfl))
  clear hHeld
  go_simp
  refine wpAnyH_ready (rs := [10]) (by kernel_rfl) (by simp) ?_
  refine AllReadyH.cons rfl (fun KC hKC => ?_) AllReadyH.nil
  go_simp
  refine (demand_yes 5 _).mono ?_
  rintro e v2 ⟨rfl, hv⟩
  obtain rfl := hv.symm
  go_simp
  refine hKC.out _ _ (KS _ ED.out.got.at_.blk) (fun hHeld => ?_)
  clear hKC KC hHeld
  refine wpAnyH_done (by kernel_rfl) ?_ _
  obtain ⟨⟨y0, y1, y2, y3⟩, -⟩ := ED.out.four (List.mem_append_right _ (show gb X ⟨.slice a3 F.length d3, .slice a5 cs.length d5, .slice a7 G.length d7, .slice a9 ts.length d9⟩ ∈ _ by simp))
  go_wp2_with fail
  have HO : Hid (OwnP UD w.heap.size ⟨.slice a3 F.length d3, .slice a5 cs.length d5, .slice a7 G.length d7, .slice a9 ts.length d9⟩ ⟨F.map Prod.fst, cs, G.map Prod.fst, ts⟩) := (ED.out.sub (M := pItems ⟨.slice a3 F.length d3, .slice a5 cs.length d5, .slice a7 G.length d7, .slice a9 ts.length d9⟩ F cs G ts []) ((List.sublist_cons_self _ _).trans (List.sublist_append_left _ _))).sep.ownP
  refine (checkProgram_any ⟨.slice a3 F.length d3, .slice a5 cs.length d5, .slice a7 G.length d7, .slice a9 ts.length d9⟩ ⟨F.map Prod.fst, cs, G.map Prod.fst, ts⟩ UD HSW.1 HSW.2 HO.out.rd HO.out.regions.rdc HO.out.funcs.rdp).mono ?_
  rintro e v3 ⟨⟨n, rfl, hf⟩, hb⟩
  have E3 : Hid (Br w v3 ((gb w.heap.size (⟨.slice none 0 0, .slice none 0 0, .slice none 0 0, .slice none 0 0⟩ : VP) :: pItems ⟨.slice a3 F.length d3, .slice a5 cs.length d5, .slice a7 G.length d7, .slice a9 ts.length d9⟩ F cs G ts []) ++ [gb X ⟨.slice a3 F.length d3, .slice a5 cs.length d5, .slice a7 G.length d7, .slice a9 ts.length d9⟩]) B I (L - 4) a c (bodyZ zs) k9) := ED.out.keep hb
  have HFI : Hid (FaultIs ⟨F.map Prod.fst, cs, G.map Prod.fst, ts⟩ n) := hf
  have HSM : Hid (MP.small ⟨F.map Prod.fst, cs, G.map Prod.fst, ts⟩) := HSW.1
  clear hf hb ED HO y0 y1 y2 y3 HSW
  obtain ⟨⟨y0, y1, y2, y3⟩, -⟩ := E3.out.four (List.mem_append_right _ (show gb X ⟨.slice a3 F.length d3, .slice a5 cs.length d5, .slice a7 G.length d7, .slice a9 ts.length d9⟩ ∈ _ by simp))
  obtain ⟨⟨q0, q1, q2, q3⟩, f0, f1, f2, f3⟩ := E3.out.four (List.mem_append_left _ (List.mem_cons_self (a := gb w.heap.size (⟨.slice none 0 0, .slice none 0 0, .slice none 0 0, .slice none 0 0⟩ : VP))))
  by_cases hn : n = 0
  · subst hn
    rw [show errOf 0 = .nilIface from rfl]
    go_wp2_with (go_at_call 51; refine (demand_yes 6 _).mono ?_; rintro e v4 ⟨rfl, hu⟩; obtain rfl := hu.symm)
    have HF : Hid (Br w ((((v3.setCell ⟨w.heap.size, 0, none⟩ (.slice a3 F.length d3)).setCell ⟨w.heap.size, 1, none⟩ (.slice a5 cs.length d5)).setCell ⟨w.heap.size, 2, none⟩ (.slice a7 G.length d7)).setCell ⟨w.heap.size, 3, none⟩ (.slice a9 ts.length d9)) (gb w.heap.size ⟨.slice a3 F.length d3, .slice a5 cs.length d5, .slice a7 G.length d7, .slice a9 ts.length d9⟩ :: (pItems ⟨.slice a3 F.length d3, .slice a5 cs.length d5, .slice a7 G.length d7, .slice a9 ts.length d9⟩ F cs G ts [] ++ [gb X ⟨.slice a3 F.length d3, .slice a5 cs.length d5, .slice a7 G.length d7, .slice a9 ts.length d9⟩])) B I (L - 4) a c (bodyZ zs) k9) := Br.four_set (C := pItems ⟨.slice a3 F.length d3, .slice a5 cs.length d5, .slice a7 G.length d7, .slice a9 ts.length d9⟩ F cs G ts [] ++ [gb X ⟨.slice a3 F.length d3, .slice a5 cs.length d5, .slice a7 G.length d7, .slice a9 ts.length d9⟩]) E3.out (.slice a3 F.length d3) (.slice a5 cs.length d5) (.slice a7 G.length d7) (.slice a9 ts.length d9)
    generalize (((v3.setCell ⟨w.heap.size, 0, none⟩ (.slice a3 F.length d3)).setCell ⟨w.heap.size, 1, none⟩ (.slice a5 cs.length d5)).setCell ⟨w.heap.size, 2, none⟩ (.slice a7 G.length d7)).setCell ⟨w.heap.size, 3, none⟩ (.slice a9 ts.length d9) = WF at HF ⊢
    obtain ⟨⟨r0, r1, r2, r3⟩, -⟩ := HF.out.four (List.mem_cons_self (a := gb w.heap.size ⟨.slice a3 F.length d3, .slice a5 cs.length d5, .slice a7 G.length d7, .slice a9 ts.length d9⟩))
    have HPF : Hid (Sep WF w.heap.size (pItems ⟨.slice a3 F.length d3, .slice a5 cs.length d5, .slice a7 G.length d7, .slice a9 ts.length d9⟩ F cs G ts [])) := (HF.out.sub (M := pItems ⟨.slice a3 F.length d3, .slice a5 cs.length d5, .slice a7 G.length d7, .slice a9 ts.length d9⟩ F cs G ts []) ((List.sublist_append_left _ _).trans (List.sublist_cons_self _ _))).sep
    exact bodyPost_ret (v := .agg #[.slice a3 F.length d3, .slice a5 cs.length d5, .slice a7 G.length d7, .slice a9 ts.length d9]) (by simp [results, Tryz.results30, go_sem, r0, r1, r2, r3]) rfl (.inr ⟨⟨.slice a3 F.length d3, .slice a5 cs.length d5, .slice a7 G.length d7, .slice a9 ts.length d9⟩, F, cs, G, ts, rfl, HPF.out, HSM.out, .inr (.inr (.inr (.inr (.inr (.inr ⟨HST.out.1, HST.out.2, HVS.out, by rw [← HK.out]; exact HPR.out, HFI.out, rfl⟩))))), HF.out.got.chg⟩)
  · rw [show errOf n = .iface 74 (.int .i64 n) from if_neg hn]
    go_wp2_with (go_at_call 51; refine (demand_no 6 _).mono ?_; rintro e v4 ⟨rfl, hu⟩; obtain rfl := hu.symm; unfold stopE)
    exact ⟨rfl, .inl ⟨6, rfl, by omega, .inr (.inr (.inr (.inr (.inr (.inl ⟨_, n, HST.out.1, HST.out.2, HVS.out, by rw [← HK.out]; exact HPR.out, HFI.out, hn, rfl, rfl⟩))))), E3.out.got.chg⟩⟩
end Go.Proofs.YtnemieeeappgnaaGreatDoor
