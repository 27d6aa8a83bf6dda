import Derived.Test.YtnemieeeappgnaaGreatDoorDc18
namespace Go.Proofs.YtnemieeeappgnaaGreatDoor
open Go.ChangeShapes Go.WideShapes Go.ChangeAt Go.RowKit
set_option linter.unusedVariables false
section
variable {w u u' : World} {B I L : Nat} {a : Option Addr} {c : Nat} {zs : List Int} {k : Nat}
theorem Br.push_rr {F : List (List Int × Value)} {s x V : Value} {xs : List Int} (h : Br w u ((rHead s F :: rItems F) ++ [iRow x xs]) B I L a c zs k) (ho : u'.ownsRow w.heap.size 57 1 V (F.length + 1) (F.flatMap rCells ++ [x])) (hg : u.grownBy u' s.ownBlock) (hat : V.ownBlock = s.ownBlock ∨ V.ownBlock = some u.heap.size) : Br w u' (rHead V (F ++ [(xs, x)]) :: rItems (F ++ [(xs, x)])) B I L a c zs k := by
  have h2 := Br.app (A := []) (C := rItems F ++ [iRow x xs]) h (rHead V (F ++ [(xs, x)])) (by simpa [RowI.own, rHead, rCells] using ho) hg hat
  rw [rItems_snoc]
  exact h2
theorem Br.push_ff {G : List (MF × VF)} {s V : Value} {y : MF × VF} (h : Br w u ((fHead s G :: fItems G) ++ fItem y) B I L a c zs k) (ho : u'.ownsRow w.heap.size 64 4 V (G.length + 1) (G.flatMap fCells ++ fCells y)) (hg : u.grownBy u' s.ownBlock) (hat : V.ownBlock = s.ownBlock ∨ V.ownBlock = some u.heap.size) : Br w u' (fHead V (G ++ [y]) :: fItems (G ++ [y])) B I L a c zs k := by
  have h2 := Br.app (A := []) (C := fItems G ++ fItem y) h (fHead V (G ++ [y])) (by simpa [RowI.own, fHead] using ho) hg hat
  rw [fItems_snoc]
  exact h2
end
set_option maxHeartbeats 4000000 in
set_option maxRecDepth 100000 in
theorem listRegion_any (B I L : Nat) (a : Option Addr) (c : Nat) (zs : List Int) (n k : Nat) (w : World) (hn : n ≤ 65535) (h : InR w B I L a c zs k) :
    Calls Tryz.prog 53 #[.int .i64 (n : Int), .func (Fn.func 54) #[.pointer (some ⟨I, 0, none⟩)] #[]] w (Rds (manyR (typesR zs 2) n) (fun w' ys V => ∃ F : List (List Int × Value), F.map Prod.fst = ys ∧ Sep w' w.heap.size (rHead V F :: rItems F)) w B I L a c zs k) := by
  obtain ⟨i0, hi, hz0, hz1, hz2⟩ := info_parts infoR
  have H0 : Hid (Br w w (rHead (.slice none 0 0) [] :: rItems []) B I L a c zs k) := (Br.start h).nil 57 1
  clear h
  go_enter Tryz.func53, Tryz.ntmps53
  go_wp2
  go_loopw [5, 7] (fun o i wr => ∃ (j : Nat) (F : List (List Int × Value)) (kk : Nat) (b : Option Addr) (d : Nat), o = .slice b F.length d ∧ i = .int .i64 (j : Int) ∧ j ≤ n ∧ Hid (F.length = j ∧ manyR (typesR zs 2) j k = some (F.map Prod.fst, kk) ∧ Br w wr (rHead (.slice b F.length d) F :: rItems F) B I L a c zs kk)) (fun _ i _ => n - (intOf i).toNat)
  case atStart =>
    exact ⟨0, [], k, none, 0, rfl, rfl, by omega, rfl, rfl, H0.out⟩
  case round =>
    clear H0
    obtain ⟨j, F, kk, b, d, rfl, rfl, hj, HM⟩ := hrel
    have HL : Hid (F.length = j) := HM.out.1
    have hlb : F.length ≤ 65535 := by rw [HL.out]; omega
    by_cases hlt : j < n
    · have hlt' : (j : Int) < (n : Int) := by omega
      go_wp2_with fail
      refine (region_any B I L a c zs kk wr HM.out.2.2.got.at_).mono ?_
      rintro e u1 (⟨x, V, k1, rfl, hr, hv, hg⟩ | ⟨rfl, hnn, hc⟩)
      rotate_left
      · unfold stopE
        go_wp2
        exact ⟨rfl, .inr ⟨rfl, many_short (many_stop HM.out.2.1 hnn) (by omega), HM.out.2.2.got.chg.on hc⟩⟩
      obtain ⟨a5, c5, e5⟩ : ∃ a c, V = .slice a x.length c := own_sl hv
      subst e5
      replace hv : Sep u1 wr.heap.size [iRow (.slice a5 x.length c5) x] := ⟨fun r hr => by rw [List.mem_singleton.1 hr]; exact hv, List.pairwise_singleton _ _⟩
      have H2 : Hid (Br w (u1.alloc (.cells #[.slice a5 x.length c5] 57)) ((rHead (.slice b F.length d) F :: rItems F) ++ [iRow (.slice a5 x.length c5) x]) B I L a c zs k1) := (HM.out.2.2.rows hg hv).keep (below_alloc _ _)
      have RM : Hid (manyR (typesR zs 2) (j + 1) k = some ((F ++ [(x, Value.slice a5 x.length c5)]).map Prod.fst, k1)) := by have := many_next HM.out.2.1 hr; simpa [Hid] using this
      have O2 : Hid ((u1.alloc (.cells #[.slice a5 x.length c5] 57)).ownsRow w.heap.size 57 1 (.slice b F.length d) F.length (F.flatMap rCells)) := H2.out.sep.own (rHead (.slice b F.length d) F) (by simp)
      have hs2 := H2.out.size
      clear hr hg hv HM
      go_wp2_with (at_builtin; refine wpList_append_own_at _ rfl _ _ 23 rfl w.heap.size 57 i0 (.slice none 0 0) 1 24 Tryz.underlying23 hi hz0 hz1 hz2 rfl (by decide) _ _ _ rfl O2.out ⟨u1.heap.size, 0, none⟩ 1 1 [.slice a5 x.length c5] rfl rfl (lit_at u1 [.slice a5 x.length c5] 57) (by intro u hu; simp at hu; subst hu; rfl) (by unfold maxLen; omega) (by omega) hs2 ?_; intro V' u5 ho hgr _ hat; obtain ⟨b', d', e5⟩ := own_sl ho; subst e5; have H5 : Hid (Br w u5 (rHead (.slice b' (F.length + 1) d') (F ++ [(x, Value.slice a5 x.length c5)]) :: rItems (F ++ [(x, Value.slice a5 x.length c5)])) B I L a c zs k1) := H2.out.push_rr ho hgr hat; clear ho hgr hat H2 O2)
      go_roundw
      case rel =>
        have el : (F ++ [(x, Value.slice a5 x.length c5)]).length = F.length + 1 := by simp
        refine ⟨j + 1, (F ++ [(x, Value.slice a5 x.length c5)]), k1, b', d', by rw [el], by go_num, by omega, by rw [el, HL.out], RM.out, ?_⟩
        rw [el]
        exact H5.out
      case measure => simp [intOf]; omega
    · have hjn : n = j := by omega
      have hge : ¬ (j : Int) < (n : Int) := by omega
      go_wp2
      go_ret
      exact .inl ⟨_, _, kk, rfl, HM.out.2.1, ⟨F, rfl, HM.out.2.2.sep⟩, HM.out.2.2.got⟩
set_option maxHeartbeats 4000000 in
set_option maxRecDepth 100000 in
theorem listFunc_any (B I L : Nat) (a : Option Addr) (c : Nat) (zs : List Int) (n k : Nat) (w : World) (hn : n ≤ 65535) (h : InR w B I L a c zs k) :
    Calls Tryz.prog 57 #[.int .i64 (n : Int), .func (Fn.func 58) #[.pointer (some ⟨I, 0, none⟩)] #[]] w (Rds (manyR (funcR zs) n) (fun w' ys V => ∃ F : List (MF × VF), F.map Prod.fst = ys ∧ Sep w' w.heap.size (fHead V F :: fItems F)) w B I L a c zs k) := by
  obtain ⟨i0, hi, hz0, hz1, hz2⟩ := info_parts infoF
  have H0 : Hid (Br w w (fHead (.slice none 0 0) [] :: fItems []) B I L a c zs k) := (Br.start h).nil 64 4
  clear h
  go_enter Tryz.func57, Tryz.ntmps57
  go_wp2
  go_loopw [5, 7] (fun o i wr => ∃ (j : Nat) (F : List (MF × VF)) (kk : Nat) (b : Option Addr) (d : Nat), o = .slice b F.length d ∧ i = .int .i64 (j : Int) ∧ j ≤ n ∧ Hid (F.length = j ∧ manyR (funcR zs) j k = some (F.map Prod.fst, kk) ∧ Br w wr (fHead (.slice b F.length d) F :: fItems F) B I L a c zs kk)) (fun _ i _ => n - (intOf i).toNat)
  case atStart =>
    exact ⟨0, [], k, none, 0, rfl, rfl, by omega, rfl, rfl, H0.out⟩
  case round =>
    clear H0
    obtain ⟨j, F, kk, b, d, rfl, rfl, hj, HM⟩ := hrel
    have HL : Hid (F.length = j) := HM.out.1
    have hlb : F.length ≤ 65535 := by rw [HL.out]; omega
    by_cases hlt : j < n
    · have hlt' : (j : Int) < (n : Int) := by omega
      go_wp2_with fail
      refine (function_any B I L a c zs kk wr HM.out.2.2.got.at_).mono ?_
      rintro e u1 (⟨x, V, k1, rfl, hr, hv, hg⟩ | ⟨rfl, hnn, hc⟩)
      rotate_left
      · unfold stopE
        go_wp2
        exact ⟨rfl, .inr ⟨rfl, many_short (many_stop HM.out.2.1 hnn) (by omega), HM.out.2.2.got.chg.on hc⟩⟩
      obtain ⟨⟨vp, vl, vc⟩, rfl, hv⟩ := hv
      obtain ⟨e1, e2, h1⟩ : ∃ a c, vp = .slice a x.params.length c := own_sl (hv.own (iRow vp x.params) (by simp [fItem]))
      obtain ⟨e3, e4, h2⟩ : ∃ a c, vl = .slice a x.locals.length c := own_sl (hv.own (iRow vl x.locals) (by simp [fItem]))
      obtain ⟨e5, e6, h3⟩ : ∃ a c, vc = .slice a x.code.length c := own_sl (hv.own (nRow vc x.code) (by simp [fItem]))
      subst h1 h2 h3
      have H2 : Hid (Br w (u1.alloc (.cells #[.slice e1 x.params.length e2, .int .i64 x.result, .slice e3 x.locals.length e4, .slice e5 x.code.length e6] 64)) ((fHead (.slice b F.length d) F :: fItems F) ++ fItem (x, (⟨.slice e1 x.params.length e2, .slice e3 x.locals.length e4, .slice e5 x.code.length e6⟩ : VF))) B I L a c zs k1) := (HM.out.2.2.rows hg hv).keep (below_alloc _ _)
      have RM : Hid (manyR (funcR zs) (j + 1) k = some ((F ++ [(x, (⟨.slice e1 x.params.length e2, .slice e3 x.locals.length e4, .slice e5 x.code.length e6⟩ : VF))]).map Prod.fst, k1)) := by have := many_next HM.out.2.1 hr; simpa [Hid] using this
      have O2 : Hid ((u1.alloc (.cells #[.slice e1 x.params.length e2, .int .i64 x.result, .slice e3 x.locals.length e4, .slice e5 x.code.length e6] 64)).ownsRow w.heap.size 64 4 (.slice b F.length d) F.length (F.flatMap fCells)) := H2.out.sep.own (fHead (.slice b F.length d) F) (by simp)
      have hs2 := H2.out.size
      clear hr hg hv HM
      go_wp2_with (at_builtin; refine wpList_append_own_at _ rfl _ _ 25 rfl w.heap.size 64 i0 (.agg #[.slice none 0 0, .int .i64 0, .slice none 0 0, .slice none 0 0]) 4 80 Tryz.underlying25 hi hz0 hz1 hz2 rfl (by decide) _ _ _ rfl O2.out ⟨u1.heap.size, 0, none⟩ 1 1 [.slice e1 x.params.length e2, .int .i64 x.result, .slice e3 x.locals.length e4, .slice e5 x.code.length e6] rfl rfl (lit_at u1 [.slice e1 x.params.length e2, .int .i64 x.result, .slice e3 x.locals.length e4, .slice e5 x.code.length e6] 64) (by intro u hu; simp at hu; rcases hu with rfl | rfl | rfl | rfl <;> rfl) (by unfold maxLen; omega) (by omega) hs2 ?_; intro V' u5 ho hgr _ hat; obtain ⟨b', d', e5⟩ := own_sl ho; subst e5; have H5 : Hid (Br w u5 (fHead (.slice b' (F.length + 1) d') (F ++ [(x, (⟨.slice e1 x.params.length e2, .slice e3 x.locals.length e4, .slice e5 x.code.length e6⟩ : VF))]) :: fItems (F ++ [(x, (⟨.slice e1 x.params.length e2, .slice e3 x.locals.length e4, .slice e5 x.code.length e6⟩ : VF))])) B I L a c zs k1) := H2.out.push_ff ho hgr hat; clear ho hgr hat H2 O2)
      go_roundw
      case rel =>
        have el : (F ++ [(x, (⟨.slice e1 x.params.length e2, .slice e3 x.locals.length e4, .slice e5 x.code.length e6⟩ : VF))]).length = F.length + 1 := by simp
        refine ⟨j + 1, (F ++ [(x, (⟨.slice e1 x.params.length e2, .slice e3 x.locals.length e4, .slice e5 x.code.length e6⟩ : VF))]), k1, b', d', by rw [el], by go_num, by omega, by rw [el, HL.out], RM.out, ?_⟩
        rw [el]
        exact H5.out
      case measure => simp [intOf]; omega
    · have hjn : n = j := by omega
      have hge : ¬ (j : Int) < (n : Int) := by omega
      go_wp2
      go_ret
      exact .inl ⟨_, _, kk, rfl, HM.out.2.1, ⟨F, rfl, HM.out.2.2.sep⟩, HM.out.2.2.got⟩
end Go.Proofs.YtnemieeeappgnaaGreatDoor
