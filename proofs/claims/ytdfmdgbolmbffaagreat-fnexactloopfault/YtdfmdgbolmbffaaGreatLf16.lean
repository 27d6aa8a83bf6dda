import Derived.Test.YtdfmdgbolmbffaaGreatLf5
import Derived.Maps.OwnSet
import Derived.Test.YtdfmdgbolmbffaaGreatLf10
namespace Go.Proofs.YtdfmdgbolmbffaaGreat
open Go.ChangeShapes Go.WideShapes Go.ChangeAt Go.RowKit
set_option linter.unusedVariables false
set_option maxHeartbeats 1000000 in
theorem namesPlace_any (x : MI) (w : World) : Calls Tryz.prog 155 #[.agg #[.int .i64 x.op, .int .i64 x.a, .int .i64 x.b, .int .i64 x.c]] w fun e w' => e = .returned (.bool (goesB x)) ∧ Below w.heap.size w w' := by
  by_cases h1 : x.op = 25
  · have e : goesB x = true := by simp [goesB, h1]
    rw [e, h1]
    go_enter Tryz.func155, Tryz.ntmps155
    go_wp2
    go_ret
    exact ⟨rfl, (Below.refl _ _).alloc (Nat.le_refl _) _⟩
  · by_cases h2 : x.op = 26
    · have e : goesB x = true := by simp [goesB, h2]
      rw [e, h2]
      go_enter Tryz.func155, Tryz.ntmps155
      go_wp2
      go_ret
      exact ⟨rfl, (Below.refl _ _).alloc (Nat.le_refl _) _⟩
    · by_cases h3 : x.op = 27
      · have e : goesB x = true := by simp [goesB, h3]
        rw [e, h3]
        go_enter Tryz.func155, Tryz.ntmps155
        go_wp2
        go_ret
        exact ⟨rfl, (Below.refl _ _).alloc (Nat.le_refl _) _⟩
      · have e : goesB x = false := by simp [goesB, h1, h2, h3]
        have q1 : (x.op == 25) = false := by simpa using h1
        have q2 : (x.op == 26) = false := by simpa using h2
        have q3 : (x.op == 27) = false := by simpa using h3
        rw [e]
        generalize x.op = op at h1 h2 h3 q1 q2 q3
        go_enter Tryz.func155, Tryz.ntmps155
        go_wp2
        go_ret
        exact ⟨rfl, (Below.refl _ _).alloc (Nat.le_refl _) _⟩
set_option maxHeartbeats 1000000 in
theorem goesOn_any (x : MI) (w : World) : Calls Tryz.prog 111 #[.agg #[.int .i64 x.op, .int .i64 x.a, .int .i64 x.b, .int .i64 x.c]] w fun e w' => e = .returned (.bool (onB x)) ∧ Below w.heap.size w w' := by
  by_cases h1 : x.op = 25
  · have e : onB x = false := by simp [onB, h1]
    rw [e, h1]
    go_enter Tryz.func111, Tryz.ntmps111
    go_wp2
    go_ret
    exact ⟨rfl, (Below.refl _ _).alloc (Nat.le_refl _) _⟩
  · by_cases h2 : x.op = 29
    · have e : onB x = false := by simp [onB, h2]
      rw [e, h2]
      go_enter Tryz.func111, Tryz.ntmps111
      go_wp2
      go_ret
      exact ⟨rfl, (Below.refl _ _).alloc (Nat.le_refl _) _⟩
    · have e : onB x = true := by simp [onB, h1, h2]
      have q1 : (x.op != 25) = true := by simpa using h1
      have q2 : (x.op != 29) = true := by simpa using h2
      rw [e]
      generalize x.op = op at h1 h2 q1 q2
      go_enter Tryz.func111, Tryz.ntmps111
      go_wp2
      go_ret
      exact ⟨rfl, (Below.refl _ _).alloc (Nat.le_refl _) _⟩
set_option maxHeartbeats 1000000 in
theorem isOneOf_f (z : Int) (c : Nat) (w : World) (hc : (c : Int) ≤ 1048576) : Calls Tryz.prog 77 #[.int .i64 z, .int .i64 (c : Int)] w fun e w' => e = .returned (.bool (decide (0 ≤ z ∧ z < (c : Int)))) ∧ w' = w := by
  by_cases h1 : 0 ≤ z
  · by_cases h2 : z < (c : Int)
    · have e : decide (0 ≤ z ∧ z < (c : Int)) = true := by simp [h1, h2]
      rw [e]
      go_enter Tryz.func77, Tryz.ntmps77
      go_wp2
      go_ret
      exact ⟨rfl, rfl⟩
    · have e : decide (0 ≤ z ∧ z < (c : Int)) = false := by simp [h1, h2]
      rw [e]
      go_enter Tryz.func77, Tryz.ntmps77
      go_wp2
      go_ret
      exact ⟨rfl, rfl⟩
  · have e : decide (0 ≤ z ∧ z < (c : Int)) = false := by simp [h1]
    rw [e]
    go_enter Tryz.func77, Tryz.ntmps77
    go_wp2
    go_ret
    exact ⟨rfl, rfl⟩
theorem law64 : Go.Maps.Keyed Tryz.prog 2 := Go.Maps.int_keyed Tryz.underlying2
/-- A set of numbers, in block b. -/
def SetAt (w : World) (b cnt : Nat) (D : DataW Unit) : Prop := w.ownsMap Tryz.prog 2 (unitElem (H := Unit)) b cnt D
set_option maxHeartbeats 2000000 in
set_option maxRecDepth 100000 in
theorem add_one (b cnt g c : Nat) (D : DataW Unit) (z : Int) (w : World) (hz : W64 z) (hcnt : cnt ≤ 1048576) (hc : w.cell? ⟨g, 0, none⟩ = some (.int .i64 z)) (hgb : ¬ g = b) (h : SetAt w b cnt D) :
    Calls Tryz.prog 117 #[.map (some b), .slice (some ⟨g, 0, none⟩) 1 c] w fun e w' => e = .returned (.tuple #[]) ∧ SetAt w' b (cnt + 1) (D.put (.int .i64 z) (.agg [])) ∧ w.grownBy w' (some b) := by
  have H : Hid (SetAt w b cnt D) := h
  clear h
  go_enter Tryz.func117, Tryz.ntmps117
  go_wp2
  go_loopw [8] (fun i wr => ∃ k : Nat, k ≤ 1 ∧ i = .int .i64 k ∧ ((k = 0 ∧ wr = w) ∨ (k = 1 ∧ Hid (SetAt wr b (cnt + 1) (D.put (.int .i64 z) (.agg [])) ∧ w.grownBy wr (some b))))) (fun i _ => 1 - (intOf i).toNat)
  case atStart => exact ⟨0, by omega, rfl, .inl ⟨rfl, rfl⟩⟩
  case round =>
    obtain ⟨k, hk, rfl, hh⟩ := hrel
    rcases hh with ⟨rfl, rfl⟩ | ⟨rfl, HE⟩
    · rw [show ((0 : Nat) : Int) = 0 from rfl]
      go_wp2_with (at_mapUpdate; refine wpList_mapUpdate_own _ rfl _ _ _ 142 rfl 2 205 law64 Tryz.underlying142 (unitElem (H := Unit)) b cnt D rfl H.out (by unfold maxLen; omega) _ _ _ rfl rfl (Go.Maps.keyOf_int_mk Tryz.underlying2 hz) _ [] unitElem_mk ?_; intro w1 hown1 hgrow1)
      have HN : Hid (SetAt w1 b (cnt + 1) (D.put (.int .i64 z) (.agg [])) ∧ _) := ⟨hown1, hgrow1⟩
      clear hown1 hgrow1
      go_wp2
      go_roundw
      case rel => exact ⟨1, by omega, by go_num, .inr ⟨rfl, HN⟩⟩
      case measure => simp [intOf]
    · rw [show ((1 : Nat) : Int) = 1 from rfl]
      go_wp2
      go_end0
      exact ⟨rfl, HE.out.1, HE.out.2⟩
end Go.Proofs.YtdfmdgbolmbffaaGreat
namespace Go.Proofs.YtdfmdgbolmbffaaGreat
open Go.ChangeShapes Go.WideShapes Go.ChangeAt Go.RowKit
set_option linter.unusedVariables false
/-- A graph's places and who dominates whom, as they are read. -/
structure GI (w : World) (G n gp cp gi ci : Nat) (pl : Nat → Nat) (I : Nat → Int) : Prop where
  p : w.cell? ⟨G, 3, none⟩ = some (.slice (some ⟨gp, 0, none⟩) n cp)
  i : w.cell? ⟨G, 4, none⟩ = some (.slice (some ⟨gi, 0, none⟩) n ci)
  pc : ∀ x, x < n → w.cell? ⟨gp, x, none⟩ = some (.int .i64 (pl x : Int))
  ic : ∀ x, x < n → w.cell? ⟨gi, x, none⟩ = some (.int .i64 (I x))
theorem GI.keep {w w' : World} {G n gp cp gi ci : Nat} {pl : Nat → Nat} {I : Nat → Int} (h : GI w G n gp cp gi ci pl I) (hb : Below w.heap.size w w') : GI w' G n gp cp gi ci pl I := ⟨bcell_keep hb h.p, bcell_keep hb h.i, fun x hx => bcell_keep hb (h.pc x hx), fun x hx => bcell_keep hb (h.ic x hx)⟩
set_option maxHeartbeats 4000000 in
set_option maxRecDepth 100000 in
theorem meet_any (G n gp cp gi ci a b : Nat) (pl : Nat → Nat) (I : Nat → Int) (w : World) (hn : n ≤ 1024) (ht : Tree n pl I) (hz : pl 0 = 0) (hinj : ∀ a b, a < n → b < n → pl a = pl b → a = b) (ha : a < n) (hb : b < n) (ka : Kn I a) (kb : Kn I b) (h : GI w G n gp cp gi ci pl I) :
    Calls Tryz.prog 144 #[.pointer (some ⟨G, 0, none⟩), .int .i64 (a : Int), .int .i64 (b : Int)] w fun e w' => ∃ m : Nat, e = .returned (.int .i64 (m : Int)) ∧ m < n ∧ Kn I m ∧ MeetIs I a b m ∧ Below w.heap.size w w' := by
  have H : Hid (GI w G n gp cp gi ci pl I ∧ Tree n pl I ∧ pl 0 = 0 ∧ (∀ a b, a < n → b < n → pl a = pl b → a = b)) := ⟨h, ht, hz, hinj⟩
  have K0 : Hid (Kn I a ∧ Kn I b) := ⟨ka, kb⟩
  clear h ht hz hinj ka kb
  go_enter Tryz.func144, Tryz.ntmps144
  go_wp2
  go_loopw [1, 2] (fun v u wr => ∃ x y : Nat, x < n ∧ y < n ∧ v = .int .i64 (x : Int) ∧ u = .int .i64 (y : Int) ∧ Hid (Kn I x ∧ Kn I y ∧ (∀ m, MeetIs I x y m → MeetIs I a b m) ∧ Below w.heap.size w wr)) (fun v u _ => pl (intOf v).toNat + pl (intOf u).toNat)
  case atStart => exact ⟨a, b, ha, hb, rfl, rfl, K0.out.1, K0.out.2, fun m h => h, Below.refl _ _⟩
  case round =>
    obtain ⟨x, y, hx, hy, rfl, rfl, HL⟩ := hrel
    by_cases e : x = y
    · subst e
      go_wp2
      go_ret
      exact ⟨x, rfl, hx, HL.out.1, HL.out.2.2.1 x (MeetIs.same I x), HL.out.2.2.2⟩
    · have eI : ¬ (x : Int) = (y : Int) := by omega
      have eB : ((x : Int) == (y : Int)) = false := by simpa using eI
      have eN : ((x : Int) != (y : Int)) = true := by simpa using eI
      have hg := H.out.1.keep HL.out.2.2.2
      have p0 := hg.p
      have i0 := hg.i
      have px := hg.pc x hx
      have py := hg.pc y hy
      have ix := hg.ic x hx
      have iy := hg.ic y hy
      clear hg
      have hxI : (x : Int) < (n : Int) := by omega
      have hyI : (y : Int) < (n : Int) := by omega
      by_cases hp : pl y < pl x
      · have hpI : (pl y : Int) < (pl x : Int) := by omega
        have hx0 : x ≠ 0 := fun q => by have := H.out.2.2.1; rw [q] at hp; omega
        obtain ⟨c, c1, c2, c3, c4⟩ := H.out.2.1.up x hx hx0 (HL.out.1.resolve_left hx0)
        rw [c1] at ix
        have HN : Hid (Kn I c ∧ Kn I y ∧ (∀ m, MeetIs I c y m → MeetIs I a b m) ∧ Below w.heap.size w wr ∧ pl c < pl x) := ⟨c4, HL.out.2.1, fun m hm => HL.out.2.2.1 m (MeetIs.left H.out.2.1 hy hp hx0 c1 hm), HL.out.2.2.2, c3⟩
        clear c1 c4
        go_wp2
        go_quiet (fail)
        refine with_world (fun u => Hid (Below wr.heap.size wr u)) (below_drewN _ _ _) ?_
        intro U HU
        replace p0 := bcell_keep HU.out p0
        replace i0 := bcell_keep HU.out i0
        replace ix := bcell_keep HU.out ix
        clear px py iy
        go_wp2
        go_roundw
        case rel => exact ⟨c, y, c2, hy, rfl, rfl, HN.out.1, HN.out.2.1, HN.out.2.2.1, below_on HN.out.2.2.2.1 (Nat.le_refl _) HU.out⟩
        case measure => simp [intOf]; have := HN.out.2.2.2.2; omega
      · have hpI : ¬ (pl y : Int) < (pl x : Int) := by omega
        have hp2 : pl x < pl y := by
          have := H.out.2.2.2 x y hx hy
          omega
        have hy0 : y ≠ 0 := fun q => by have := H.out.2.2.1; rw [q] at hp2; omega
        obtain ⟨c, c1, c2, c3, c4⟩ := H.out.2.1.up y hy hy0 (HL.out.2.1.resolve_left hy0)
        rw [c1] at iy
        have HN : Hid (Kn I x ∧ Kn I c ∧ (∀ m, MeetIs I x c m → MeetIs I a b m) ∧ Below w.heap.size w wr ∧ pl c < pl y) := ⟨HL.out.1, c4, fun m hm => HL.out.2.2.1 m (MeetIs.symm (MeetIs.left H.out.2.1 hx hp2 hy0 c1 hm.symm)), HL.out.2.2.2, c3⟩
        clear c1 c4
        go_wp2
        go_quiet (fail)
        refine with_world (fun u => Hid (Below wr.heap.size wr u)) (below_drewN _ _ _) ?_
        intro U HU
        replace p0 := bcell_keep HU.out p0
        replace i0 := bcell_keep HU.out i0
        replace iy := bcell_keep HU.out iy
        clear px py ix
        go_wp2
        go_roundw
        case rel => exact ⟨x, c, hx, c2, rfl, rfl, HN.out.1, HN.out.2.1, HN.out.2.2.1, below_on HN.out.2.2.2.1 (Nat.le_refl _) HU.out⟩
        case measure => simp [intOf]; have := HN.out.2.2.2.2; omega
/-- One more that is not known. -/
theorem CommonIs.skip {n : Nat} {I : Nat → Int} {ps : List Nat} {z : Int} {p : Nat} (h : CommonIs n I ps z) (hp : ¬ Kn I p) : CommonIs n I (ps ++ [p]) z := by
  have hm : ∀ q, q ∈ ps ++ [p] → q ∈ ps ∨ q = p := fun q hq => by simpa using hq
  rcases h with ⟨h1, h2⟩ | ⟨m, h1, h2, h3, ⟨q, h4, h4'⟩, h5⟩
  · exact .inl ⟨h1, fun q hq => (hm q hq).elim (h2 q) (fun e => by rw [e]; exact hp)⟩
  · refine .inr ⟨m, h1, h2, h3, ⟨q, List.mem_append.2 (.inl h4), h4'⟩, fun d => ?_⟩
    rw [h5 d]
    exact ⟨fun k q hq hk => (hm q hq).elim (fun r => k q r hk) (fun e => absurd (e ▸ hk) hp), fun k q hq hk => k q (List.mem_append.2 (.inl hq)) hk⟩
theorem CommonIs.first {n : Nat} {I : Nat → Int} {ps : List Nat} {p : Nat} (h : CommonIs n I ps (-1)) (hp : Kn I p) (hn : p < n) : CommonIs n I (ps ++ [p]) (p : Int) := by
  have hm : ∀ q, q ∈ ps ++ [p] → q ∈ ps ∨ q = p := fun q hq => by simpa using hq
  rcases h with ⟨h1, h2⟩ | ⟨m, h1, _⟩
  · refine .inr ⟨p, rfl, hn, hp, ⟨p, by simp, hp⟩, fun d => ⟨fun k q hq hk => (hm q hq).elim (fun r => absurd hk (h2 q r)) (fun e => e ▸ k), fun k => k p (by simp) hp⟩⟩
  · omega
theorem CommonIs.meet {n : Nat} {I : Nat → Int} {ps : List Nat} {p m m' : Nat} (h : CommonIs n I ps (m : Int)) (hp : Kn I p) (hm' : m' < n) (hk' : Kn I m') (hM : MeetIs I m p m') : CommonIs n I (ps ++ [p]) (m' : Int) := by
  have hm : ∀ q, q ∈ ps ++ [p] → q ∈ ps ∨ q = p := fun q hq => by simpa using hq
  rcases h with ⟨h1, _⟩ | ⟨m0, h1, h2, h3, ⟨q, h4, h4'⟩, h5⟩
  · omega
  · obtain rfl : m = m0 := by omega
    refine .inr ⟨m', rfl, hm', hk', ⟨q, List.mem_append.2 (.inl h4), h4'⟩, fun d => ?_⟩
    rw [hM d, h5 d]
    exact ⟨fun k q hq hk => (hm q hq).elim (fun r => k.1 q r hk) (fun e => e ▸ k.2), fun k => ⟨fun q hq hk => k q (List.mem_append.2 (.inl hq)) hk, k p (by simp) hp⟩⟩
theorem CommonIs.some {n : Nat} {I : Nat → Int} {ps : List Nat} {z : Int} (h : CommonIs n I ps z) (hz : z ≠ -1) : ∃ m : Nat, z = (m : Int) ∧ m < n ∧ Kn I m := by
  rcases h with ⟨h1, _⟩ | ⟨m, h1, h2, h3, _⟩
  · exact absurd h1 hz
  · exact ⟨m, h1, h2, h3⟩
set_option maxHeartbeats 8000000 in
set_option maxRecDepth 100000 in
theorem commonOf_any (G n gp cp gi ci : Nat) (pl : Nat → Nat) (I : Nat → Int) (s : Value) (ps : List Nat) (w : World) (hn : n ≤ 1024) (ht : Tree n pl I) (hz : pl 0 = 0) (hinj : ∀ a b, a < n → b < n → pl a = pl b → a = b) (hps : ∀ p ∈ ps, p < n) (hpl : ps.length ≤ 4096) (hs : RdN w s ps) (h : GI w G n gp cp gi ci pl I) :
    Calls Tryz.prog 143 #[.pointer (some ⟨G, 0, none⟩), s] w fun e w' => ∃ z, e = .returned (.int .i64 z) ∧ CommonIs n I ps z ∧ Below w.heap.size w w' := by
  have H : Hid (GI w G n gp cp gi ci pl I ∧ RdN w s ps ∧ (∀ p ∈ ps, p < n)) := ⟨h, hs, hps⟩
  obtain ⟨a1, c1, rfl⟩ := Rd.is_slice hs
  have HT : Hid (∀ (a b : Nat) (U : World), a < n → b < n → Kn I a → Kn I b → GI U G n gp cp gi ci pl I → Calls Tryz.prog 144 #[.pointer (some ⟨G, 0, none⟩), .int .i64 (a : Int), .int .i64 (b : Int)] U fun e w' => ∃ m : Nat, e = .returned (.int .i64 (m : Int)) ∧ m < n ∧ Kn I m ∧ MeetIs I a b m ∧ Below U.heap.size U w') := fun a b U ha hb ka kb hU => meet_any G n gp cp gi ci a b pl I U hn ht hz hinj ha hb ka kb hU
  clear h hs hps ht hz hinj
  go_enter Tryz.func143, Tryz.ntmps143
  go_wp2
  go_loopw [5, 11] (fun v i wr => ∃ (k : Nat) (z : Int), k ≤ ps.length ∧ v = .int .i64 z ∧ i = .int .i64 k ∧ Hid (CommonIs n I (ps.take k) z ∧ Below w.heap.size w wr)) (fun _ i _ => ps.length - (intOf i).toNat)
  case atStart => exact ⟨0, -1, by omega, rfl, rfl, .inl ⟨rfl, fun p hp => by simp at hp⟩, Below.refl _ _⟩
  case round =>
    obtain ⟨k, z, hk, rfl, rfl, HL⟩ := hrel
    by_cases hlt : k < ps.length
    · have hltI : (k : Int) < (ps.length : Int) := by omega
      obtain ⟨p, hp⟩ : ∃ p, ps[k]? = some p := ⟨_, List.getElem?_eq_getElem hlt⟩
      have hpn : p < n := H.out.2.2 p (List.mem_of_getElem? hp)
      have hpnI : (p : Int) < (n : Int) := by omega
      have HTK : Hid (ps.take (k + 1) = ps.take k ++ [p]) := by
        obtain ⟨hl, rfl⟩ := List.getElem?_eq_some_iff.1 hp
        exact List.take_succ_eq_append_getElem hl
      obtain ⟨ga, oa, rfl, _, y0⟩ := H.out.2.1.at_ hp
      replace y0 := bcell_keep HL.out.2 y0
      have hg := H.out.1.keep HL.out.2
      have i0 := hg.i
      have ip := hg.ic p hpn
      clear hp hg
      by_cases hkn : Kn I p
      · have HKB : Hid (Kn I p) := hkn
        go_upto_region 5 with fail
        go_cut [8] from 15 to 26 (fun c wx => c = .bool true ∧ wx = wr)
        case first =>
          by_cases hp0 : p = 0
          · subst hp0
            go_wp2
            go_meet
            case rel => exact ⟨rfl, rfl⟩
          · have hp0B : ((p : Int) == 0) = false := by simp; omega
            have hpi := HKB.out.resolve_left hp0
            have hpiB : (I p == -1) = false := by simpa using hpi
            have hpiN : (I p != -1) = true := by simpa using hpi
            go_wp2
            go_meet
            case rel => exact ⟨rfl, rfl⟩
        case rest =>
          obtain ⟨rfl, hwc⟩ := hcut
          rw [hwc]
          clear hwc y0 i0 ip
          by_cases hz1 : z = -1
          · subst hz1
            have HN : Hid (CommonIs n I (ps.take (k + 1)) (p : Int)) := by
              show CommonIs _ _ _ _
              rw [HTK.out]
              exact HL.out.1.first HKB.out hpn
            go_wp2
            go_roundw
            case rel => exact ⟨k + 1, _, by omega, rfl, by go_num, HN.out, HL.out.2⟩
            case measure => simp [intOf]; omega
          · have hzB : (z == -1) = false := by simpa using hz1
            obtain ⟨m, rfl, hm, hkm⟩ := HL.out.1.some hz1
            go_wp2_with fail
            refine (HT.out m p wr hm hpn hkm HKB.out (H.out.1.keep HL.out.2)).mono ?_
            rintro e u1 ⟨m', rfl, h1, h2, h3, b1⟩
            have HN : Hid (CommonIs n I (ps.take (k + 1)) (m' : Int) ∧ Below w.heap.size w u1) := by
              refine ⟨?_, below_on HL.out.2 (Nat.le_refl _) b1⟩
              rw [HTK.out]
              exact HL.out.1.meet HKB.out h1 h2 h3
            clear h2 h3 b1
            go_wp2
            go_roundw
            case rel => exact ⟨k + 1, _, by omega, rfl, by go_num, HN.out⟩
            case measure => simp [intOf]; omega
      · have hp0 : ¬ p = 0 := fun q => hkn (.inl q)
        have hpi : I p = -1 := Classical.byContradiction fun q => hkn (.inr q)
        have hp0B : ((p : Int) == 0) = false := by simp; omega
        rw [hpi] at ip
        have HN : Hid (CommonIs n I (ps.take (k + 1)) z) := by
          show CommonIs _ _ _ _
          rw [HTK.out]
          exact HL.out.1.skip hkn
        go_wp2
        go_roundw
        case rel => exact ⟨k + 1, z, by omega, by trivial, by go_num, HN.out, HL.out.2⟩
        case measure => simp [intOf]; omega
    · obtain rfl : k = ps.length := by omega
      have HN : Hid (CommonIs n I ps z) := by
        have := HL.out.1
        rw [List.take_of_length_le (Nat.le_refl _)] at this
        exact this
      go_wp2
      go_ret
      exact ⟨z, rfl, HN.out, HL.out.2⟩
end Go.Proofs.YtdfmdgbolmbffaaGreat
