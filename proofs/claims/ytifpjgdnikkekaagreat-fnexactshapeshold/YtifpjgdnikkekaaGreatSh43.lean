import Derived.Test.YtifpjgdnikkekaaGreatSh42
import Derived.Test.YtifpjgdnikkekaaGreatSh31
import Derived.Test.YtifpjgdnikkekaaGreatSh40
import Derived.Test.YtifpjgdnikkekaaGreatSh32
import Derived.Test.YtifpjgdnikkekaaGreatSh41
namespace Go.Proofs.YtifpjgdnikkekaaGreat
open Go.ChangeShapes Go.WideShapes Go.ChangeAt Go.RowKit
set_option linter.unusedVariables false
/-- What is asked of a scope whose flow has no code. -/
structure ScIn (w : World) (v : VP) (p : MP) (g : VF) (f : MF) : Prop where
  ps : p.small
  pf : FaultIs p 0
  fs : f.small
  rp : RdP w v p
  rf : RdF w g f
  c1 : 1 ≤ f.code.length
  cl : f.code.length ≤ 1024
  pl : PlacesOk f.code
  ok : ∀ x ∈ f.code, InstrOk p f x
  last : ∀ (k : Nat) x, f.code[k]? = some x → onB x = true → k + 1 < f.code.length
set_option maxHeartbeats 8000000 in
set_option maxRecDepth 100000 in
theorem shapesHold_any (v : VP) (p : MP) (g : VF) (f : MF) (shv : Value) (shs : List (List Int)) (w : World) (h : ScIn w v p g f) (hrs : RdRc w shv shs) (hrows : ∀ r ∈ shs, r.length ≤ 1048576) (hsl : shs.length ≤ 1048576) :
    Calls Tryz.prog 50 #[.agg #[v.r, v.k, v.f, v.t, g.p, .int .i64 f.result, g.l, g.c], shv] w fun e w' => SaysIff e (ShapesT p f shs) ∧ Below w.heap.size w w' := by
  obtain ⟨r1, r3, k1, k3, t1, t3, f1, f3, rfl⟩ := h.rp.sl
  obtain ⟨g1, g3, g4, g6, g7, g9, rfl⟩ := rdF_sl h.rf
  obtain ⟨ha, hc, rfl⟩ : ∃ a c, shv = .slice a shs.length c := by obtain ⟨_, _, h2, _⟩ := hrs; exact h2.is_slice
  have H : Hid (ScIn w ⟨.slice r1 p.regions.length r3, .slice k1 p.consts.length k3, .slice f1 p.funcs.length f3, .slice t1 p.certs.length t3⟩ p ⟨.slice g1 f.params.length g3, .slice g4 f.locals.length g6, .slice g7 f.code.length g9⟩ f ∧ RdRc w (.slice ha shs.length hc) shs ∧ ∀ r ∈ shs, r.length ≤ 1048576) := ⟨h, hrs, hrows⟩
  have hcl := h.cl
  have hc1 := h.c1
  have HBL : Hid (Blk (w.alloc (.cells #[.slice r1 p.regions.length r3, .slice k1 p.consts.length k3, .slice f1 p.funcs.length f3, .slice t1 p.certs.length t3, .slice g1 f.params.length g3, .int .i64 f.result, .slice g4 f.locals.length g6, .slice g7 f.code.length g9] 85)) w.heap.size #[.slice r1 p.regions.length r3, .slice k1 p.consts.length k3, .slice f1 p.funcs.length f3, .slice t1 p.certs.length t3, .slice g1 f.params.length g3, .int .i64 f.result, .slice g4 f.locals.length g6, .slice g7 f.code.length g9] 85 ∧ Below w.heap.size w (w.alloc (.cells #[.slice r1 p.regions.length r3, .slice k1 p.consts.length k3, .slice f1 p.funcs.length f3, .slice t1 p.certs.length t3, .slice g1 f.params.length g3, .int .i64 f.result, .slice g4 f.locals.length g6, .slice g7 f.code.length g9] 85))) := ⟨Blk.new _ _ _, below_alloc _ _⟩
  clear h hrs hrows
  generalize p.regions.length = nr at H HBL ⊢
  generalize p.consts.length = nk at H HBL ⊢
  generalize p.funcs.length = nf at H HBL ⊢
  generalize p.certs.length = nt at H HBL ⊢
  generalize f.params.length = np at H HBL ⊢
  generalize f.locals.length = nl at H HBL ⊢
  generalize hnc : f.code.length = nc at H HBL hcl hc1 ⊢
  have HNC : Hid (f.code.length = nc) := hnc
  clear hnc
  generalize hns : shs.length = ns at H hsl ⊢
  have HNS : Hid (shs.length = ns) := hns
  clear hns
  go_enter Tryz.func50, Tryz.ntmps50
  go_upto_region 1 with fail
  refine wp_world (fun u => Hid (Blk u w.heap.size #[.slice r1 nr r3, .slice k1 nk k3, .slice f1 nf f3, .slice t1 nt t3, .slice g1 np g3, .int .i64 f.result, .slice g4 nl g6, .slice g7 nc g9] 85 ∧ Below w.heap.size w u)) HBL ?_
  rintro U E1
  clear HBL
  obtain ⟨s0, s1, s2, s3, s4, s5, s6, s7⟩ := cel8 E1.out.1
  by_cases hln : ns = nc
  · subst hln
    obtain ⟨sh0, hsh0⟩ : ∃ s, shs[0]? = some s := ⟨_, List.getElem?_eq_getElem (by rw [HNS.out]; omega)⟩
    obtain ⟨gg, oo, sa, sc, eha, j0, hr0, _⟩ := shape_row (H.out.2.1.keep E1.out.2 (Nat.le_refl _)) HNS.out.symm hsh0
    subst eha
    rw [Nat.add_zero] at j0
    have hposI : (0 : Int) < (ns : Int) := by omega
    have HS0 : Hid (shs[0]? = some sh0) := hsh0
    clear hsh0 hr0
    by_cases hz : 0 < sh0.length
    · have hz' : (0 : Int) < (sh0.length : Int) := by omega
      have HN : Hid (¬ ShapesT p f shs) := fun e => by
        have := e.first
        rw [HS0.out] at this
        obtain rfl := Option.some.inj this
        simp at hz
      clear hz
      go_wp2_with fail
      go_ret
      exact ⟨.no HN.out, E1.out.2⟩
    · have hz' : ¬ (0 : Int) < (sh0.length : Int) := by omega
      have HZ : Hid (shs[0]? = some []) := by
        have := HS0.out
        rw [List.eq_nil_of_length_eq_zero (show sh0.length = 0 by omega)] at this
        exact this
      clear hz
      go_wp2_with fail
      clear j0 s0 s1 s2 s3 s4 s5 s6 s7 hz' hposI
      go_loopw [5, 22] (fun _ i wr => ∃ k : Nat, k ≤ ns ∧ i = .int .i64 (k : Int) ∧ Hid ((∀ (i : Nat) x sh, i < k → f.code[i]? = some x → shs[i]? = some sh → HoldsT p f shs i x sh) ∧ Blk wr w.heap.size #[.slice r1 nr r3, .slice k1 nk k3, .slice f1 nf f3, .slice t1 nt t3, .slice g1 np g3, .int .i64 f.result, .slice g4 nl g6, .slice g7 ns g9] 85 ∧ Below w.heap.size w wr)) (fun _ i _ => ns - (intOf i).toNat)
      case atStart => exact ⟨0, by omega, rfl, fun i x sh hi => absurd hi (by omega), E1.out⟩
      case round =>
        clear E1
        obtain ⟨k, hk, rfl, HI⟩ := hrel
        by_cases hlt : k < ns
        · obtain ⟨x, hx⟩ : ∃ x, f.code[k]? = some x := ⟨_, List.getElem?_eq_getElem (by rw [HNC.out]; exact hlt)⟩
          obtain ⟨sh, hsh⟩ : ∃ s, shs[k]? = some s := ⟨_, List.getElem?_eq_getElem (by rw [HNS.out]; exact hlt)⟩
          have HX : Hid (f.code[k]? = some x ∧ shs[k]? = some sh) := ⟨hx, hsh⟩
          clear hx hsh
          obtain ⟨s0, s1, s2, s3, s4, s5, s6, s7⟩ := cel8 HI.out.2.1
          go_wp2_with fail
          refine (shapeHolds_any ⟨.slice r1 nr r3, .slice k1 nk k3, .slice f1 nf f3, .slice t1 nt t3⟩ p ⟨.slice g1 np g3, .slice g4 nl g6, .slice g7 ns g9⟩ f (.slice (some ⟨gg, oo, none⟩) ns hc) shs k x sh wr ⟨H.out.1.ps, H.out.1.pf, H.out.1.fs, H.out.1.rp.keep HI.out.2.2 (Nat.le_refl _), H.out.1.rf.keep HI.out.2.2 (Nat.le_refl _), H.out.2.1.keep HI.out.2.2 (Nat.le_refl _), by rw [HNS.out, HNC.out], H.out.1.cl, H.out.1.pl, H.out.2.2, H.out.1.ok⟩ HX.out.1 HX.out.2 (H.out.1.last k x HX.out.1)).mono ?_
          rintro e u2 ⟨⟨b2, rfl, hb2⟩, bl2⟩
          have E2 : Hid (Blk u2 w.heap.size #[.slice r1 nr r3, .slice k1 nk k3, .slice f1 nf f3, .slice t1 nt t3, .slice g1 np g3, .int .i64 f.result, .slice g4 nl g6, .slice g7 ns g9] 85 ∧ Below w.heap.size w u2) := ⟨HI.out.2.1.keep bl2, below_on HI.out.2.2 (Nat.le_refl _) bl2⟩
          have HB2 : Hid (b2 = true ↔ HoldsT p f shs k x sh) := hb2
          have HI1 : Hid (∀ (i : Nat) x sh, i < k → f.code[i]? = some x → shs[i]? = some sh → HoldsT p f shs i x sh) := HI.out.1
          clear hb2 bl2 HI s0 s1 s2 s3 s4 s5 s6 s7
          cases b2
          · have HN : Hid (¬ ShapesT p f shs) := fun e => by
              have := HB2.out.2 (e.all k x sh HX.out.1 HX.out.2)
              cases this
            go_wp2_with fail
            go_ret
            exact ⟨.no HN.out, E2.out.2⟩
          · have HN : Hid (∀ (i : Nat) x sh, i < k + 1 → f.code[i]? = some x → shs[i]? = some sh → HoldsT p f shs i x sh) := fun i y t hi hy ht => by
              by_cases e : i = k
              · subst e
                rw [HX.out.1] at hy
                rw [HX.out.2] at ht
                obtain rfl := Option.some.inj hy
                obtain rfl := Option.some.inj ht
                exact HB2.out.1 (by first | rfl | trivial)
              · exact HI1.out i y t (by omega) hy ht
            go_wp2_with fail
            go_roundw
            case rel => exact ⟨k + 1, by omega, by go_num, HN.out, E2.out⟩
            case measure => simp [intOf]; omega
        · have hkn : k = ns := by omega
          subst hkn
          have HY : Hid (ShapesT p f shs) := ⟨by rw [HNS.out, HNC.out], HZ.out, fun i x sh hx hs => HI.out.1 i x sh (by have := (List.getElem?_eq_some_iff.1 hx).1; rw [HNC.out] at this; exact this) hx hs⟩
          go_wp2_with fail
          go_ret
          exact ⟨.yes HY.out, HI.out.2.2⟩
  · have hln' : ((ns : Int) != (nc : Int)) = true := by simp; omega
    have HN : Hid (¬ ShapesT p f shs) := fun e => hln (by rw [← HNS.out, ← HNC.out]; exact e.len)
    clear hln
    go_wp2_with fail
    go_ret
    exact ⟨.no HN.out, E1.out.2⟩
end Go.Proofs.YtifpjgdnikkekaaGreat
namespace Go.Proofs.YtifpjgdnikkekaaGreat
open Go.ChangeShapes Go.WideShapes Go.ChangeAt Go.RowKit
set_option linter.unusedVariables false
/-- A graph's places and who dominates whom, as they are read. -/
structure GI (w : World) (G n gp cp gi ci : Nat) (pl : Nat → Nat) (I : Nat → Int) : Prop where
  p : w.cell? ⟨G, 3, none⟩ = some (.slice (some ⟨gp, 0, none⟩) n cp)
  i : w.cell? ⟨G, 4, none⟩ = some (.slice (some ⟨gi, 0, none⟩) n ci)
  pc : ∀ x, x < n → w.cell? ⟨gp, x, none⟩ = some (.int .i64 (pl x : Int))
  ic : ∀ x, x < n → w.cell? ⟨gi, x, none⟩ = some (.int .i64 (I x))
theorem GI.keep {w w' : World} {G n gp cp gi ci : Nat} {pl : Nat → Nat} {I : Nat → Int} (h : GI w G n gp cp gi ci pl I) (hb : Below w.heap.size w w') : GI w' G n gp cp gi ci pl I := ⟨bcell_keep hb h.p, bcell_keep hb h.i, fun x hx => bcell_keep hb (h.pc x hx), fun x hx => bcell_keep hb (h.ic x hx)⟩
set_option maxHeartbeats 4000000 in
set_option maxRecDepth 100000 in
theorem meet_any (G n gp cp gi ci a b : Nat) (pl : Nat → Nat) (I : Nat → Int) (w : World) (hn : n ≤ 1024) (ht : Tree n pl I) (hz : pl 0 = 0) (hinj : ∀ a b, a < n → b < n → pl a = pl b → a = b) (ha : a < n) (hb : b < n) (ka : Kn I a) (kb : Kn I b) (h : GI w G n gp cp gi ci pl I) :
    Calls Tryz.prog 144 #[.pointer (some ⟨G, 0, none⟩), .int .i64 (a : Int), .int .i64 (b : Int)] w fun e w' => ∃ m : Nat, e = .returned (.int .i64 (m : Int)) ∧ m < n ∧ Kn I m ∧ MeetIs I a b m ∧ Below w.heap.size w w' := by
  have H : Hid (GI w G n gp cp gi ci pl I ∧ Tree n pl I ∧ pl 0 = 0 ∧ (∀ a b, a < n → b < n → pl a = pl b → a = b)) := ⟨h, ht, hz, hinj⟩
  have K0 : Hid (Kn I a ∧ Kn I b) := ⟨ka, kb⟩
  clear h ht hz hinj ka kb
  go_enter Tryz.func144, Tryz.ntmps144
  go_wp2
  go_loopw [1, 2] (fun v u wr => ∃ x y : Nat, x < n ∧ y < n ∧ v = .int .i64 (x : Int) ∧ u = .int .i64 (y : Int) ∧ Hid (Kn I x ∧ Kn I y ∧ (∀ m, MeetIs I x y m → MeetIs I a b m) ∧ Below w.heap.size w wr)) (fun v u _ => pl (intOf v).toNat + pl (intOf u).toNat)
  case atStart => exact ⟨a, b, ha, hb, rfl, rfl, K0.out.1, K0.out.2, fun m h => h, Below.refl _ _⟩
  case round =>
    obtain ⟨x, y, hx, hy, rfl, rfl, HL⟩ := hrel
    by_cases e : x = y
    · subst e
      go_wp2
      go_ret
      exact ⟨x, rfl, hx, HL.out.1, HL.out.2.2.1 x (MeetIs.same I x), HL.out.2.2.2⟩
    · have eI : ¬ (x : Int) = (y : Int) := by omega
      have eB : ((x : Int) == (y : Int)) = false := by simpa using eI
      have eN : ((x : Int) != (y : Int)) = true := by simpa using eI
      have hg := H.out.1.keep HL.out.2.2.2
      have p0 := hg.p
      have i0 := hg.i
      have px := hg.pc x hx
      have py := hg.pc y hy
      have ix := hg.ic x hx
      have iy := hg.ic y hy
      clear hg
      have hxI : (x : Int) < (n : Int) := by omega
      have hyI : (y : Int) < (n : Int) := by omega
      by_cases hp : pl y < pl x
      · have hpI : (pl y : Int) < (pl x : Int) := by omega
        have hx0 : x ≠ 0 := fun q => by have := H.out.2.2.1; rw [q] at hp; omega
        obtain ⟨c, c1, c2, c3, c4⟩ := H.out.2.1.up x hx hx0 (HL.out.1.resolve_left hx0)
        rw [c1] at ix
        have HN : Hid (Kn I c ∧ Kn I y ∧ (∀ m, MeetIs I c y m → MeetIs I a b m) ∧ Below w.heap.size w wr ∧ pl c < pl x) := ⟨c4, HL.out.2.1, fun m hm => HL.out.2.2.1 m (MeetIs.left H.out.2.1 hy hp hx0 c1 hm), HL.out.2.2.2, c3⟩
        clear c1 c4
        go_wp2
        go_quiet (fail)
        refine with_world (fun u => Hid (Below wr.heap.size wr u)) (below_drewN _ _ _) ?_
        intro U HU
        replace p0 := bcell_keep HU.out p0
        replace i0 := bcell_keep HU.out i0
        replace ix := bcell_keep HU.out ix
        clear px py iy
        go_wp2
        go_roundw
        case rel => exact ⟨c, y, c2, hy, rfl, rfl, HN.out.1, HN.out.2.1, HN.out.2.2.1, below_on HN.out.2.2.2.1 (Nat.le_refl _) HU.out⟩
        case measure => simp [intOf]; have := HN.out.2.2.2.2; omega
      · have hpI : ¬ (pl y : Int) < (pl x : Int) := by omega
        have hp2 : pl x < pl y := by
          have := H.out.2.2.2 x y hx hy
          omega
        have hy0 : y ≠ 0 := fun q => by have := H.out.2.2.1; rw [q] at hp2; omega
        obtain ⟨c, c1, c2, c3, c4⟩ := H.out.2.1.up y hy hy0 (HL.out.2.1.resolve_left hy0)
        rw [c1] at iy
        have HN : Hid (Kn I x ∧ Kn I c ∧ (∀ m, MeetIs I x c m → MeetIs I a b m) ∧ Below w.heap.size w wr ∧ pl c < pl y) := ⟨HL.out.1, c4, fun m hm => HL.out.2.2.1 m (MeetIs.symm (MeetIs.left H.out.2.1 hx hp2 hy0 c1 hm.symm)), HL.out.2.2.2, c3⟩
        clear c1 c4
        go_wp2
        go_quiet (fail)
        refine with_world (fun u => Hid (Below wr.heap.size wr u)) (below_drewN _ _ _) ?_
        intro U HU
        replace p0 := bcell_keep HU.out p0
        replace i0 := bcell_keep HU.out i0
        replace iy := bcell_keep HU.out iy
        clear px py ix
        go_wp2
        go_roundw
        case rel => exact ⟨x, c, hx, c2, rfl, rfl, HN.out.1, HN.out.2.1, HN.out.2.2.1, below_on HN.out.2.2.2.1 (Nat.le_refl _) HU.out⟩
        case measure => simp [intOf]; have := HN.out.2.2.2.2; omega
/-- One more that is not known. -/
theorem CommonIs.skip {n : Nat} {I : Nat → Int} {ps : List Nat} {z : Int} {p : Nat} (h : CommonIs n I ps z) (hp : ¬ Kn I p) : CommonIs n I (ps ++ [p]) z := by
  have hm : ∀ q, q ∈ ps ++ [p] → q ∈ ps ∨ q = p := fun q hq => by simpa using hq
  rcases h with ⟨h1, h2⟩ | ⟨m, h1, h2, h3, ⟨q, h4, h4'⟩, h5⟩
  · exact .inl ⟨h1, fun q hq => (hm q hq).elim (h2 q) (fun e => by rw [e]; exact hp)⟩
  · refine .inr ⟨m, h1, h2, h3, ⟨q, List.mem_append.2 (.inl h4), h4'⟩, fun d => ?_⟩
    rw [h5 d]
    exact ⟨fun k q hq hk => (hm q hq).elim (fun r => k q r hk) (fun e => absurd (e ▸ hk) hp), fun k q hq hk => k q (List.mem_append.2 (.inl hq)) hk⟩
theorem CommonIs.first {n : Nat} {I : Nat → Int} {ps : List Nat} {p : Nat} (h : CommonIs n I ps (-1)) (hp : Kn I p) (hn : p < n) : CommonIs n I (ps ++ [p]) (p : Int) := by
  have hm : ∀ q, q ∈ ps ++ [p] → q ∈ ps ∨ q = p := fun q hq => by simpa using hq
  rcases h with ⟨h1, h2⟩ | ⟨m, h1, _⟩
  · refine .inr ⟨p, rfl, hn, hp, ⟨p, by simp, hp⟩, fun d => ⟨fun k q hq hk => (hm q hq).elim (fun r => absurd hk (h2 q r)) (fun e => e ▸ k), fun k => k p (by simp) hp⟩⟩
  · omega
theorem CommonIs.meet {n : Nat} {I : Nat → Int} {ps : List Nat} {p m m' : Nat} (h : CommonIs n I ps (m : Int)) (hp : Kn I p) (hm' : m' < n) (hk' : Kn I m') (hM : MeetIs I m p m') : CommonIs n I (ps ++ [p]) (m' : Int) := by
  have hm : ∀ q, q ∈ ps ++ [p] → q ∈ ps ∨ q = p := fun q hq => by simpa using hq
  rcases h with ⟨h1, _⟩ | ⟨m0, h1, h2, h3, ⟨q, h4, h4'⟩, h5⟩
  · omega
  · obtain rfl : m = m0 := by omega
    refine .inr ⟨m', rfl, hm', hk', ⟨q, List.mem_append.2 (.inl h4), h4'⟩, fun d => ?_⟩
    rw [hM d, h5 d]
    exact ⟨fun k q hq hk => (hm q hq).elim (fun r => k.1 q r hk) (fun e => e ▸ k.2), fun k => ⟨fun q hq hk => k q (List.mem_append.2 (.inl hq)) hk, k p (by simp) hp⟩⟩
theorem CommonIs.some {n : Nat} {I : Nat → Int} {ps : List Nat} {z : Int} (h : CommonIs n I ps z) (hz : z ≠ -1) : ∃ m : Nat, z = (m : Int) ∧ m < n ∧ Kn I m := by
  rcases h with ⟨h1, _⟩ | ⟨m, h1, h2, h3, _⟩
  · exact absurd h1 hz
  · exact ⟨m, h1, h2, h3⟩
set_option maxHeartbeats 8000000 in
set_option maxRecDepth 100000 in
theorem commonOf_any (G n gp cp gi ci : Nat) (pl : Nat → Nat) (I : Nat → Int) (s : Value) (ps : List Nat) (w : World) (hn : n ≤ 1024) (ht : Tree n pl I) (hz : pl 0 = 0) (hinj : ∀ a b, a < n → b < n → pl a = pl b → a = b) (hps : ∀ p ∈ ps, p < n) (hpl : ps.length ≤ 4096) (hs : RdN w s ps) (h : GI w G n gp cp gi ci pl I) :
    Calls Tryz.prog 143 #[.pointer (some ⟨G, 0, none⟩), s] w fun e w' => ∃ z, e = .returned (.int .i64 z) ∧ CommonIs n I ps z ∧ Below w.heap.size w w' := by
  have H : Hid (GI w G n gp cp gi ci pl I ∧ RdN w s ps ∧ (∀ p ∈ ps, p < n)) := ⟨h, hs, hps⟩
  obtain ⟨a1, c1, rfl⟩ := Rd.is_slice hs
  have HT : Hid (∀ (a b : Nat) (U : World), a < n → b < n → Kn I a → Kn I b → GI U G n gp cp gi ci pl I → Calls Tryz.prog 144 #[.pointer (some ⟨G, 0, none⟩), .int .i64 (a : Int), .int .i64 (b : Int)] U fun e w' => ∃ m : Nat, e = .returned (.int .i64 (m : Int)) ∧ m < n ∧ Kn I m ∧ MeetIs I a b m ∧ Below U.heap.size U w') := fun a b U ha hb ka kb hU => meet_any G n gp cp gi ci a b pl I U hn ht hz hinj ha hb ka kb hU
  clear h hs hps ht hz hinj
  go_enter Tryz.func143, Tryz.ntmps143
  go_wp2
  go_loopw [5, 11] (fun v i wr => ∃ (k : Nat) (z : Int), k ≤ ps.length ∧ v = .int .i64 z ∧ i = .int .i64 k ∧ Hid (CommonIs n I (ps.take k) z ∧ Below w.heap.size w wr)) (fun _ i _ => ps.length - (intOf i).toNat)
  case atStart => exact ⟨0, -1, by omega, rfl, rfl, .inl ⟨rfl, fun p hp => by simp at hp⟩, Below.refl _ _⟩
  case round =>
    obtain ⟨k, z, hk, rfl, rfl, HL⟩ := hrel
    by_cases hlt : k < ps.length
    · have hltI : (k : Int) < (ps.length : Int) := by omega
      obtain ⟨p, hp⟩ : ∃ p, ps[k]? = some p := ⟨_, List.getElem?_eq_getElem hlt⟩
      have hpn : p < n := H.out.2.2 p (List.mem_of_getElem? hp)
      have hpnI : (p : Int) < (n : Int) := by omega
      have HTK : Hid (ps.take (k + 1) = ps.take k ++ [p]) := by
        obtain ⟨hl, rfl⟩ := List.getElem?_eq_some_iff.1 hp
        exact List.take_succ_eq_append_getElem hl
      obtain ⟨ga, oa, rfl, _, y0⟩ := H.out.2.1.at_ hp
      replace y0 := bcell_keep HL.out.2 y0
      have hg := H.out.1.keep HL.out.2
      have i0 := hg.i
      have ip := hg.ic p hpn
      clear hp hg
      by_cases hkn : Kn I p
      · have HKB : Hid (Kn I p) := hkn
        go_upto_region 5 with fail
        go_cut [8] from 15 to 26 (fun c wx => c = .bool true ∧ wx = wr)
        case first =>
          by_cases hp0 : p = 0
          · subst hp0
            go_wp2
            go_meet
            case rel => exact ⟨rfl, rfl⟩
          · have hp0B : ((p : Int) == 0) = false := by simp; omega
            have hpi := HKB.out.resolve_left hp0
            have hpiB : (I p == -1) = false := by simpa using hpi
            have hpiN : (I p != -1) = true := by simpa using hpi
            go_wp2
            go_meet
            case rel => exact ⟨rfl, rfl⟩
        case rest =>
          obtain ⟨rfl, hwc⟩ := hcut
          rw [hwc]
          clear hwc y0 i0 ip
          by_cases hz1 : z = -1
          · subst hz1
            have HN : Hid (CommonIs n I (ps.take (k + 1)) (p : Int)) := by
              show CommonIs _ _ _ _
              rw [HTK.out]
              exact HL.out.1.first HKB.out hpn
            go_wp2
            go_roundw
            case rel => exact ⟨k + 1, _, by omega, rfl, by go_num, HN.out, HL.out.2⟩
            case measure => simp [intOf]; omega
          · have hzB : (z == -1) = false := by simpa using hz1
            obtain ⟨m, rfl, hm, hkm⟩ := HL.out.1.some hz1
            go_wp2_with fail
            refine (HT.out m p wr hm hpn hkm HKB.out (H.out.1.keep HL.out.2)).mono ?_
            rintro e u1 ⟨m', rfl, h1, h2, h3, b1⟩
            have HN : Hid (CommonIs n I (ps.take (k + 1)) (m' : Int) ∧ Below w.heap.size w u1) := by
              refine ⟨?_, below_on HL.out.2 (Nat.le_refl _) b1⟩
              rw [HTK.out]
              exact HL.out.1.meet HKB.out h1 h2 h3
            clear h2 h3 b1
            go_wp2
            go_roundw
            case rel => exact ⟨k + 1, _, by omega, rfl, by go_num, HN.out⟩
            case measure => simp [intOf]; omega
      · have hp0 : ¬ p = 0 := fun q => hkn (.inl q)
        have hpi : I p = -1 := Classical.byContradiction fun q => hkn (.inr q)
        have hp0B : ((p : Int) == 0) = false := by simp; omega
        rw [hpi] at ip
        have HN : Hid (CommonIs n I (ps.take (k + 1)) z) := by
          show CommonIs _ _ _ _
          rw [HTK.out]
          exact HL.out.1.skip hkn
        go_wp2
        go_roundw
        case rel => exact ⟨k + 1, z, by omega, by trivial, by go_num, HN.out, HL.out.2⟩
        case measure => simp [intOf]; omega
    · obtain rfl : k = ps.length := by omega
      have HN : Hid (CommonIs n I ps z) := by
        have := HL.out.1
        rw [List.take_of_length_le (Nat.le_refl _)] at this
        exact this
      go_wp2
      go_ret
      exact ⟨z, rfl, HN.out, HL.out.2⟩
end Go.Proofs.YtifpjgdnikkekaaGreat
namespace Go.Proofs.YtifpjgdnikkekaaGreat
open Go.ChangeShapes Go.WideShapes Go.ChangeAt Go.RowKit
set_option linter.unusedVariables false
theorem zeroU (w : World) : (zeroValue 205).run Tryz.prog w = .ok (.agg #[]) w := by kernel_rfl
set_option maxHeartbeats 1000000 in
theorem has_any (b cnt : Nat) (D : DataW Unit) (z : Int) (w : World) (hz : W64 z) (h : SetAt w b cnt D) :
    Calls Tryz.prog 152 #[.map (some b), .int .i64 z] w fun e w' => e = .returned (.bool (Go.Maps.has D (.int .i64 z))) ∧ Below w.heap.size w w' := by
  have hown : w.ownsMap Tryz.prog 2 (unitElem (H := Unit)) b cnt D := h
  go_enter Tryz.func152, Tryz.ntmps152
  go_wp2_with (at_lookup; refine wpList_lookup_own_unit _ rfl _ _ 142 rfl 2 205 law64 Tryz.underlying142 (zeroU _) b cnt D rfl hown _ _ rfl (Go.Maps.keyOf_int_mk Tryz.underlying2 hz) ?_)
  go_ret
  exact ⟨rfl, below_alloc _ _⟩
set_option maxHeartbeats 1000000 in
theorem add_none (b : Nat) (w : World) :
    Calls Tryz.prog 117 #[.map (some b), .slice none 0 0] w fun e w' => e = .returned (.tuple #[]) ∧ w' = w := by
  go_enter Tryz.func117, Tryz.ntmps117
  go_wp2
  go_loopw [8] (fun i wr => i = .int .i64 0 ∧ wr = w) (fun _ _ => 0)
  case atStart => exact ⟨rfl, rfl⟩
  case round =>
    obtain ⟨rfl, rfl⟩ := hrel
    go_wp2
    go_end0
    exact ⟨rfl, rfl⟩
/-- Lists of numbers in a row. -/
def EdAt (w : World) (g o n : Nat) (E : Nat → List Nat) : Prop := ∀ b, b < n → ∃ a c, w.cell? ⟨g, o + b, none⟩ = some (.slice a (E b).length c) ∧ RdN w (.slice a (E b).length c) (E b)
theorem EdAt.keep {w w' : World} {g o n : Nat} {E : Nat → List Nat} (h : EdAt w g o n E) (hb : Below w.heap.size w w') : EdAt w' g o n E := fun b hb' => by
  obtain ⟨a, c, h1, h2⟩ := h b hb'
  exact ⟨a, c, bcell_keep hb h1, h2.keep hb⟩
def walkV (bs be bw bl : Nat) : Value := .func (.func 164) #[] #[.pointer (some ⟨bs, 0, none⟩), .pointer (some ⟨be, 0, none⟩), .pointer (some ⟨bw, 0, none⟩), .pointer (some ⟨bl, 0, none⟩)]
/-- The state of a walk in depth. -/
structure PO (w u : World) (n bm bs be bw bl : Nat) (EV V : Value) (S O : List Nat) : Prop where
  set : ∃ cnt D, SetAt u bm cnt D ∧ cnt + unseen S n ≤ n + 1 ∧ ∀ x : Nat, Go.Maps.has D (.int .i64 (x : Int)) = S.contains x
  sb : Blk u bs #[.map (some bm)] 142
  eb : Blk u be #[EV] 22
  wb : Blk u bw #[walkV bs be bw bl] 214
  lb : Blk u bl #[V] 48
  list : OwN u w.heap.size V O
  bel : Below w.heap.size w u
  ge : w.heap.size ≤ bm ∧ w.heap.size ≤ bl
  len : O.length + unseen S n ≤ n
theorem PO.keep {w u u' : World} {n bm bs be bw bl : Nat} {EV V : Value} {S O : List Nat} (h : PO w u n bm bs be bw bl EV V S O) (hb : Below u.heap.size u u') : PO w u' n bm bs be bw bl EV V S O := by
  obtain ⟨cnt, D, h1, h2, h3⟩ := h.set
  exact ⟨⟨cnt, D, h1.keep hb, h2, h3⟩, h.sb.keep hb, h.eb.keep hb, h.wb.keep hb, h.lb.keep hb, h.list.keep hb, below_on h.bel (Nat.le_refl _) hb, h.ge, h.len⟩
theorem Blk.gb {w w' : World} {b : Nat} {cur : Array Value} {t : TypeId} {row : Option Nat} (h : Blk w b cur t) (hg : w.grownBy w' row) (hne : some b ≠ row) : Blk w' b cur t := by
  unfold Blk at *
  rw [hg.block b (Array.getElem?_eq_some_iff.1 h).1 hne]
  exact h
theorem set_ne_blk {w : World} {b b' cnt : Nat} {D : DataW Unit} {cur : Array Value} {t : TypeId} (h : SetAt w b cnt D) (hb : Blk w b' cur t) : b' ≠ b := fun e => by
  obtain ⟨es, clock, h1, _⟩ := h
  subst e
  unfold Blk at hb
  rw [hb] at h1
  cases h1
theorem set_ne_row {w : World} {base k n b cnt : Nat} {e : TypeId} {v : Value} {xs : List Value} {D : DataW Unit} (h : w.ownsRow base e k v n xs) (hm : SetAt w b cnt D) : some b ≠ v.ownBlock := by
  obtain ⟨es, clock, hb, _⟩ := hm
  intro e1
  rcases h.2 with ⟨rfl, _⟩ | ⟨g, cap, cur, rfl, _, hc, _⟩
  · cases e1
  · simp only [Value.ownBlock, Option.some.injEq] at e1
    subst e1
    rw [hb] at hc
    cases hc
/-- One more is seen. -/
theorem PO.add {w u u' : World} {n bm bs be bw bl cnt b : Nat} {EV V : Value} {S O : List Nat} {D : DataW Unit} (h : PO w u n bm bs be bw bl EV V S O) (hs : SetAt u bm cnt D) (hc : cnt + unseen S n ≤ n + 1) (hD : ∀ x : Nat, Go.Maps.has D (.int .i64 (x : Int)) = S.contains x) (hb : b < n) (hbS : b ∉ S) (hs' : SetAt u' bm (cnt + 1) (D.put (.int .i64 (b : Int)) (.agg []))) (hg : u.grownBy u' (some bm)) : PO w u' n bm bs be bw bl EV V (b :: S) O := by
  have hu := unseen_cons S n b hb hbS
  have ne : ∀ {b' : Nat} {cur : Array Value} {t : TypeId}, Blk u b' cur t → some b' ≠ some bm := fun k e => set_ne_blk hs k (Option.some.inj e)
  refine ⟨⟨_, _, hs', by omega, fun x => ?_⟩, h.sb.gb hg (ne h.sb), h.eb.gb hg (ne h.eb), h.wb.gb hg (ne h.wb), h.lb.gb hg (ne h.lb), own_apart' h.list hg (fun g hgx e => by rw [e] at hgx; exact set_ne_row h.list hs hgx.symm), h.bel.grown hg h.bel.size (fun j hj => by cases hj; exact h.ge.1), h.ge, by have := h.len; omega⟩
  rw [has_put D (World.ownsMap.isMap hs), hD x]
  by_cases e : x = b
  · subst e; simp
  · have : ¬ (x : Int) = (b : Int) := by omega
    simp [e, this]
theorem PO.al {w u : World} {n bm bs be bw bl : Nat} {EV V : Value} {S O : List Nat} (h : PO w u n bm bs be bw bl EV V S O) (o : Obj) : (u.alloc o).ownsRow w.heap.size 2 1 V O.length (nv O) ∧ w.heap.size ≤ (u.alloc o).heap.size := ⟨h.list.keep (below_alloc _ _), Nat.le_trans h.bel.size (below_alloc _ _).size⟩
/-- One more is told. -/
theorem PO.app {w u u' : World} {n bm bs be bw bl b : Nat} {EV V V' : Value} {S O : List Nat} (h : PO w u n bm bs be bw bl EV V S O) (hown : u'.ownsRow w.heap.size 2 1 V' (O.length + 1) (nv O ++ [.int .i64 (b : Int)])) (hg : (u.alloc (.cells #[.int .i64 (b : Int)] 2)).grownBy u' V.ownBlock) (hl : O.length + 1 + unseen S n ≤ n) : Blk u' bl #[V] 48 ∧ PO w (u'.setCell ⟨bl, 0, none⟩ V') n bm bs be bw bl EV V' S (O ++ [b]) := by
  have bA := below_alloc u (.cells #[.int .i64 (b : Int)] 2)
  have h' := h.keep bA
  obtain ⟨cnt, D, h1, h2, h3⟩ := h'.set
  have s1 : SetAt u' bm cnt D := World.ownsMap.kept h1 hg (set_ne_row h'.list h1)
  have kb : Blk u' bl #[V] 48 := h'.lb.grown hg h'.list (by decide)
  have ks := h'.sb.grown hg h'.list (by decide)
  have ke := h'.eb.grown hg h'.list (by decide)
  have kw := h'.wb.grown hg h'.list (by decide)
  have hbel : Below w.heap.size w u' := h'.bel.grown hg h'.bel.size (fun i hi => (h'.list.lt i hi).1)
  have neb : ∀ {b' : Nat} {cur : Array Value} {t : TypeId}, Blk u' b' cur t → t ≠ 48 → b' ≠ (⟨bl, 0, none⟩ : Addr).block := fun k q e => by
    simp only [] at e
    subst e
    unfold Blk at k kb
    rw [kb] at k
    simp only [Option.some.injEq, Obj.cells.injEq] at k
    exact q k.2.1.symm
  refine ⟨kb, ⟨cnt, D, ?_, h2, h3⟩, ks.other (neb ks (by decide)) _, ke.other (neb ke (by decide)) _, kw.other (neb kw (by decide)) _, ?_, ?_, hbel.setCell h.ge.2 _, h.ge, by rw [List.length_append, List.length_singleton]; exact hl⟩
  · refine World.ownsMap.kept s1 (row := some bl) ⟨rfl, rfl, rfl, by rw [World.size_setCell]; exact Nat.le_refl _, fun k hk hne => heap_setCell_other u' _ k _ (fun e => hne (by rw [e]))⟩ (fun e => set_ne_blk s1 kb (Option.some.inj e).symm)
  · have := kb.set 0 V'
    simpa using this
  · unfold OwN
    rw [List.length_append, List.length_singleton, nv_app]
    exact ownsRow_setCell_other hown (a := ⟨bl, 0, none⟩) (fun q => type_apart hown kb (by decide) bl q rfl) _
end Go.Proofs.YtifpjgdnikkekaaGreat
