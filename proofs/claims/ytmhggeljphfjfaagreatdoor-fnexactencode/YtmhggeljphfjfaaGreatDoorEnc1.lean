/- Enc1: bytes that are put behind bytes; spec.l3Put. -/
import Derived.Test.YtmhggeljphfjfaaGreatDoorEnc0
namespace Go.Proofs.YtmhggeljphfjfaaGreatDoor
open Go.ChangeShapes Go.WideShapes Go.ChangeAt Go.RowKit
set_option linter.unusedVariables false
/-- From the bytes 'out' in w: in u they are v, and read bs; no other block has turned. -/
structure Bw (B : Nat) (w : World) (out : Value) (u : World) (v : Value) (bs : List Value) : Prop where
  own : u.ownsRow B 5 1 v bs.length bs
  grown : w.grownBy u out.ownBlock
  place : v.ownBlock = out.ownBlock ∨ ∃ k, v.ownBlock = some k ∧ w.heap.size ≤ k
theorem Bw.refl {B : Nat} {w : World} {out : Value} {bs : List Value} (h : w.ownsRow B 5 1 out bs.length bs) : Bw B w out w out bs := ⟨h, World.grownBy.refl _ _, .inl rfl⟩
/-- A call between that makes new memory alone. -/
theorem Bw.call {B : Nat} {w : World} {out : Value} {u u' : World} {v : Value} {bs : List Value} (h : Bw B w out u v bs) (hb : Below u.heap.size u u') : Bw B w out u' v bs :=
  ⟨own_keep h.own hb (Nat.le_refl _), h.grown.trans (grown_of_below' hb h.grown.size), h.place⟩
where grown_of_below' {w u u' : World} {row : Option Nat} (hb : Below u.heap.size u u') (_ : w.heap.size ≤ u.heap.size) : u.grownBy u' row := grown_of_below hb row
/-- More bytes behind them. -/
theorem Bw.more {B : Nat} {w : World} {out : Value} {u u' : World} {v v' : Value} {bs news : List Value} (h : Bw B w out u v bs) (hB : B ≤ w.heap.size) (n : Nat) (hn : n = bs.length) (m : Nat) (hm : m = news.length)
    (ho : u'.ownsRow B 5 1 v' (n + m) (bs ++ news)) (hg : u.grownBy u' v.ownBlock) (hp : v'.ownBlock = v.ownBlock ∨ v'.ownBlock = some u.heap.size) : Bw B w out u' v' (bs ++ news) := by
  refine ⟨by rw [List.length_append]; subst hn hm; exact ho, ⟨hg.os.trans h.grown.os, hg.tape.trans h.grown.tape, hg.output.trans h.grown.output, Nat.le_trans h.grown.size hg.size, fun k hk hne => ?_⟩, ?_⟩
  · rw [hg.block k (Nat.lt_of_lt_of_le hk h.grown.size) ?_, h.grown.block k hk hne]
    rcases h.place with e | ⟨j, e, hj⟩
    · rw [e]; exact hne
    · rw [e]
      intro hh
      simp only [Option.some.injEq] at hh
      omega
  · rcases hp with e | e
    · rw [e]; exact h.place
    · exact .inr ⟨_, e, h.grown.size⟩
theorem own_cells {w : World} {base : Nat} {e : TypeId} {ad : Addr} {n c : Nat} {xs : List Value} (h : w.ownsRow base e 1 (.slice (some ad) n c) n xs) : ∀ j u, xs[j]? = some u → w.cell? (ad.add j) = some u := by
  intro j u hj
  rcases (Rd.of_own h).2 with ⟨rfl, _⟩ | ⟨g, o, c', e, hc⟩
  · have := (List.getElem?_eq_some_iff.1 hj).1
    rw [h.1] at this
    omega
  · simp only [Value.slice.injEq, Option.some.injEq, true_and] at e
    obtain ⟨rfl, rfl⟩ := e
    rw [Addr.add_lit]
    exact hc j u hj
set_option maxHeartbeats 2000000 in
set_option maxRecDepth 100000 in
theorem l3Put_any (B : Nat) (out : Value) (bs : List Value) (n : Nat) (s : Value) (ys : List Int) (base : Nat) (w : World) (hB : B ≤ w.heap.size) (h1 : 1 ≤ n) (h8 : n ≤ 8) (hy : ys.length ≤ 1048576) (hb : bs.length ≤ 1073741824)
    (ho : w.ownsRow B 5 1 out bs.length bs) (hs : w.ownsRow base 2 1 s ys.length (ys.flatMap intCell)) :
    Calls Tryz.prog 26 #[out, .int .i64 n, s] w fun e w' => ∃ v, e = .returned v ∧ Bw B w out w' v (bs ++ numsL n ys) := by
  obtain ⟨i0, hi, hz0, hz1, hz2⟩ := info_parts infoB
  have H : Hid (w.ownsRow B 5 1 out bs.length bs ∧ w.ownsRow base 2 1 s ys.length (ys.flatMap intCell) ∧ B ≤ w.heap.size) := ⟨ho, hs, hB⟩
  obtain ⟨a1, c1, e1⟩ := (Rd.of_own hs).is_slice
  subst e1
  clear ho hs
  generalize hLL : ys.length = L at *
  have HL : Hid (ys.length = L) := hLL
  clear hLL
  go_enter Tryz.func26, Tryz.ntmps26
  go_wp2
  go_loopw [0, 7] (fun v i wr => ∃ k : Nat, k ≤ L ∧ i = .int .i64 k ∧ Hid (Bw B w out wr v (bs ++ numsL n (ys.take k)))) (fun _ i _ => L - (intOf i).toNat)
  case atStart => exact ⟨0, by omega, rfl, by show Bw _ _ _ _ _ _; simpa [numsL] using Bw.refl H.out.1⟩
  case round =>
    obtain ⟨k, hk, rfl, HW⟩ := hrel
    by_cases hlt : k < L
    · obtain ⟨x, hx⟩ : ∃ x, ys[k]? = some x := ⟨_, List.getElem?_eq_getElem (by rw [HL.out]; exact hlt)⟩
      have hrow := Rd.of_own (own_grown H.out.2.1 HW.out.grown H.out.1 (by decide))
      rcases hrow.2 with ⟨e0, _⟩ | ⟨g, o, c, e1, hc1⟩
      · omega
      simp only [Value.slice.injEq, true_and] at e1
      obtain ⟨rfl, rfl⟩ := e1
      have j0 := Rd.elem intCell_length hc1 k x hx 0 _ rfl
      rw [Nat.mul_one, Nat.add_zero] at j0
      have HX : Hid (ys[k]? = some x) := hx
      clear hc1 hx hrow
      go_wp2_with fail
      refine (SPutNumber_in x n wr h1 h8).mono ?_
      rintro e u ⟨r, rfl, own, bl⟩
      have HU : Hid (Bw B w out u u0 (bs ++ numsL n (ys.take k))) := HW.out.call bl
      obtain ⟨ad, cr, er⟩ : ∃ ad c, r = .slice (some ad) n c := by
        rcases own.2 with ⟨_, e⟩ | ⟨g2, cap, cur, e, _⟩
        · omega
        · exact ⟨_, _, e⟩
      subst er
      have hcells := own_cells own
      have HC : Hid (∀ j u', (numL x n)[j]? = some u' → u.cell? (ad.add j) = some u') := hcells
      have hlen : (bs ++ numsL n (ys.take k)).length = bs.length + k * n := by rw [List.length_append, numsL_length, List.length_take, HL.out, Nat.min_eq_left hk]
      have hkn8 : k * n ≤ 8388608 := Nat.le_trans (Nat.mul_le_mul (Nat.le_trans hk hy) h8) (by omega)
      have HLN : Hid ((bs ++ numsL n (ys.take k)).length = bs.length + k * n) := hlen
      clear own bl HW hcells hlen j0
      generalize hCS : bs ++ numsL n (ys.take k) = cs at HU HLN
      have HCS : Hid (bs ++ numsL n (ys.take k) = cs) := hCS
      clear hCS
      go_wp2_with (at_builtin; refine wpList_append_own_at _ rfl _ _ 29 rfl B 5 i0 (.int .u8 0) 1 1 Tryz.underlying29 hi hz0 hz1 hz2 rfl (by decide) _ _ _ rfl HU.out.own ad n cr (numL x n) rfl ?c1 ?c2 ?c3 ?c4 ?c5 ?c6 ?_)
      case c1 => rw [numL_length, Nat.mul_one]
      case c2 => exact HC.out
      case c3 => exact numL_oneCell _ _
      case c4 => rw [HLN.out]; unfold maxLen; omega
      case c5 => rw [HLN.out]; omega
      case c6 => exact Nat.le_trans H.out.2.2 HU.out.grown.size
      intro v' w' hown' hgrow' hnil' hpl'
      have HW2 : Hid (Bw B w out w' v' (bs ++ numsL n (ys.take (k + 1)))) := by
        have := HU.out.more H.out.2.2 _ rfl n (numL_length _ _).symm hown' hgrow' hpl'
        rw [numsL_next n ys k x HX.out, ← List.append_assoc, HCS.out]
        exact this
      clear hown' hgrow' hnil' hpl' HU HC
      go_wp2
      go_roundw
      case rel => exact ⟨k + 1, by omega, by go_num, HW2⟩
      case measure => simp [intOf]; omega
    · have hkn : k = L := by omega
      subst hkn
      go_wp2
      go_ret
      exact ⟨_, rfl, by have := HW.out; rw [← HL.out, List.take_length] at this; exact this⟩
end Go.Proofs.YtmhggeljphfjfaaGreatDoor
