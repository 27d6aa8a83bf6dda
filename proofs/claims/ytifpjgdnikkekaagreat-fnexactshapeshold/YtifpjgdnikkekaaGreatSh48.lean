import Derived.Test.YtifpjgdnikkekaaGreatSh45
import Derived.Test.YtifpjgdnikkekaaGreatSh42
namespace Go.Proofs.YtifpjgdnikkekaaGreat
open Go.ChangeShapes Go.WideShapes Go.ChangeAt Go.RowKit
set_option linter.unusedVariables false
set_option maxHeartbeats 8000000 in
set_option maxRecDepth 100000 in
theorem dominate_any (G n gN cN gF cF gO cO gP cP : Nat) (E : Nat → List Nat) (O : List Nat) (w : World) (hn : n ≤ 1024) (hP : Place E n (plO O)) (hO : O.length = n) (hOn : O.Nodup) (hOm : ∀ x, x ∈ O ↔ x < n) (hsz : ∀ b, (fromL E n b).length ≤ 4096)
    (hcO : n ≤ cO) (h : Blk w G #[.slice (some ⟨gN, 0, none⟩) n cN, .slice (some ⟨gF, 0, none⟩) n cF, .slice (some ⟨gO, 0, none⟩) n cO, .slice (some ⟨gP, 0, none⟩) n cP, .slice none 0 0] 176) (hF : EdAt w gF 0 n (fromL E n)) (hOr : ∀ k x : Nat, O.reverse[k]? = some x → w.cell? ⟨gO, k, none⟩ = some (.int .i64 (x : Int))) (hPl : ∀ x, x < n → w.cell? ⟨gP, x, none⟩ = some (.int .i64 (plO O x : Int)))
    (hne : gN ≠ G ∧ gF ≠ G ∧ gO ≠ G ∧ gP ≠ G ∧ ∀ b a c, b < n → w.cell? ⟨gF, b, none⟩ = some (.slice (some a) (fromL E n b).length c) → a.block ≠ G) :
    Calls Tryz.prog 114 #[.pointer (some ⟨G, 0, none⟩)] w fun e w' => e = .returned (.tuple #[]) ∧ ∃ gi I, DW w w' G n #[.slice (some ⟨gN, 0, none⟩) n cN, .slice (some ⟨gF, 0, none⟩) n cF, .slice (some ⟨gO, 0, none⟩) n cO, .slice (some ⟨gP, 0, none⟩) n cP] gi I ∧ DoneI E n (plO O) I := by
  obtain ⟨K0, hK0⟩ := rch_bound E n
  obtain ⟨K, hK1, hK⟩ : ∃ K, 1 ≤ K ∧ ∀ e, e < n → ∀ x, x < n → Rch E (· ≠ e) 0 x → RchN E (· ≠ e) 0 K x := ⟨K0 + 1, by omega, fun e he x hx hr => (hK0 e he x hx hr).mono (by omega)⟩
  have H : Hid (Blk w G #[.slice (some ⟨gN, 0, none⟩) n cN, .slice (some ⟨gF, 0, none⟩) n cF, .slice (some ⟨gO, 0, none⟩) n cO, .slice (some ⟨gP, 0, none⟩) n cP, .slice none 0 0] 176 ∧ EdAt w gF 0 n (fromL E n) ∧ (∀ k x : Nat, O.reverse[k]? = some x → w.cell? ⟨gO, k, none⟩ = some (.int .i64 (x : Int))) ∧ (∀ x, x < n → w.cell? ⟨gP, x, none⟩ = some (.int .i64 (plO O x : Int))) ∧ (gN ≠ G ∧ gF ≠ G ∧ gO ≠ G ∧ gP ≠ G ∧ ∀ b a c, b < n → w.cell? ⟨gF, b, none⟩ = some (.slice (some a) (fromL E n b).length c) → a.block ≠ G)) := ⟨h, hF, hOr, hPl, hne⟩
  have HP : Hid (Place E n (plO O) ∧ O.Nodup ∧ (∀ x, x ∈ O ↔ x < n) ∧ (∀ b, (fromL E n b).length ≤ 4096) ∧ (∀ e, e < n → ∀ x, x < n → Rch E (· ≠ e) 0 x → RchN E (· ≠ e) 0 K x) ∧ (∀ x, x < n → plO O x < n)) := ⟨hP, hOn, hOm, hsz, hK, fun x hx => by have := plO_lt ((hOm x).2 hx); omega⟩
  have hpos := hP.pos
  have hGl := h.lt
  clear h hF hOr hPl hne hP hOn hOm hsz hK hK0
  have c0 : (w.alloc (.cells #[.int .i64 (-1)] 2)).cell? ⟨G, 0, none⟩ = some (.slice (some ⟨gN, 0, none⟩) n cN) := (H.out.1.keep (below_alloc _ _)).cell 0
  go_enter Tryz.func114, Tryz.ntmps114
  go_wp2_with fail
  refine (repeat_any w.heap.size n _ hpos hn ((Blk.new w #[.int .i64 (-1)] 2).cell 0)).mono ?_
  rintro e u1 ⟨gi, rfl, own1, b1⟩
  rw [zv_rep] at own1
  have bA := below_alloc w (.cells #[.int .i64 (-1)] 2)
  have k1 := (H.out.1.keep bA).keep b1
  have d4 : u1.cell? ⟨G, 4, none⟩ = some (.slice none 0 0) := k1.cell 4
  have z4 := k1.frozen 4
  have HD0 : Hid (DW w (u1.setCell ⟨G, 4, none⟩ (.slice (some ⟨gi, 0, none⟩) n n)) G n #[.slice (some ⟨gN, 0, none⟩) n cN, .slice (some ⟨gF, 0, none⟩) n cF, .slice (some ⟨gO, 0, none⟩) n cO, .slice (some ⟨gP, 0, none⟩) n cP] gi (fun _ => -1)) := by
    have hb1 : Below w.heap.size w u1 := below_on bA (Nat.le_refl _) b1
    have own1' := own_lower own1 (b := w.heap.size) bA.size
    have hgi := (own_blk own1').1
    refine ⟨⟨_, _, _, _, rfl, ?_⟩, ownsRow_setCell_other own1' (a := ⟨G, 4, none⟩) (by simp [Value.ownBlock]; omega) _, fun k hk hne => ?_, (hb1.mono (Nat.le_of_lt hGl)).setCell (Nat.le_refl _) _, by rw [World.size_setCell]; exact hb1.size, hGl⟩
    · have := k1.set 4 (.slice (some ⟨gi, 0, none⟩) n n)
      simpa using this
    · rw [heap_setCell_other u1 _ k _ hne]
      exact hb1.block k hk
  clear own1 b1 bA k1 c0
  have HPI : Hid (PassI E n (plO O) 0 1 (fun _ => -1)) := ⟨DInv.start (fun _ => rfl), UInv.start HP.out.1 (fun _ => rfl), fun x hx hl => by
    by_cases e : x = 0
    · exact .inl e
    · have := HP.out.1.first x hx e
      omega, .inl rfl, rfl⟩
  go_wp2
  go_loopg [2] (K + 2) (fun m v wr => ∃ (ch : Bool) (I : Nat → Int) (k : Nat), v = .bool ch ∧ Hid (DW w wr G n #[.slice (some ⟨gN, 0, none⟩) n cN, .slice (some ⟨gF, 0, none⟩) n cF, .slice (some ⟨gO, 0, none⟩) n cO, .slice (some ⟨gP, 0, none⟩) n cP] gi I) ∧ ((ch = true ∧ m + k = K + 2 ∧ k ≤ K ∧ Hid (PassI E n (plO O) k 1 I)) ∨ (ch = false ∧ Hid (DoneI E n (plO O) I))))
  case atStart => exact ⟨true, fun _ => -1, 0, rfl, HD0, .inl ⟨rfl, rfl, by omega, HPI⟩⟩
  case round =>
    clear HD0 HPI d4 z4
    obtain ⟨ch, I0, k, rfl, HD, hcase⟩ := hrel
    rcases hcase with ⟨rfl, hm, hkK, HPI⟩ | ⟨rfl, HDN⟩
    · obtain ⟨w0, hw0⟩ : ∃ W, W = wr := ⟨_, rfl⟩
      subst hw0
      have o2 : w0.cell? ⟨G, 2, none⟩ = some (.slice (some ⟨gO, 0, none⟩) n cO) := by
        obtain ⟨x0, x1, x2, x3, e, kk⟩ := HD.out.blk
        simp only [Array.mk.injEq, List.cons.injEq, and_true] at e
        obtain ⟨rfl, rfl, rfl, rfl⟩ := e
        exact kk.cell 2
      go_upto_region 4 with fail
      go_cut [21, 22, 23] from 17 to 22 (fun sv lv iv wx => ∃ a c, sv = .slice a (n - 1) c ∧ (1 < n → a = some ⟨gO, 1, none⟩) ∧ lv = .int .i64 ((n - 1 : Nat) : Int) ∧ iv = .int .i64 0 ∧ wx = w0)
      case first =>
        by_cases hc1 : cO = 1
        · subst hc1
          obtain rfl : n = 1 := by omega
          go_wp2
          go_meet
          case rel => exact ⟨_, _, rfl, fun q => (by omega), rfl, rfl, rfl⟩
        · have hc2 : 1 < cO := by omega
          go_wp2
          go_meet
          case rel => exact ⟨_, _, rfl, fun q => rfl, by go_num, rfl, rfl⟩
      case rest =>
        obtain ⟨asl, csl, rfl, ha, rfl, rfl, hwc⟩ := hcut
        rw [hwc]
        clear hwc o2
        have HGI : Hid (∀ (U : World) (J : Nat → Int), DW w U G n #[.slice (some ⟨gN, 0, none⟩) n cN, .slice (some ⟨gF, 0, none⟩) n cF, .slice (some ⟨gO, 0, none⟩) n cO, .slice (some ⟨gP, 0, none⟩) n cP] gi J → GI U G n gP cP gi n (plO O) J ∧ U.cell? ⟨G, 1, none⟩ = some (.slice (some ⟨gF, 0, none⟩) n cF)) := fun U J hU => by
          obtain ⟨x0, x1, x2, x3, e, kk⟩ := hU.blk
          simp only [Array.mk.injEq, List.cons.injEq, and_true] at e
          obtain ⟨rfl, rfl, rfl, rfl⟩ := e
          refine ⟨⟨kk.cell 3, kk.cell 4, fun x hx => hU.cell (H.out.2.2.2.1 x hx) H.out.2.2.2.2.2.2.2.1, fun x hx => ?_⟩, kk.cell 1⟩
          have := hU.row.cellAt x (by omega)
          rw [zv_at _ _ _ hx] at this
          exact this
        go_wp2
        go_loopw [2, 23] (fun v i wr => ∃ (ch : Bool) (J : Nat → Int) (j : Nat), v = .bool ch ∧ i = .int .i64 (j : Int) ∧ j + 1 ≤ n ∧ Hid (DW w wr G n #[.slice (some ⟨gN, 0, none⟩) n cN, .slice (some ⟨gF, 0, none⟩) n cF, .slice (some ⟨gO, 0, none⟩) n cO, .slice (some ⟨gP, 0, none⟩) n cP] gi J ∧ PassI E n (plO O) k (j + 1) J ∧ (ch = false → J = I0 ∧ ∀ b, b < n → b ≠ 0 → plO O b < j + 1 → CommonIs n J (fromL E n b) (J b)) ∧ (K ≤ k → ch = false))) (fun _ i _ => n - (intOf i).toNat)
        case atStart => exact ⟨false, I0, 0, rfl, rfl, by omega, HD.out, HPI.out, fun _ => ⟨rfl, fun b hb hb0 hl => by have := HP.out.1.first b hb hb0; omega⟩, fun _ => rfl⟩
        case round =>
          obtain ⟨ch, J, j, rfl, rfl, hj, HL⟩ := hrel
          by_cases hlt : j < n - 1
          · have hltI : (j : Int) < ((n - 1 : Nat) : Int) := by omega
            obtain rfl := ha (by omega)
            obtain ⟨b, hb⟩ : ∃ b, O.reverse[j + 1]? = some b := ⟨_, List.getElem?_eq_getElem (by rw [List.length_reverse]; omega)⟩
            have hbO : b ∈ O := List.mem_reverse.1 (List.mem_of_getElem? hb)
            have hbn : b < n := (HP.out.2.2.1 b).1 hbO
            have hbnI : (b : Int) < (n : Int) := by omega
            have hpb : plO O b = j + 1 := by
              have h1 := plO_at hbO
              have hd : O.reverse.Nodup := List.pairwise_reverse.2 (HP.out.2.1.imp Ne.symm)
              obtain ⟨l1, e1⟩ := List.getElem?_eq_some_iff.1 h1
              obtain ⟨l2, e2⟩ := List.getElem?_eq_some_iff.1 hb
              exact (List.getElem_inj hd).1 (e1.trans e2.symm)
            have hb0 : b ≠ 0 := fun q => by have := HP.out.1.zero; rw [q] at hpb; omega
            have ob := HL.out.1.cell (H.out.2.2.1 (j + 1) b hb) H.out.2.2.2.2.2.2.1
            rw [Nat.add_comm] at ob
            obtain ⟨hgi, f1⟩ := HGI.out _ _ HL.out.1
            obtain ⟨af, cf, e0, e1⟩ := H.out.2.1 b hbn
            rw [Nat.zero_add] at e0
            have HPS : Hid (RdN wr (.slice af (fromL E n b).length cf) (fromL E n b)) := by
              refine ⟨e1.1, e1.2.imp id ?_⟩
              rintro ⟨g', o', c', q1, q2⟩
              refine ⟨g', o', c', q1, fun jj v hv => HL.out.1.cell (q2 jj v hv) ?_⟩
              simp only [Value.slice.injEq, true_and] at q1
              exact H.out.2.2.2.2.2.2.2.2 b ⟨g', o', none⟩ cf hbn (by rw [e0, q1.1])
            have f2 := HL.out.1.cell e0 H.out.2.2.2.2.2.1
            have HGJ : Hid (GI wr G n gP cP gi n (plO O) J) := hgi
            have HB : Hid (b ∈ O ∧ plO O b = j + 1) := ⟨hbO, hpb⟩
            clear e0 e1 hgi hb hbO
            go_wp2_with fail
            refine (commonOf_any G n gP cP gi n (plO O) J _ (fromL E n b) wr hn HL.out.2.1.dinv.tree HP.out.1.zero HP.out.1.inj (fun p hp => ((fromL_mem E n b p).1 hp).1) (HP.out.2.2.2.1 b) HPS.out HGJ.out).mono ?_
            rintro e u5 ⟨z, rfl, hz, b5⟩
            have HL5 : Hid (DW w u5 G n #[.slice (some ⟨gN, 0, none⟩) n cN, .slice (some ⟨gF, 0, none⟩) n cF, .slice (some ⟨gO, 0, none⟩) n cO, .slice (some ⟨gP, 0, none⟩) n cP] gi J) := HL.out.1.keep b5
            obtain ⟨hgi, f1'⟩ := HGI.out _ _ HL5.out
            have i4 := hgi.i
            have ib := hgi.ic b hbn
            have iz := HL5.out.row.frozenAt b
            obtain ⟨J', hJ'⟩ : ∃ J' : Nat → Int, ∀ y, J' y = if y = b then z else J y := ⟨_, fun y => rfl⟩
            have HN : Hid (DW w (u5.setCell ⟨gi, b, none⟩ (.int .i64 z)) G n #[.slice (some ⟨gN, 0, none⟩) n cN, .slice (some ⟨gF, 0, none⟩) n cF, .slice (some ⟨gO, 0, none⟩) n cO, .slice (some ⟨gP, 0, none⟩) n cP] gi J' ∧ PassI E n (plO O) k (j + 1 + 1) J' ∧ (z = J b → J' = J) ∧ CommonIs n J (fromL E n b) z ∧ (K ≤ k → z = J b)) := by
              refine ⟨HL5.out.set b z hJ', HL.out.2.1.step HP.out.1 hbn hb0 HB.out.2 hz hJ', fun q => ?_, hz, fun hkk => ?_⟩
              · funext y
                rw [hJ' y]
                by_cases e : y = b
                · rw [if_pos e, q, e]
                · rw [if_neg e]
              · have hall : ∀ x, x < n → Kn J x := HL.out.2.1.all.resolve_left (by omega)
                refine dom_fix HP.out.1 HL.out.2.1.dinv hall (fun x hx d hd hr => ?_) hbn hb0 (fromL_preds E n b) hz
                have hdn := (hd.pls HL.out.2.1.dinv.tree hx).2.2
                exact (HL.out.2.1.uinv x hx (hall x hx) d hd).1 ((HP.out.2.2.2.2.1 d hdn x hx hr).mono hkk)
            clear hgi hz b5 HGJ HPS f1 f2 ob
            go_upto_region 8 with fail
            go_cut [2] from 36 to 47 (fun c wx => (∃ c' : Bool, c = .bool c' ∧ (c' = false → ch = false ∧ z = J b) ∧ (ch = false → z = J b → c' = false)) ∧ wx = u5)
            case first =>
              cases ch
              · by_cases hzb : z = J b
                · have hzB : (z != J b) = false := by simp [hzb]
                  have HZ : Hid (z = J b) := hzb
                  clear hzb
                  go_wp2
                  go_meet
                  case rel => exact ⟨⟨_, rfl, fun _ => ⟨trivial, HZ.out⟩, fun _ _ => rfl⟩, rfl⟩
                · have hzB : (z != J b) = true := by simp [hzb]
                  have HZ : Hid (¬ z = J b) := hzb
                  clear hzb
                  go_wp2
                  go_meet
                  case rel => exact ⟨⟨_, rfl, (fun q => (by cases q)), (fun _ q => absurd q HZ.out)⟩, rfl⟩
              · go_wp2
                go_meet
                case rel => exact ⟨⟨_, rfl, (fun q => (by cases q)), (fun q => (by cases q))⟩, rfl⟩
            case rest =>
              obtain ⟨⟨c', rfl, hc1, hc2⟩, hwc⟩ := hcut
              rw [hwc]
              clear hwc
              go_wp2
              go_roundw
              case rel =>
                refine ⟨c', J', j + 1, rfl, by go_num, by omega, HN.out.1, HN.out.2.1, fun q => ?_, fun q => hc2 (HL.out.2.2.2 q) (HN.out.2.2.2.2 q)⟩
                obtain ⟨q1, q2⟩ := hc1 q
                obtain ⟨r1, r2⟩ := HL.out.2.2.1 q1
                have r3 := HN.out.2.2.1 q2
                refine ⟨r3.trans r1, fun y hy hy0 hl => ?_⟩
                rw [r3]
                by_cases e : y = b
                · rw [e, ← q2]
                  exact HN.out.2.2.2.1
                · refine r2 y hy hy0 ?_
                  have h1 := HP.out.1.inj y b hy hbn
                  have h2 := HB.out.2
                  omega
              case measure => simp [intOf]; omega
          · have hjn : j + 1 = n := by omega
            have hltI : ¬ (j : Int) < ((n - 1 : Nat) : Int) := by omega
            have HPN : Hid (PassI E n (plO O) (k + 1) 1 J ∧ ∀ x, x < n → Kn J x) := by
              have h0 := HL.out.2.1
              rw [hjn] at h0
              have hall : ∀ x, x < n → Kn J x := fun x hx => h0.kn x hx (HP.out.2.2.2.2.2 x hx)
              exact ⟨⟨h0.dinv, h0.uinv.pass HP.out.1 HP.out.2.2.2.2.2, fun x hx _ => hall x hx, .inr hall, h0.z⟩, hall⟩
            cases ch
            · have HDN : Hid (DoneI E n (plO O) J) := by
                obtain ⟨_, q2⟩ := HL.out.2.2.1 rfl
                refine ⟨HPN.out.1.dinv, HPN.out.2, fun d x hx => fix_dom HP.out.1 HPN.out.1.dinv HPN.out.2 (fromL E n) (fun b _ => fromL_preds E n b) (fun b hb hb0 => q2 b hb hb0 (by rw [hjn]; exact HP.out.2.2.2.2.2 b hb)) hx, HPN.out.1.z⟩
              go_wp2
              go_roundg 0
              case measure => omega
              case rel => exact ⟨false, J, 0, rfl, HL.out.1, .inr ⟨rfl, HDN⟩⟩
            · have hkk : k < K := by
                by_cases q : K ≤ k
                · have := HL.out.2.2.2 q
                  cases this
                · omega
              go_wp2
              go_roundg (gk - 1)
              case measure => omega
              case rel => exact ⟨true, J, k + 1, rfl, HL.out.1, .inl ⟨rfl, by omega, by omega, HPN.out.1⟩⟩
    · go_wp2
      go_end0
      exact ⟨rfl, gi, I0, HD.out, HDN.out⟩
end Go.Proofs.YtifpjgdnikkekaaGreat
namespace Go.Proofs.YtifpjgdnikkekaaGreat
open Go.ChangeShapes Go.WideShapes Go.ChangeAt Go.RowKit
set_option linter.unusedVariables false
theorem good_iff (xs : List MI) : CodeGood xs ↔ 1 ≤ xs.length ∧ xs.length ≤ 1024 ∧ PlacesOk xs := Iff.rfl
/-- A block whose Next are places. -/
def midB (xs : List MI) (m : MB) : MB := ⟨m.first, m.last, placesL xs (xs.getD m.last.toNat ⟨0, 0, 0, 0⟩) m.last.toNat⟩
def midL (xs : List MI) : List MB := (outL xs xs.length).map (midB xs)
theorem midL_length (xs : List MI) : (midL xs).length = (lds xs xs.length).length := by unfold midL; rw [List.length_map, outL_length]
theorem build_at (L : List Nat) (n b a q : Nat) (ha : L[b]? = some a) (hq : (L ++ [n])[b + 1]? = some q) : (build L n)[b]? = some ⟨(a : Int), (q : Int) - 1, []⟩ := by
  unfold build
  rw [List.getElem?_zipWith, ha]
  have e : (L.tail ++ [n])[b]? = some q := by
    cases L with
    | nil => simp at ha
    | cons y r => simpa using hq
  rw [e]
/-- The zero of a block, in cells. -/
def z3 : List Value := [.int .i64 0, .int .i64 0, .slice none 0 0]
/-- The rows, in the first loop: from j on the blocks are there. -/
structure IW (w u : World) (xs : List MI) (gl cl bl j : Nat) (D : List (MB × Value)) : Prop where
  row : u.ownsRow w.heap.size 71 3 (.slice (some ⟨bl, 0, none⟩) (lds xs xs.length).length (lds xs xs.length).length) (lds xs xs.length).length ((List.replicate j z3).flatten ++ D.flatMap bCells)
  fam : Fam u w.heap.size ((.slice (some ⟨gl, 0, none⟩) (lds xs xs.length).length cl, (lds xs xs.length).map Int.ofNat) :: nrows D)
  done : D.map Prod.fst = (midL xs).drop j
  bel : Below w.heap.size w u
theorem IW.lead {w u : World} {xs : List MI} {gl cl bl j : Nat} {D : List (MB × Value)} (h : IW w u xs gl cl bl j D) : u.ownsRow w.heap.size 2 1 (.slice (some ⟨gl, 0, none⟩) (lds xs xs.length).length cl) (lds xs xs.length).length (((lds xs xs.length).map Int.ofNat).flatMap intCell) := by
  have := h.fam.own _ (List.mem_cons_self)
  simpa using this
theorem Fam.keep {u u' : World} {B : Nat} {L : List (Value × List Int)} (h : Fam u B L) (hb : Below u.heap.size u u') : Fam u' B L := ⟨fun r hr => own_keep (h.own r hr) hb (Nat.le_refl _), h.sep⟩
theorem Fam.add {u u' : World} {B : Nat} {y : Value × List Int} {L : List (Value × List Int)} {b : Value} {cb : List Int} (h : Fam u B (y :: L)) (hb : Below u.heap.size u u') (hn : u'.ownsRow u.heap.size 2 1 b cb.length (cb.flatMap intCell)) (hB : B ≤ u.heap.size) : Fam u' B (y :: (b, cb) :: L) := by
  have hap : ∀ r ∈ y :: L, Apart (b, cb) r := by
    intro r hr g hg e
    have h1 := hn.lt g hg
    have h2 := (h.own r hr).lt g e
    omega
  obtain ⟨p1, p2⟩ := List.pairwise_cons.1 h.sep
  refine ⟨?_, List.pairwise_cons.2 ⟨?_, List.pairwise_cons.2 ⟨fun r hr => hap r (by simp [hr]), p2⟩⟩⟩
  · intro r hr
    simp only [List.mem_cons] at hr
    rcases hr with rfl | rfl | hr
    · exact own_keep (h.own _ (by simp)) hb (Nat.le_refl _)
    · exact own_lower hn hB
    · exact own_keep (h.own r (by simp [hr])) hb (Nat.le_refl _)
  · intro r hr
    simp only [List.mem_cons] at hr
    rcases hr with rfl | hr
    · exact (hap y (by simp)).symm
    · exact p1 r hr
theorem Fam.setB {w : World} {base g : Nat} {L : List (Value × List Int)} {B' k n c : Nat} {xs : List Value} (h : Fam w base L) (ho : w.ownsRow B' 71 k (.slice (some ⟨g, 0, none⟩) n c) n xs) (i : Nat) (x : Value) : Fam (w.setCell ⟨g, i, none⟩ x) base L :=
  ⟨fun y hy => own_set_ne (h.own y hy) ho (by decide) i x, h.sep⟩
theorem set3of3 (A R : List Value) (y0 y1 y2 c0 c1 c2 : Value) (i : Nat) (h : A.length = i) : (((A ++ ([y0, y1, y2] ++ R)).set i c0).set (i + 1) c1).set (i + 2) c2 = A ++ ([c0, c1, c2] ++ R) := by
  subst h
  simp [List.set_append_right]
theorem z3_split (b : Nat) (R : List Value) : (List.replicate (b + 1) z3).flatten ++ R = (List.replicate b z3).flatten ++ (z3 ++ R) := by
  rw [List.replicate_succ']
  simp
theorem z3_len (b : Nat) : (List.replicate b z3).flatten.length = b * 3 := by
  rw [List.length_flatten]
  simp [z3]
theorem IW.next {w wr u : World} {xs : List MI} {gl cl bl b a q e : Nat} {D : List (MB × Value)} {x : MI} {ar : Option Addr} {cr : Nat} (h : IW w wr xs gl cl bl (b + 1) D) (hb : Below wr.heap.size wr u) (hr : u.ownsRow wr.heap.size 2 1 (.slice ar (placesL xs x e).length cr) (placesL xs x e).length ((placesL xs x e).flatMap intCell)) (ha : (lds xs xs.length)[b]? = some a) (hq : (lds xs xs.length ++ [xs.length])[b + 1]? = some q) (he : (q : Int) - 1 = (e : Int)) (hx : xs[e]? = some x) :
    IW w (((u.setCell ⟨bl, b * 3, none⟩ (.int .i64 a)).setCell ⟨bl, b * 3 + 1, none⟩ (.int .i64 e)).setCell ⟨bl, b * 3 + 2, none⟩ (.slice ar (placesL xs x e).length cr)) xs gl cl bl b ((⟨(a : Int), (e : Int), placesL xs x e⟩, .slice ar (placesL xs x e).length cr) :: D) := by
  have r0 := own_keep h.row hb (Nat.le_refl _)
  have r1 := (r0.stored (b * 3) (.int .i64 a)).1
  have r2 := (r1.stored (b * 3 + 1) (.int .i64 e)).1
  have r3 := (r2.stored (b * 3 + 2) (.slice ar (placesL xs x e).length cr)).1
  rw [z3_split, show z3 ++ D.flatMap bCells = [Value.int .i64 0, .int .i64 0, .slice none 0 0] ++ D.flatMap bCells from rfl, set3of3 _ _ _ _ _ _ _ _ _ (z3_len b)] at r3
  have hbl := (own_blk r0).1
  have hm := build_at _ _ _ _ _ ha hq
  refine ⟨?_, ?_, ?_, (((below_on h.bel (Nat.le_refl _) hb).setCell hbl _).setCell hbl _).setCell hbl _⟩
  · rw [List.flatMap_cons]
    exact r3
  · have f0 := Fam.add h.fam hb hr h.bel.size
    exact ((f0.setB r0 _ _).setB r1 _ _).setB r2 _ _
  · have hlt : b < (midL xs).length := by rw [midL_length]; exact (List.getElem?_eq_some_iff.1 ha).1
    rw [List.map_cons, h.done, List.drop_eq_getElem_cons hlt]
    congr 1
    have e1 : (midL xs)[b]? = some (midB xs ⟨(a : Int), (q : Int) - 1, []⟩) := by
      unfold midL
      rw [List.getElem?_map, outL_build, hm]
      rfl
    have e2 := (List.getElem?_eq_some_iff.1 e1).2
    rw [e2]
    unfold midB
    rw [he, Int.toNat_natCast, List.getD_eq_getElem?_getD, hx]
    rfl
end Go.Proofs.YtifpjgdnikkekaaGreat
namespace Go.Proofs.YtifpjgdnikkekaaGreat
open Go.ChangeShapes Go.WideShapes Go.ChangeAt Go.RowKit
set_option linter.unusedVariables false
def idxL (xs : List MI) (p : Int) : Int := ((lds xs xs.length).idxOf p.toNat : Int)
/-- A block with its places turned to numbers. -/
def finB (xs : List MI) (x : MB × Value) : MB × Value := (⟨x.1.first, x.1.last, x.1.next.map (idxL xs)⟩, x.2)
theorem fin_spec (xs : List MI) (hg : CodeGood xs) (D : List (MB × Value)) (h : D.map Prod.fst = midL xs) : (D.map (finB xs)).map Prod.fst = specL xs := by
  have e1 : (D.map (finB xs)).map Prod.fst = (D.map Prod.fst).map fun b => ⟨b.first, b.last, b.next.map (idxL xs)⟩ := by
    rw [List.map_map, List.map_map]
    rfl
  rw [e1, h]
  unfold midL specL
  rw [List.map_map]
  apply List.map_congr_left
  intro m hm
  obtain ⟨b, hb⟩ := List.getElem?_of_mem hm
  obtain ⟨e, he, hen⟩ := last_nat xs xs.length hg.1 m hm
  obtain ⟨x, hx⟩ : ∃ x, xs[e]? = some x := ⟨_, List.getElem?_eq_getElem hen⟩
  have hs := next_same xs b e x m hg hb he hx
  simp only [Function.comp, midB, specB]
  rw [he, Int.toNat_natCast, List.getD_eq_getElem?_getD, hx]
  simp only [Option.getD_some]
  rw [hs]
  rfl
/-- Places are leaders. -/
theorem places_lead (xs : List MI) (hg : CodeGood xs) (m : MB) (hm : m ∈ midL xs) (p : Int) (hp : p ∈ m.next) : 0 ≤ p ∧ p.toNat ∈ lds xs xs.length := by
  unfold midL at hm
  obtain ⟨m0, hm0, rfl⟩ := List.mem_map.1 hm
  obtain ⟨b, hb⟩ := List.getElem?_of_mem hm0
  obtain ⟨e, he, hen⟩ := last_nat xs xs.length hg.1 m0 hm0
  obtain ⟨x, hx⟩ : ∃ x, xs[e]? = some x := ⟨_, List.getElem?_eq_getElem hen⟩
  simp only [midB] at hp
  rw [he, Int.toNat_natCast, List.getD_eq_getElem?_getD, hx] at hp
  simp only [Option.getD_some, placesL] at hp
  rcases List.mem_append.1 hp with h1 | h1
  · split at h1
    · rename_i q
      simp only [List.mem_cons, List.not_mem_nil, or_false] at h1
      subst h1
      rw [outL_build] at hb
      refine ⟨by omega, ?_⟩
      rw [Int.toNat_natCast]
      exact end_lead _ _ _ _ _ hb he q.2
    · cases h1
  · split at h1
    · rename_i q
      simp only [List.mem_cons, List.not_mem_nil, or_false] at h1
      subst h1
      obtain ⟨c0, c1⟩ := hg.2.2 e x hx q.1
      have c3 : (x.c.toNat : Int) = x.c := Int.toNat_of_nonneg c0
      exact ⟨c0, (lds_mem _ _ _).2 ⟨by omega, leadB_of xs _ e _ x hen hx (by simp [leads, q.1, c3])⟩⟩
    · cases h1
theorem idx_map (L : List Nat) (q : Nat) : (L.map Int.ofNat).idxOf (q : Int) = L.idxOf q := by
  induction L with
  | nil => rfl
  | cons y r ih =>
    rw [List.map_cons, List.idxOf_cons, List.idxOf_cons, ih]
    by_cases h : y = q
    · subst h
      simp
    · have h1 : (Int.ofNat y == (q : Int)) = false := by
        rw [beq_eq_false_iff_ne]
        intro e
        exact h (by have e' : (y : Int) = (q : Int) := e; omega)
      have h2 : (y == q) = false := by simpa using h
      rw [h1, h2]
/-- The rows, in the last loop. -/
structure JW (w u : World) (xs : List MI) (gl cl bl : Nat) (F : List (MB × Value)) : Prop where
  row : u.ownsRow w.heap.size 71 3 (.slice (some ⟨bl, 0, none⟩) (lds xs xs.length).length (lds xs xs.length).length) (lds xs xs.length).length (F.flatMap bCells)
  fam : Fam u w.heap.size ((.slice (some ⟨gl, 0, none⟩) (lds xs xs.length).length cl, (lds xs xs.length).map Int.ofNat) :: nrows F)
  bel : Below w.heap.size w u
theorem JW.keep {w u u' : World} {xs : List MI} {gl cl bl : Nat} {F : List (MB × Value)} (h : JW w u xs gl cl bl F) (hb : Below u.heap.size u u') : JW w u' xs gl cl bl F := ⟨own_keep h.row hb (Nat.le_refl _), h.fam.keep hb, below_on h.bel (Nat.le_refl _) hb⟩
theorem JW.drew {w u : World} {xs : List MI} {gl cl bl : Nat} {F : List (MB × Value)} (h : JW w u xs gl cl bl F) (k : Nat) : JW w (u.drewN k) xs gl cl bl F := ⟨⟨h.row.1, h.row.2⟩, ⟨fun r hr => ⟨(h.fam.own r hr).1, (h.fam.own r hr).2⟩, h.fam.sep⟩, ⟨h.bel.os, h.bel.tape, h.bel.output, h.bel.size, h.bel.block⟩⟩
theorem JW.set {w u : World} {xs : List MI} {gl cl bl gv cv n : Nat} {E G : List (MB × Value)} {f l : Int} {ps qs : List Int} {i : Nat} {z : Int} (h : JW w u xs gl cl bl (E ++ (⟨f, l, ps⟩, .slice (some ⟨gv, 0, none⟩) n cv) :: G)) (hn : ps.length = n) (hq : (ps.flatMap intCell).set i (.int .i64 z) = qs.flatMap intCell) (hl : qs.length = ps.length) : JW w (u.setCell ⟨gv, i, none⟩ (.int .i64 z)) xs gl cl bl (E ++ (⟨f, l, qs⟩, .slice (some ⟨gv, 0, none⟩) n cv) :: G) := by
  have hv := h.fam.own (.slice (some ⟨gv, 0, none⟩) n cv, ps) (by simp [nrows])
  simp only [] at hv
  rw [hn] at hv
  have h1 := (hv.stored i (.int .i64 z)).1
  rw [hq] at h1
  refine ⟨?_, ?_, h.bel.setCell (own_blk hv).1 _⟩
  · have := own_set_ne h.row hv (by decide) i (.int .i64 z)
    simpa [bCells] using this
  · have hf := h.fam
    rw [show (((.slice (some ⟨gl, 0, none⟩) (lds xs xs.length).length cl, (lds xs xs.length).map Int.ofNat) : Value × List Int) :: nrows (E ++ ((⟨f, l, ps⟩ : MB), (.slice (some ⟨gv, 0, none⟩) n cv : Value)) :: G)) = (((.slice (some ⟨gl, 0, none⟩) (lds xs xs.length).length cl, (lds xs xs.length).map Int.ofNat) : Value × List Int) :: nrows E) ++ ((.slice (some ⟨gv, 0, none⟩) n cv : Value), ps) :: nrows G from by simp [nrows]] at hf
    have := Fam.put (c' := qs) hf hl (by rw [hn]; exact h1) (grown_set' ⟨rfl, rfl, rfl, Nat.le_refl _, fun _ _ _ => rfl⟩ i (.int .i64 z))
    simpa [nrows] using this
theorem JW.search {w u : World} {xs : List MI} {gl cl bl m : Nat} {F : List (MB × Value)} (h : JW w u xs gl cl bl F) (hm : (lds xs xs.length).length = m) (hm1 : m ≤ 1024) (p : Int) (h0 : 0 ≤ p) (hp : p.toNat ∈ lds xs xs.length) :
    Calls Tryz.prog 138 #[.slice (some ⟨gl, 0, none⟩) m cl, .int .i64 p] u fun e w' => (∃ b, e = .returned (.tuple #[.int .i64 (idxL xs p), .bool b])) ∧ ∃ q, w' = u.drewN q := by
  have hl := Rd.of_own (h.fam.own _ List.mem_cons_self)
  simp only [List.length_map] at hl
  have k := search_any gl cl ((lds xs xs.length).map Int.ofNat) p u (by rw [List.length_map, hm]; omega) (List.pairwise_map.2 ((lds_sorted xs _).imp (fun h => by simpa using h))) (by rw [List.length_map]; exact hl) (List.mem_map.2 ⟨p.toNat, hp, by simp; omega⟩)
  have e : ((lds xs xs.length).map Int.ofNat).idxOf p = (lds xs xs.length).idxOf p.toNat := by
    have e1 : p = (p.toNat : Int) := by omega
    rw [← idx_map]
    congr 1
  rw [List.length_map, hm, e] at k
  exact k
theorem step_ints (xs : List MI) (ps : List Int) (i : Nat) (p : Int) (h : ps[i]? = some p) : (((ps.map (idxL xs)).take i ++ ps.drop i).flatMap intCell).set i (.int .i64 (idxL xs p)) = ((ps.map (idxL xs)).take (i + 1) ++ ps.drop (i + 1)).flatMap intCell := by
  obtain ⟨hlt, hp⟩ := List.getElem?_eq_some_iff.1 h
  rw [List.drop_eq_getElem_cons hlt, hp, List.flatMap_append, List.flatMap_cons]
  have hA : ((List.take i (ps.map (idxL xs))).flatMap intCell).length = i := by
    rw [flat_length intCell 1 intCell_length, List.length_take, List.length_map]
    omega
  rw [show intCell p ++ List.flatMap intCell (List.drop (i + 1) ps) = [Value.int .i64 p] ++ List.flatMap intCell (List.drop (i + 1) ps) from rfl, set1 _ _ _ _ i hA, List.take_succ_eq_append_getElem (by simpa using hlt), List.flatMap_append, List.flatMap_append]
  simp [intCell, hp]
end Go.Proofs.YtifpjgdnikkekaaGreat
