import Derived.Test.YthifelgdkmkdkaaGreatDoorFm30
import Derived.Test.YthifelgdkmkdkaaGreatDoorFm31
import Derived.Test.YthifelgdkmkdkaaGreatDoorFm25
namespace Go.Proofs.YthifelgdkmkdkaaGreatDoor
open Go.ChangeShapes Go.WideShapes Go.ChangeAt Go.RowKit
set_option linter.unusedVariables false
theorem info_name (s : ByteArray) (co F : Int) (w : World) : (Instr.field 93 (.agg #[.string s, .int .i64 co, .int .i64 F]) 0).run Tryz.prog w = .ok (.string s) w := by kernel_rfl
/-- The two blocks of a call of l11Instr. -/
structure SIn (w u : World) (X : Nat) (op a b c : Int) (nm : List UInt8) (co F : Int) : Prop where
  bel : Below w.heap.size w u
  ins : At4 u w.heap.size (.int .i64 op) (.int .i64 a) (.int .i64 b) (.int .i64 c)
  inf : At3 u X (.string ⟨nm.toArray⟩) (.int .i64 co) (.int .i64 F)
theorem SIn.keep {w u u' : World} {X : Nat} {op a b c : Int} {nm : List UInt8} {co F : Int} (h : SIn w u X op a b c nm co F) (hb : Below u.heap.size u u') : SIn w u' X op a b c nm co F := ⟨below_on h.bel (Nat.le_refl _) hb, h.ins.keep hb, h.inf.keep hb⟩
set_option maxHeartbeats 4000000 in
set_option maxRecDepth 100000 in
theorem l11Instr_any (op a b c : Int) (w : World) (hop : 0 ≤ op ∧ op ≤ 29) (ha : 0 ≤ a ∧ a ≤ 9223372036854775807) (hb : 0 ≤ b ∧ b ≤ 9223372036854775807) (hc : 0 ≤ c ∧ c ≤ 9223372036854775807) :
    Calls Tryz.prog 17 #[.agg #[.int .i64 op, .int .i64 a, .int .i64 b, .int .i64 c]] w fun e w' => e = .returned (strV (nameOf op ++ wordsT (instrW (formOf op) a b c))) ∧ Below w.heap.size w w' := by
  obtain ⟨co, hinf⟩ := infoOf_all op
  have hnl := nameOf_le op
  have hF : 0 ≤ formOf op ∧ formOf op ≤ 11 := by
    obtain ⟨k, rfl⟩ := Int.eq_ofNat_of_zero_le hop.1
    exact (formOf_nat k (by omega)).1
  have HA : Hid ((0 ≤ a ∧ a ≤ 9223372036854775807) ∧ (0 ≤ b ∧ b ≤ 9223372036854775807) ∧ (0 ≤ c ∧ c ≤ 9223372036854775807)) := ⟨ha, hb, hc⟩
  have I0 := At4.new w (.int .i64 op) (.int .i64 a) (.int .i64 b) (.int .i64 c) 55
  clear ha hb hc
  go_enter Tryz.func17, Tryz.ntmps17
  go_wp2_with fail
  refine (SInfo_any op _).mono ?_
  rintro e u1 ⟨rfl, b1⟩
  rw [hinf]
  have HI : Hid (At4 u1 w.heap.size (.int .i64 op) (.int .i64 a) (.int .i64 b) (.int .i64 c) ∧ Below w.heap.size w u1) := ⟨I0.keep b1, below_on (below_alloc _ _) (Nat.le_refl _) b1⟩
  clear I0 b1 hinf
  generalize hN : nameOf op = nm at *
  generalize hM : formOf op = F at *
  have HN : Hid (nameOf op = nm ∧ formOf op = F) := ⟨hN, hM⟩
  clear hN hM
  unfold strV
  obtain ⟨i0, i1, i2, i3⟩ := HI.out.1.alloc (.cells #[.string ⟨nm.toArray⟩, .int .i64 co, .int .i64 F] 93)
  go_wp2_with fail
  refine (l11Dec_any a HA.out.1.1 HA.out.1.2 _).mono ?_
  rintro e u2 ⟨rfl, b2⟩
  have HS : Hid (SIn w u2 u1.heap.size op a b c nm co F) := ⟨below_on (below_on HI.out.2 (Nat.le_refl _) (below_alloc _ _)) (Nat.le_refl _) b2, (HI.out.1.alloc _).keep b2, (At3.new _ _ _ _ _).keep b2⟩
  generalize u1.heap.size = X at *
  clear i0 i1 i2 i3 HI b2 u1
  obtain ⟨i0, i1, i2, i3⟩ := HS.out.ins
  unfold strV
  generalize hda : decL a = da
  have hla : da.length ≤ 19 := by rw [← hda]; exact decL_length a HA.out.1.2
  go_wp2_with fail
  refine (l11Dec_any b HA.out.2.1.1 HA.out.2.1.2 _).mono ?_
  rintro e u3 ⟨rfl, b3⟩
  have HS3 : Hid (SIn w u3 X op a b c nm co F) := HS.out.keep b3
  clear i0 i1 i2 i3 HS b3 u2
  obtain ⟨i0, i1, i2, i3⟩ := HS3.out.ins
  unfold strV
  generalize hdb : decL b = db
  have hlb : db.length ≤ 19 := by rw [← hdb]; exact decL_length b HA.out.2.1.2
  go_wp2_with fail
  refine (l11Dec_any c HA.out.2.2.1 HA.out.2.2.2 _).mono ?_
  rintro e u4 ⟨rfl, b4⟩
  have HS4 : Hid (SIn w u4 X op a b c nm co F) := HS3.out.keep b4
  clear i0 i1 i2 i3 HS3 b4 u3
  obtain ⟨i0, i1, i2, i3⟩ := HS4.out.ins
  obtain ⟨j0, j1, j2⟩ := HS4.out.inf
  unfold strV
  generalize hdc : decL c = dc
  have hlc : dc.length ≤ 19 := by rw [← hdc]; exact decL_length c HA.out.2.2.2
  have HD : Hid (decL a = da ∧ decL b = db ∧ decL c = dc) := ⟨hda, hdb, hdc⟩
  clear hda hdb hdc HA
  have hFF : F = 0 ∨ F = 1 ∨ F = 2 ∨ F = 3 ∨ F = 4 ∨ F = 5 ∨ F = 6 ∨ F = 7 ∨ F = 8 ∨ F = 9 ∨ F = 10 ∨ F = 11 := by omega
  clear hF hop
  rcases hFF with rfl | rfl | rfl | rfl | rfl | rfl | rfl | rfl | rfl | rfl | rfl | rfl
  · go_wp2
    go_ret
    refine ⟨congrArg Ending.returned ?_, HS4.out.bel⟩
    rw [HN.out.1, HN.out.2]
    show Value.string _ = Value.string _
    congr 1
    apply ByteArray.ext
    simp [instrW, namedL, wordsT]
  · go_wp2
    go_ret
    refine ⟨congrArg Ending.returned ?_, HS4.out.bel⟩
    rw [HN.out.1, HN.out.2]
    show Value.string _ = Value.string _
    congr 1
    apply ByteArray.ext
    simp [instrW, namedL, namesT, wordsT, HD.out.1]
  · go_wp2
    go_ret
    refine ⟨congrArg Ending.returned ?_, HS4.out.bel⟩
    rw [HN.out.1, HN.out.2]
    show Value.string _ = Value.string _
    congr 1
    apply ByteArray.ext
    simp [instrW, namedL, namesT, wordsT, HD.out.1]
  · go_wp2
    go_ret
    refine ⟨congrArg Ending.returned ?_, HS4.out.bel⟩
    rw [HN.out.1, HN.out.2]
    show Value.string _ = Value.string _
    congr 1
    apply ByteArray.ext
    simp [instrW, namedL, namesT, wordsT, HD.out.1, HD.out.2.1]
  · go_wp2
    go_ret
    refine ⟨congrArg Ending.returned ?_, HS4.out.bel⟩
    rw [HN.out.1, HN.out.2]
    show Value.string _ = Value.string _
    congr 1
    apply ByteArray.ext
    simp [instrW, namedL, namesT, wordsT, HD.out.1, HD.out.2.1, HD.out.2.2]
  · have inst := Grown.some u4
    have I0 := fun n : Grown u4 => Grown.cell i0 n
    have I1 := fun n : Grown u4 => Grown.cell i1 n
    have I2 := fun n : Grown u4 => Grown.cell i2 n
    have I3 := fun n : Grown u4 => Grown.cell i3 n
    have J0 := fun n : Grown u4 => Grown.cell j0 n
    have J1 := fun n : Grown u4 => Grown.cell j1 n
    have J2 := fun n : Grown u4 => Grown.cell j2 n
    have htya := tyName_length a
    go_wp2_with fail
    refine wp_region_grown (by kernel_rfl) (by kernel_rfl) ?_
    repeat (go_big_quiet_step ((go_at_call 15; rename_i n; first | (exact (STypeName_any a n.u).mono fun e w'' h => ⟨show e = .returned (.string ⟨(tyName a).toArray⟩) from h.1, ⟨⟨w'', below_on n.h (Nat.le_refl _) h.2⟩, rfl⟩⟩))))
    refine wpQuiet_nil ?_
    rintro w'' ⟨n, rfl⟩
    go_wp2
    go_ret
    refine ⟨congrArg Ending.returned ?_, below_on HS4.out.bel (Nat.le_refl _) n.h⟩
    rw [HN.out.1, HN.out.2]
    show Value.string _ = Value.string _
    congr 1
    apply ByteArray.ext
    simp [instrW, namedL, namesT, wordsT]
  · have inst := Grown.some u4
    have I0 := fun n : Grown u4 => Grown.cell i0 n
    have I1 := fun n : Grown u4 => Grown.cell i1 n
    have I2 := fun n : Grown u4 => Grown.cell i2 n
    have I3 := fun n : Grown u4 => Grown.cell i3 n
    have J0 := fun n : Grown u4 => Grown.cell j0 n
    have J1 := fun n : Grown u4 => Grown.cell j1 n
    have J2 := fun n : Grown u4 => Grown.cell j2 n
    have htya := tyName_length a
    go_wp2_with fail
    refine wp_region_grown (by kernel_rfl) (by kernel_rfl) ?_
    repeat (go_big_quiet_step ((go_at_call 15; rename_i n; first | (exact (STypeName_any a n.u).mono fun e w'' h => ⟨show e = .returned (.string ⟨(tyName a).toArray⟩) from h.1, ⟨⟨w'', below_on n.h (Nat.le_refl _) h.2⟩, rfl⟩⟩))))
    refine wpQuiet_nil ?_
    rintro w'' ⟨n, rfl⟩
    go_wp2
    go_ret
    refine ⟨congrArg Ending.returned ?_, below_on HS4.out.bel (Nat.le_refl _) n.h⟩
    rw [HN.out.1, HN.out.2]
    show Value.string _ = Value.string _
    congr 1
    apply ByteArray.ext
    simp [instrW, namedL, namesT, wordsT]
  · have inst := Grown.some u4
    have I0 := fun n : Grown u4 => Grown.cell i0 n
    have I1 := fun n : Grown u4 => Grown.cell i1 n
    have I2 := fun n : Grown u4 => Grown.cell i2 n
    have I3 := fun n : Grown u4 => Grown.cell i3 n
    have J0 := fun n : Grown u4 => Grown.cell j0 n
    have J1 := fun n : Grown u4 => Grown.cell j1 n
    have J2 := fun n : Grown u4 => Grown.cell j2 n
    have htya := tyName_length a
    go_wp2_with fail
    refine wp_region_grown (by kernel_rfl) (by kernel_rfl) ?_
    repeat (go_big_quiet_step ((go_at_call 15; rename_i n; first | (exact (STypeName_any a n.u).mono fun e w'' h => ⟨show e = .returned (.string ⟨(tyName a).toArray⟩) from h.1, ⟨⟨w'', below_on n.h (Nat.le_refl _) h.2⟩, rfl⟩⟩))))
    refine wpQuiet_nil ?_
    rintro w'' ⟨n, rfl⟩
    go_wp2
    go_ret
    refine ⟨congrArg Ending.returned ?_, below_on HS4.out.bel (Nat.le_refl _) n.h⟩
    rw [HN.out.1, HN.out.2]
    show Value.string _ = Value.string _
    congr 1
    apply ByteArray.ext
    simp [instrW, namedL, namesT, wordsT]
  · have inst := Grown.some u4
    have I0 := fun n : Grown u4 => Grown.cell i0 n
    have I1 := fun n : Grown u4 => Grown.cell i1 n
    have I2 := fun n : Grown u4 => Grown.cell i2 n
    have I3 := fun n : Grown u4 => Grown.cell i3 n
    have J0 := fun n : Grown u4 => Grown.cell j0 n
    have J1 := fun n : Grown u4 => Grown.cell j1 n
    have J2 := fun n : Grown u4 => Grown.cell j2 n
    have htya := tyName_length a
    have htyb := tyName_length b
    go_wp2_with fail
    refine wp_region_grown (by kernel_rfl) (by kernel_rfl) ?_
    repeat (go_big_quiet_step ((go_at_call 15; rename_i n; first | (exact (STypeName_any a n.u).mono fun e w'' h => ⟨show e = .returned (.string ⟨(tyName a).toArray⟩) from h.1, ⟨⟨w'', below_on n.h (Nat.le_refl _) h.2⟩, rfl⟩⟩) | (exact (STypeName_any b n.u).mono fun e w'' h => ⟨show e = .returned (.string ⟨(tyName b).toArray⟩) from h.1, ⟨⟨w'', below_on n.h (Nat.le_refl _) h.2⟩, rfl⟩⟩))))
    refine wpQuiet_nil ?_
    rintro w'' ⟨n, rfl⟩
    go_wp2
    go_ret
    refine ⟨congrArg Ending.returned ?_, below_on HS4.out.bel (Nat.le_refl _) n.h⟩
    rw [HN.out.1, HN.out.2]
    show Value.string _ = Value.string _
    congr 1
    apply ByteArray.ext
    simp [instrW, namedL, namesT, wordsT]
  · go_wp2
    go_ret
    refine ⟨congrArg Ending.returned ?_, HS4.out.bel⟩
    rw [HN.out.1, HN.out.2]
    show Value.string _ = Value.string _
    congr 1
    apply ByteArray.ext
    simp [instrW, namedL, namesT, wordsT, HD.out.2.2]
  · go_wp2
    go_ret
    refine ⟨congrArg Ending.returned ?_, HS4.out.bel⟩
    rw [HN.out.1, HN.out.2]
    show Value.string _ = Value.string _
    congr 1
    apply ByteArray.ext
    simp [instrW, namedL, namesT, wordsT, HD.out.1, HD.out.2.2]
  · go_wp2
    go_ret
    refine ⟨congrArg Ending.returned ?_, HS4.out.bel⟩
    rw [HN.out.1, HN.out.2]
    show Value.string _ = Value.string _
    congr 1
    apply ByteArray.ext
    simp [instrW, namedL, namesT, wordsT, HD.out.1]
end Go.Proofs.YthifelgdkmkdkaaGreatDoor
