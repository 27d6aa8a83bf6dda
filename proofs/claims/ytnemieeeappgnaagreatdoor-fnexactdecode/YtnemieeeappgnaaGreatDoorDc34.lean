import Derived.Test.YtnemieeeappgnaaGreatDoorDc6
import Derived.Test.YtnemieeeappgnaaGreatDoorDc13
import Derived.Test.YtnemieeeappgnaaGreatDoorDc33
import Derived.Laws.Entries
import Derived.Test.YtnemieeeappgnaaGreatDoorDc0
namespace Go.Proofs.YtnemieeeappgnaaGreatDoor
open Go.ChangeShapes Go.WideShapes Go.ChangeAt Go.RowKit
set_option linter.unusedVariables false
theorem Sep.ownP {w : World} {base : Nat} {v : VP} {F : List (List Int × Value)} {cs : List MC} {G : List (MF × VF)} {ts : List MT} {B : List RowI} (h : Sep w base (pItems v F cs G ts B)) : OwnP w base v ⟨F.map Prod.fst, cs, G.map Prod.fst, ts⟩ := by
  have h1 := h.own (rHead v.r F) (by simp [pItems])
  have h3 := h.own (fHead v.f G) (by simp [pItems])
  refine ⟨⟨F, rfl, by simpa [rHead, RowI.own] using h1, fun x hx => h.own (iRow x.2 x.1) ?_⟩, h.own (cRow v.k cs) (by simp [pItems]), ⟨G, rfl, by simpa [fHead, RowI.own] using h3, fun x hx => ⟨h.own (iRow x.2.p x.1.params) ?_, h.own (iRow x.2.l x.1.locals) ?_, h.own (nRow x.2.c x.1.code) ?_⟩⟩, h.own (tRow v.t ts) (by simp [pItems])⟩
  · have : iRow x.2 x.1 ∈ rItems F := List.mem_map.2 ⟨x, hx, rfl⟩
    simp [pItems, this]
  all_goals
    have e : ∀ r ∈ fItem x, r ∈ fItems G := fun r hr => List.mem_flatMap.2 ⟨x, hx, hr⟩
  · have := e (iRow x.2.p x.1.params) (by simp [fItem]); simp [pItems, this]
  · have := e (iRow x.2.l x.1.locals) (by simp [fItem]); simp [pItems, this]
  · have := e (nRow x.2.c x.1.code) (by simp [fItem]); simp [pItems, this]
theorem w32_of {z : Int} (h0 : 0 ≤ z) (h1 : z ≤ 4294967295) : W32 z := by simp [W32, Lit.wf, IntKind.min, IntKind.max, IntKind.signed, IntKind.bits]; omega
/-- What a reader gives is so. -/
def Gives {α : Type} (r : Rdr α) (P : α → Prop) : Prop := ∀ k x k', r k = some (x, k') → P x
theorem Gives.mono {α : Type} {r : Rdr α} {P Q : α → Prop} (h : Gives r P) (hq : ∀ x, P x → Q x) : Gives r Q := fun k x k' e => hq x (h k x k' e)
theorem Gives.give {α : Type} {P : α → Prop} {x : α} (h : P x) : Gives (giveR x) P := fun k y k' e => by
  simp only [giveR, Option.some.injEq, Prod.mk.injEq] at e
  rw [← e.1]; exact h
theorem Gives.then {α β : Type} {r : Rdr α} {f : α → Rdr β} {P : α → Prop} {Q : β → Prop} (h : Gives r P) (h' : ∀ x, P x → Gives (f x) Q) : Gives (thenR r f) Q := fun k y k' e => by
  cases e1 : r k with
  | none => rw [thenR_none e1] at e; cases e
  | some z =>
    obtain ⟨z, k1⟩ := z
    rw [thenR_some e1] at e
    exact h' z (h k z k1 e1) _ _ _ e
theorem Gives.many {α : Type} {r : Rdr α} {P : α → Prop} (h : Gives r P) (c : Nat) : Gives (manyR r c) (fun xs => xs.length = c ∧ ∀ x ∈ xs, P x) := by
  induction c with
  | zero => exact Gives.give ⟨rfl, fun x hx => by cases hx⟩
  | succ c ih => exact ih.then fun xs hxs => h.then fun x hx => Gives.give ⟨by simp [hxs.1], fun y hy => by
      rcases List.mem_append.1 hy with hy | hy
      · exact hxs.2 y hy
      · rw [List.mem_singleton.1 hy]; exact hx⟩
theorem Gives.num {zs : List Int} (hz : AllB zs) (n : Nat) (hn : n ≤ 7) : Gives (numR zs n) (fun x => 0 ≤ x ∧ x < 2 ^ (8 * n)) := fun k x k' e => numR_val hz hn e
theorem Gives.list {α : Type} {zs : List Int} (hz : AllB zs) (n : Nat) (hn : n ≤ 2) {r : Rdr α} {P : α → Prop} (h : Gives r P) : Gives (listR zs n r) (fun xs => xs.length ≤ 65535 ∧ ∀ x ∈ xs, P x) := by
  refine (Gives.num hz n (by omega)).then fun c hc => (h.many c.toNat).mono fun xs hx => ⟨?_, hx.2⟩
  have : (2 : Int) ^ (8 * n) ≤ 65536 := by
    have : n = 0 ∨ n = 1 ∨ n = 2 := by omega
    rcases this with rfl | rfl | rfl <;> decide
  have := hc.1
  have := hc.2
  rw [hx.1]
  omega
theorem Gives.types {zs : List Int} (hz : AllB zs) (n : Nat) (hn : n ≤ 2) : Gives (typesR zs n) (fun xs => xs.length ≤ 65535 ∧ ∀ x ∈ xs, W64 x) :=
  Gives.list hz n hn ((Gives.num hz 1 (by omega)).mono fun x hx => W64_of (by omega) (by omega))
theorem Gives.const {zs : List Int} (hz : AllB zs) : Gives (constR zs) MC.wf :=
  (Gives.num hz 1 (by omega)).then fun t ht => (Gives.num hz 4 (by omega)).then fun x hx => Gives.give ⟨W64_of (z := t) (by omega) (by omega), w32_of (z := x) (by omega) (by omega)⟩
theorem Gives.instr {zs : List Int} (hz : AllB zs) : Gives (instrR zs) MI.wf :=
  (Gives.num hz 1 (by omega)).then fun o ho => (Gives.num hz 1 (by omega)).then fun a ha => (Gives.num hz 2 (by omega)).then fun b hb => (Gives.num hz 4 (by omega)).then fun c hc => Gives.give ⟨W64_of (z := o) (by omega) (by omega), W64_of (z := a) (by omega) (by omega), W64_of (z := b) (by omega) (by omega), W64_of (z := c) (by omega) (by omega)⟩
theorem Gives.cert {zs : List Int} (hz : AllB zs) : Gives (certR zs) MT.wf :=
  (Gives.num hz 2 (by omega)).then fun f hf => (Gives.num hz 2 (by omega)).then fun h hh => (Gives.num hz 1 (by omega)).then fun c hc => (Gives.num hz 4 (by omega)).then fun i hi => Gives.give ⟨W64_of (z := f) (by omega) (by omega), W64_of (z := h) (by omega) (by omega), W64_of (z := c) (by omega) (by omega), w32_of (z := i) (by omega) (by omega)⟩
theorem Gives.func {zs : List Int} (hz : AllB zs) : Gives (funcR zs) (fun f => f.small ∧ f.wf) :=
  (Gives.types hz 1 (by omega)).then fun ps hp => (Gives.num hz 1 (by omega)).then fun r hr => (Gives.types hz 1 (by omega)).then fun ls hl => (Gives.list hz 2 (by omega) (Gives.instr hz)).then fun code hc => Gives.give ⟨⟨Nat.le_trans hp.1 (by omega), Nat.le_trans hl.1 (by omega), Nat.le_trans hc.1 (by omega)⟩, ⟨hp.2, W64_of (z := r) (by omega) (by omega), hl.2, hc.2⟩⟩
theorem Gives.prog {zs : List Int} (hz : AllB zs) : Gives (progR zs) (fun p => p.small ∧ p.wf) :=
  ((Gives.types hz 2 (by omega)).many 3).then fun rs hr => (Gives.list hz 2 (by omega) (Gives.const hz)).then fun cs hc => (Gives.list hz 2 (by omega) (Gives.func hz)).then fun fs hf => (Gives.list hz 2 (by omega) (Gives.cert hz)).then fun ts ht => Gives.give ⟨⟨by have := hr.1; simp only []; omega, fun r hx => by have := (hr.2 r hx).1; omega, by have := hc.1; simp only []; omega, by have := hf.1; simp only []; omega, fun f hx => (hf.2 f hx).1, by have := ht.1; simp only []; omega⟩, ⟨fun r hx => (hr.2 r hx).2, hc.2, fun f hx => (hf.2 f hx).2, ht.2⟩⟩
end Go.Proofs.YtnemieeeappgnaaGreatDoor
namespace Go.Proofs.YtnemieeeappgnaaGreatDoor
set_option linter.unusedVariables false

abbrev B32 := BitVec 32
def poly : B32 := 3988292384#32
/-- One step. -/
def crcS (r : B32) : B32 := (r >>> 1) ^^^ (if r.getLsbD 0 then poly else 0#32)
def crcN : Nat → B32 → B32
  | 0, r => r
  | n + 1, r => crcS (crcN n r)
theorem crcS_xor (a b : B32) : crcS (a ^^^ b) = crcS a ^^^ crcS b := by
  unfold crcS
  rw [BitVec.ushiftRight_xor_distrib, BitVec.getLsbD_xor]
  apply BitVec.eq_of_getLsbD_eq
  intro i hi
  simp only [BitVec.getLsbD_xor]
  cases a.getLsbD 0 <;> cases b.getLsbD 0 <;> simp [Bool.xor_comm, Bool.xor_left_comm]
theorem crcN_xor (n : Nat) (a b : B32) : crcN n (a ^^^ b) = crcN n a ^^^ crcN n b := by
  induction n with
  | zero => rfl
  | succ n ih => unfold crcN; rw [ih, crcS_xor]
theorem crcN_add (m n : Nat) (r : B32) : crcN (m + n) r = crcN m (crcN n r) := by
  induction m with
  | zero => rw [Nat.zero_add]; rfl
  | succ m ih => rw [Nat.succ_add]; unfold crcN; rw [ih]
/-- What has zeros at its foot is only shifted. -/
theorem crcN_high (n : Nat) (r : B32) (h : ∀ i, i < n → r.getLsbD i = false) : crcN n r = r >>> n := by
  induction n with
  | zero => simp [crcN]
  | succ n ih =>
    unfold crcN
    rw [ih fun i hi => h i (by omega)]
    unfold crcS
    have h0 : (r >>> n).getLsbD 0 = false := by simp [h n (by omega)]
    rw [h0]
    apply BitVec.eq_of_getLsbD_eq
    intro i hi
    simp [Nat.add_comm, Nat.add_left_comm]

def sumTab : List Int := [0, 498536548, 997073096, 651767980, 1994146192, 1802195444, 1303535960, 1342533948, 3988292384, 4027552580, 3604390888, 3412177804, 2607071920, 2262029012, 2685067896, 3183342108]
theorem tab_ok : ∀ k : Fin 16, crcN 4 (BitVec.ofNat 32 k.val) = BitVec.ofInt 32 (sumTab.getD k.val 0) := by decide
/-- The half byte's step. -/
def nibS (r : B32) : B32 := (r >>> 4) ^^^ BitVec.ofInt 32 (sumTab.getD (r &&& 15#32).toNat 0)
theorem low_lt (r : B32) : (r &&& 15#32).toNat < 16 := by
  rw [BitVec.toNat_and]
  have : (15#32).toNat = 15 := by decide
  rw [this]
  exact Nat.lt_succ_of_le Nat.and_le_right
theorem nibS_eq (r : B32) : nibS r = crcN 4 r := by
  have hs : r = (r &&& ~~~15#32) ^^^ (r &&& 15#32) := by
    apply BitVec.eq_of_getLsbD_eq
    intro i hi
    simp only [BitVec.getLsbD_xor, BitVec.getLsbD_and, BitVec.getLsbD_not, hi, decide_true, Bool.true_and]
    cases r.getLsbD i <;> cases (15#32).getLsbD i <;> rfl
  have hlow : r &&& 15#32 = BitVec.ofNat 32 (r &&& 15#32).toNat := by simp
  have h1 : crcN 4 (r &&& ~~~15#32) = r >>> 4 := by
    rw [crcN_high]
    · apply BitVec.eq_of_getLsbD_eq
      intro i hi
      rw [BitVec.getLsbD_ushiftRight, BitVec.getLsbD_ushiftRight, BitVec.getLsbD_and, BitVec.getLsbD_not]
      have : (15#32).getLsbD (4 + i) = false := by
        rw [BitVec.getLsbD_ofNat, Nat.testBit_lt_two_pow (Nat.lt_of_lt_of_le (show 15 < 2 ^ 4 by decide) (Nat.pow_le_pow_right (by decide) (by omega)))]
        simp
      rw [this]
      by_cases h : 4 + i < 32
      · simp [h]
      · simp [BitVec.getLsbD_of_ge _ _ (show 32 ≤ 4 + i by omega)]
    · intro i hi
      have hc : i = 0 ∨ i = 1 ∨ i = 2 ∨ i = 3 := by omega
      rcases hc with rfl | rfl | rfl | rfl <;> simp
  have h2 : crcN 4 (r &&& 15#32) = BitVec.ofInt 32 (sumTab.getD (r &&& 15#32).toNat 0) := by
    have := tab_ok ⟨(r &&& 15#32).toNat, low_lt r⟩
    rw [← this, ← hlow]
  conv => rhs; rw [hs]
  rw [crcN_xor, h1, h2]
  rfl
/-- A bit is taken in. -/
def bitS (r : B32) (b : Bool) : B32 := (r >>> 1) ^^^ (if (b != r.getLsbD 0) then poly else 0#32)
/-- The first k bits of x are taken in. -/
def bitsS (r x : B32) : Nat → B32
  | 0 => r
  | k + 1 => bitS (bitsS r x k) (x.getLsbD k)
theorem bitS_eq (r : B32) (b : Bool) : bitS r b = crcS (r ^^^ (if b then 1#32 else 0#32)) := by
  unfold bitS crcS
  rw [BitVec.ushiftRight_xor_distrib, BitVec.getLsbD_xor]
  cases b
  · simp
  · cases h : r.getLsbD 0 <;> simp
theorem bitsS_inv (r x : B32) (k : Nat) : bitsS r x k ^^^ (x >>> k) = crcN k (r ^^^ x) := by
  induction k with
  | zero => simp [bitsS, crcN]
  | succ k ih =>
    unfold bitsS crcN
    have h0 : ((x >>> k) ^^^ (if x.getLsbD k then 1#32 else 0#32)).getLsbD 0 = false := by
      rw [BitVec.getLsbD_xor, BitVec.getLsbD_ushiftRight]
      cases h : x.getLsbD k
      · simp
      · simp
    have h1 : (if x.getLsbD k then 1#32 else 0#32) >>> 1 = 0#32 := by cases x.getLsbD k <;> decide
    have hz : crcS ((x >>> k) ^^^ (if x.getLsbD k then 1#32 else 0#32)) = x >>> (k + 1) := by
      unfold crcS
      rw [h0, BitVec.ushiftRight_xor_distrib, h1]
      apply BitVec.eq_of_getLsbD_eq
      intro i hi
      simp [Nat.add_comm, Nat.add_left_comm]
    have e : bitsS r x k ^^^ (x >>> k) = (bitsS r x k ^^^ (if x.getLsbD k then 1#32 else 0#32)) ^^^ ((x >>> k) ^^^ (if x.getLsbD k then 1#32 else 0#32)) := by
      generalize (if x.getLsbD k then 1#32 else 0#32) = b
      apply BitVec.eq_of_getLsbD_eq
      intro i hi
      simp only [BitVec.getLsbD_xor]
      cases (bitsS r x k).getLsbD i <;> cases (x >>> k).getLsbD i <;> cases b.getLsbD i <;> rfl
    rw [← ih, e, crcS_xor, hz, bitS_eq]
theorem bits8 (r x : B32) (hx : x.toNat < 256) : bitsS r x 8 = nibS (nibS (r ^^^ x)) := by
  have h := bitsS_inv r x 8
  have h0 : x >>> 8 = 0#32 := by
    apply BitVec.eq_of_toNat_eq
    rw [BitVec.toNat_ushiftRight, Nat.shiftRight_eq_div_pow]
    simp; omega
  rw [h0, BitVec.xor_zero] at h
  rw [h, nibS_eq, nibS_eq, ← crcN_add]
end Go.Proofs.YtnemieeeappgnaaGreatDoor
namespace Go.Proofs.YtnemieeeappgnaaGreatDoor
open Go.ChangeShapes Go.WideShapes Go.ChangeAt Go.RowKit
set_option linter.unusedVariables false

def toI (r : B32) : Int := (r.toNat : Int)
theorem toI_bd (r : B32) : 0 ≤ toI r ∧ toI r < 4294967296 := by
  have := r.isLt
  unfold toI; omega
theorem ofInt_toI (r : B32) : BitVec.ofInt 32 (toI r) = r := by
  unfold toI
  rw [BitVec.ofInt_natCast, BitVec.ofNat_toNat, BitVec.setWidth_eq]
theorem toI_ofInt {x : Int} (hx : 0 ≤ x) (hx' : x < 4294967296) : toI (BitVec.ofInt 32 x) = x := by
  unfold toI
  rw [BitVec.toNat_ofInt]
  omega
theorem xor_toI (x y : Int) : bits .xor .u32 x y = toI (BitVec.ofInt 32 x ^^^ BitVec.ofInt 32 y) := by
  show ((BitVec.ofInt 32 x ^^^ BitVec.ofInt 32 y).toNat : Int) % 4294967296 = _
  have := (BitVec.ofInt 32 x ^^^ BitVec.ofInt 32 y).isLt
  unfold toI; omega
theorem and_toI (x y : Int) : bits .and .u32 x y = toI (BitVec.ofInt 32 x &&& BitVec.ofInt 32 y) := by
  show ((BitVec.ofInt 32 x &&& BitVec.ofInt 32 y).toNat : Int) % 4294967296 = _
  have := (BitVec.ofInt 32 x &&& BitVec.ofInt 32 y).isLt
  unfold toI; omega
theorem shr_toI (r : B32) (k : Nat) : toI r / 2 ^ k = toI (r >>> k) := by
  unfold toI
  rw [BitVec.toNat_ushiftRight, Nat.shiftRight_eq_div_pow]
  simp
theorem low_toI (r : B32) : bits .and .u32 (toI r) 1 = if r.getLsbD 0 then 1 else 0 := by
  rw [and_toI, ofInt_toI]
  have h : r &&& BitVec.ofInt 32 1 = if r.getLsbD 0 then 1#32 else 0#32 := by
    apply BitVec.eq_of_getLsbD_eq
    intro i hi
    rw [BitVec.getLsbD_and]
    have e : (BitVec.ofInt 32 1) = 1#32 := by decide
    rw [e, BitVec.getLsbD_one]
    cases h : r.getLsbD 0 <;> by_cases hi0 : i = 0 <;> simp_all
  rw [h]
  cases r.getLsbD 0 <;> decide

/-- The remainder behind k bytes. -/
def crcTo (zs : List Int) : Nat → B32
  | 0 => 4294967295#32
  | k + 1 => nibS (nibS (crcTo zs k ^^^ BitVec.ofInt 32 (zs.getD k 0)))
/-- The table lies there. -/
def TabAt (w : World) : Prop := ∀ j, j < 16 → w.cell? ⟨1, j, none⟩ = some (.int .u32 (sumTab.getD j 0))
theorem tab_bd : ∀ j, j < 16 → 0 ≤ sumTab.getD j 0 ∧ sumTab.getD j 0 < 4294967296 := by decide
theorem and15_bd (x : Int) : 0 ≤ bits .and .u32 x 15 ∧ bits .and .u32 x 15 < 16 := by
  rw [and_toI]
  have e : BitVec.ofInt 32 15 = 15#32 := by decide
  rw [e]
  have := low_lt (BitVec.ofInt 32 x)
  unfold toI; omega
theorem nib_toI (R : B32) : bits .xor .u32 (toI R / 16) (sumTab.getD (bits .and .u32 (toI R) 15).toNat 0) = toI (nibS R) := by
  have e : BitVec.ofInt 32 15 = 15#32 := by decide
  rw [show (16 : Int) = 2 ^ 4 by decide, xor_toI, shr_toI, ofInt_toI, and_toI, ofInt_toI, e]
  rfl

set_option maxHeartbeats 2000000 in
theorem Crc_any (s : Value) (L : Nat) (zs : List Int) (w : World) (hL : L ≤ 1048576) (h : Reads w s L (zs.map (Value.int .u8))) (hz : ∀ j, 0 ≤ zs.getD j 0 ∧ zs.getD j 0 ≤ 255) (ht : TabAt w) :
    Calls Tryz.prog 77 #[s] w fun e w' => e = .returned (.int .u32 (toI (~~~(crcTo zs L)))) ∧ w' = w := by
  have hlen : zs.length = L := by simpa using h.1
  have H1 : Hid (Reads w s L (zs.map (Value.int .u8))) := h
  have hs : ∃ a c, s = .slice a L c := by rcases h.2 with ⟨rfl, a, c, rfl⟩ | ⟨g, o, c, rfl, _⟩ <;> exact ⟨_, _, rfl⟩
  have HT : Hid (TabAt w) := ht
  have HZ : Hid (∀ j, 0 ≤ zs.getD j 0 ∧ zs.getD j 0 ≤ 255) := hz
  clear h ht hz
  obtain ⟨a1, c1, rfl⟩ := hs
  go_enter Tryz.func77, Tryz.ntmps77
  go_wp2
  go_loop [3, 8] (fun r i => ∃ k : Nat, k ≤ L ∧ r = .int .u32 (toI (crcTo zs k)) ∧ i = .int .i64 k) (fun _ i => L - (intOf i).toNat)
  case atStart => exact ⟨0, by omega, rfl, rfl⟩
  case round =>
    obtain ⟨k, hk, rfl, rfl⟩ := hrel
    by_cases hlt : k < L
    · have hzk : (zs.map (Value.int .u8))[k]? = some (.int .u8 (zs.getD k 0)) := by
        rw [List.getElem?_map, List.getElem?_eq_getElem (by omega), List.getD_eq_getElem?_getD, List.getElem?_eq_getElem (by omega)]
        rfl
      rcases H1.out.2 with ⟨e0, _⟩ | ⟨g, o, c, e1, hc1⟩
      · omega
      · simp only [Value.slice.injEq, true_and] at e1
        obtain ⟨rfl, rfl⟩ := e1
        have hin := hc1 k _ hzk
        have hx := HZ.out k
        have hnext : crcTo zs (k + 1) = nibS (nibS (crcTo zs k ^^^ BitVec.ofInt 32 (zs.getD k 0))) := rfl
        generalize zs.getD k 0 = x at hin hx hnext
        generalize crcTo zs k = R at hnext
        have HN : Hid (crcTo zs (k + 1) = nibS (nibS (R ^^^ BitVec.ofInt 32 x))) := hnext
        have hx1 := hx.1
        have hx2 := hx.2
        clear hc1 hzk hx hnext hlen
        have hr1 : bits .xor .u32 (toI R) x = toI (R ^^^ BitVec.ofInt 32 x) := by rw [xor_toI, ofInt_toI]
        generalize hR1 : R ^^^ BitVec.ofInt 32 x = R1 at hr1
        rw [hR1] at HN
        have b1 := and15_bd (toI R1)
        have hc1 := HT.out (bits .and .u32 (toI R1) 15).toNat (by omega)
        have hn1 := nib_toI R1
        generalize sumTab.getD (bits .and .u32 (toI R1) 15).toNat 0 = t1 at hc1 hn1
        generalize nibS R1 = R2 at hn1 HN
        have b2 := and15_bd (toI R2)
        have hc2 := HT.out (bits .and .u32 (toI R2) 15).toNat (by omega)
        have hn2 := nib_toI R2
        generalize sumTab.getD (bits .and .u32 (toI R2) 15).toNat 0 = t2 at hc2 hn2
        generalize nibS R2 = R3 at hn2 HN
        have b11 := b1.1
        have b12 := b1.2
        have b21 := b2.1
        have b22 := b2.2
        clear hR1 b1 b2
        go_wp2
        go_round
        case rel => exact ⟨k + 1, by omega, by rw [HN.out], by go_num⟩
        case measure => simp [intOf]; omega
    · have hkn : k = L := by omega
      subst hkn
      have hno : bits .xor .u32 IntKind.u32.max (toI (crcTo zs k)) = toI (~~~(crcTo zs k)) := by
        have e : BitVec.ofInt 32 IntKind.u32.max = BitVec.allOnes 32 := by decide
        rw [xor_toI, ofInt_toI, e, BitVec.allOnes_xor]
      go_wp2
      go_ret
      exact ⟨rfl, rfl⟩

/-- The bit of a byte. -/
theorem bit_toI (x : Int) (k : Nat) (h0 : 0 ≤ x) (h1 : x ≤ 255) : bits .and .u32 (x / 2 ^ k) 1 = if (BitVec.ofInt 32 x).getLsbD k then 1 else 0 := by
  have e : x / 2 ^ k = toI (BitVec.ofInt 32 x >>> k) := by
    rw [← shr_toI, toI_ofInt h0 (by omega)]
  rw [e, low_toI]
  simp
theorem bitS_toI (B : B32) (b : Bool) : toI (bitS B b) = if (b != B.getLsbD 0) then bits .xor .u32 (toI B / 2) 3988292384 else toI B / 2 := by
  have e : toI B / (2 : Int) = toI (B >>> 1) := by rw [← shr_toI B 1, Int.pow_succ, Int.pow_zero, Int.one_mul]
  unfold bitS
  by_cases h : (b != B.getLsbD 0) = true
  · rw [if_pos h, if_pos h, e, xor_toI, ofInt_toI]
    rfl
  · rw [if_neg h, if_neg h, e, BitVec.xor_zero]
set_option maxHeartbeats 2000000 in
theorem SCrc_any (s : Value) (L : Nat) (zs : List Int) (w : World) (hL : L ≤ 1048576) (h : Reads w s L (zs.map (Value.int .u8))) (hz : ∀ j, 0 ≤ zs.getD j 0 ∧ zs.getD j 0 ≤ 255) :
    Calls Tryz.prog 13 #[s] w fun e w' => e = .returned (.int .u32 (toI (~~~(crcTo zs L)))) ∧ w' = w := by
  have hlen : zs.length = L := by simpa using h.1
  have H1 : Hid (Reads w s L (zs.map (Value.int .u8))) := h
  have hs : ∃ a c, s = .slice a L c := by rcases h.2 with ⟨rfl, a, c, rfl⟩ | ⟨g, o, c, rfl, _⟩ <;> exact ⟨_, _, rfl⟩
  have HZ : Hid (∀ j, 0 ≤ zs.getD j 0 ∧ zs.getD j 0 ≤ 255) := hz
  clear h hz
  obtain ⟨a1, c1, rfl⟩ := hs
  go_enter Tryz.func13, Tryz.ntmps13
  go_wp2
  go_loop [3, 4] (fun r i => ∃ k : Nat, k ≤ L ∧ r = .int .u32 (toI (crcTo zs k)) ∧ i = .int .i64 k) (fun _ i => L - (intOf i).toNat)
  case atStart => exact ⟨0, by omega, rfl, rfl⟩
  case round =>
    obtain ⟨k, hk, rfl, rfl⟩ := hrel
    by_cases hlt : k < L
    · have hzk : (zs.map (Value.int .u8))[k]? = some (.int .u8 (zs.getD k 0)) := by
        rw [List.getElem?_map, List.getElem?_eq_getElem (by omega), List.getD_eq_getElem?_getD, List.getElem?_eq_getElem (by omega)]
        rfl
      rcases H1.out.2 with ⟨e0, _⟩ | ⟨g, o, c, e1, hc1⟩
      · omega
      · simp only [Value.slice.injEq, true_and] at e1
        obtain ⟨rfl, rfl⟩ := e1
        have hin := hc1 k _ hzk
        have hx := HZ.out k
        have hnext : crcTo zs (k + 1) = nibS (nibS (crcTo zs k ^^^ BitVec.ofInt 32 (zs.getD k 0))) := rfl
        generalize zs.getD k 0 = x at hin hx hnext
        generalize crcTo zs k = R at hnext
        have hx1 := hx.1
        have hx2 := hx.2
        rw [← bits8 R (BitVec.ofInt 32 x) (by have := toI_ofInt hx1 (by omega); unfold toI at this; omega)] at hnext
        have HN : Hid (crcTo zs (k + 1) = bitsS R (BitVec.ofInt 32 x) 8) := hnext
        clear hc1 hzk hx hnext hlen
        go_wp2
        go_loop [3, 5] (fun r j => ∃ m : Nat, m ≤ 8 ∧ r = .int .u32 (toI (bitsS R (BitVec.ofInt 32 x) m)) ∧ j = .int .u64 m) (fun _ j => 8 - (intOf j).toNat)
        case atStart => exact ⟨0, by omega, rfl, rfl⟩
        case round =>
          obtain ⟨m, hm, rfl, rfl⟩ := hrel
          by_cases hm8 : m < 8
          · have hbit := bit_toI x m hx1 hx2
            have hlow := low_toI (bitsS R (BitVec.ofInt 32 x) m)
            have hstep : bitsS R (BitVec.ofInt 32 x) (m + 1) = bitS (bitsS R (BitVec.ofInt 32 x) m) ((BitVec.ofInt 32 x).getLsbD m) := rfl
            have hq0 : 0 ≤ x / 2 ^ m := Int.ediv_nonneg hx1 (Int.le_of_lt (Int.pow_pos (by decide)))
            have hq1 : x / 2 ^ m ≤ 255 := Int.le_trans (Int.ediv_le_self _ hx1) hx2
            generalize (BitVec.ofInt 32 x).getLsbD m = b at hbit hstep
            generalize hbm : bitsS R (BitVec.ofInt 32 x) m = B at hlow hstep
            have hnew := bitS_toI B b
            rw [← hstep] at hnew
            clear hstep hbm
            have hl0 : (if B.getLsbD 0 then (1 : Int) else 0) = 0 ∨ (if B.getLsbD 0 then (1 : Int) else 0) = 1 := by cases B.getLsbD 0 <;> simp
            generalize B.getLsbD 0 = c at hlow hnew
            clear hl0
            have HW : Hid (toI (bitsS R (BitVec.ofInt 32 x) (m + 1)) = if (b != c) then bits .xor .u32 (toI B / 2) 3988292384 else toI B / 2) := hnew
            clear hnew
            cases b <;> cases c
            all_goals
              simp only [if_true, if_false, Bool.false_eq_true] at hbit hlow
              go_wp2
              go_round
              case rel => exact ⟨m + 1, by omega, by rw [HW.out]; rfl, by go_num⟩
              case measure => simp [intOf]; omega
          · have hm8' : m = 8 := by omega
            subst hm8'
            rw [← HN.out]
            go_wp2
            go_round
            case rel => exact ⟨k + 1, by omega, rfl, by go_num⟩
            case measure => simp [intOf]; omega
    · have hkn : k = L := by omega
      subst hkn
      have hno : bits .xor .u32 IntKind.u32.max (toI (crcTo zs k)) = toI (~~~(crcTo zs k)) := by
        have e : BitVec.ofInt 32 IntKind.u32.max = BitVec.allOnes 32 := by decide
        rw [xor_toI, ofInt_toI, e, BitVec.allOnes_xor]
      go_wp2
      go_ret
      exact ⟨rfl, rfl⟩
end Go.Proofs.YtnemieeeappgnaaGreatDoor
