/-
  No cell of these rows narrows 'for every input' (looked for: loops, veiled, ifaces, maps, wideKeys, modest, calm, conditions, laid).
  DERIVED. THE GIVEN ROWS OF THIS SEAT. 5 by the template 'for every input the law returns true; each argument reads behind the call as it read before'; 0 by the template 'total and deterministic' (their statements: YtkblcoiiloiohafTotals.lean).
  GIVEN WITH THE SEED: the statements are not yours to turn. If you find one false, say at which input.
  Laid BY PROGRAM, IN A SANDBOX (cutbox-rows.mjs): the forced cells as the released guide's own fill.sh prints them over the translation 42175ff3a473abb1… (all of the seat's roots in one cut). By AI agents, Wed Nov 11 2026. No macro, syntax, notation, axiom, sorry.
-/
import Derived.Test.YtkblcoiiloiohafChecked
import GoSem.Claim
import GoSem.ClaimJoined
import GoSem.ClaimMapViews
import Derived.JoinedTies
import Derived.KernelRfl
namespace Go.Proofs.Ytkblcoiiloiohaf
/- THE CELL 'sum', in the pinned program and in every row, IS THE sha256 OF THE DUMP (.gsa) THAT YtkblcoiiloiohafProg.lean LOADS. Nothing in Lean hashes anything: it is a label: what it is worth is what the hold of that sum in a sandbox is worth. -/
noncomputable def Try.pinned : Pinned := { name := "ytkblcoiiloiohaf", sum := "42175ff3a473abb135907ff11655bd8691018657dc421e86a02dda851d35eb1a", checked := Try.checked }
namespace Rows
def none {H : Type} : Left H := { results := [], args := [] }

/-- 'laws.FnExactInfo': WHATEVER THE INPUT: true; the input reads as it did. -/
def fnExactInfoSpec : ChangeSpec := { name := "fnExactInfo", fn := fun _ => fun
  | [d] => { results := [.lit (.bool true)], args := [d] }
  | _ => none }
def fnExactInfoRow : OpenClaim := { program := "ytkblcoiiloiohaf", sum := "42175ff3a473abb135907ff11655bd8691018657dc421e86a02dda851d35eb1a", func := "loop.example/s02548/laws.FnExactInfo", spec := "fnExactInfo", apart := false }
def FnExactInfoSaid : Prop := fnExactInfoRow.holds Try.pinned (OpenSpec.ofChange fnExactInfoSpec)

/-- ITS FALSE NEIGHBOUR: 'it returns false'. Refute it at one input. -/
def fnExactInfoWrong : ChangeSpec := { name := "fnExactInfo", fn := fun _ => fun
  | [d] => { results := [.lit (.bool false)], args := [d] }
  | _ => none }
def FnExactInfoWrongFalsely : Prop := fnExactInfoRow.holds Try.pinned (OpenSpec.ofChange fnExactInfoWrong)

/-- 'laws.FnExactOpOf': WHATEVER THE INPUT: true; the input reads as it did. -/
def fnExactOpOfSpec : ChangeSpec := { name := "fnExactOpOf", fn := fun _ => fun
  | [d] => { results := [.lit (.bool true)], args := [d] }
  | _ => none }
def fnExactOpOfRow : OpenClaim := { program := "ytkblcoiiloiohaf", sum := "42175ff3a473abb135907ff11655bd8691018657dc421e86a02dda851d35eb1a", func := "loop.example/s02548/laws.FnExactOpOf", spec := "fnExactOpOf", apart := false }
def FnExactOpOfSaid : Prop := fnExactOpOfRow.holds Try.pinned (OpenSpec.ofChange fnExactOpOfSpec)

/-- ITS FALSE NEIGHBOUR: 'it returns false'. Refute it at one input. -/
def fnExactOpOfWrong : ChangeSpec := { name := "fnExactOpOf", fn := fun _ => fun
  | [d] => { results := [.lit (.bool false)], args := [d] }
  | _ => none }
def FnExactOpOfWrongFalsely : Prop := fnExactOpOfRow.holds Try.pinned (OpenSpec.ofChange fnExactOpOfWrong)

/-- 'laws.FnExactTypeName': WHATEVER THE INPUT: true; the input reads as it did. -/
def fnExactTypeNameSpec : ChangeSpec := { name := "fnExactTypeName", fn := fun _ => fun
  | [d] => { results := [.lit (.bool true)], args := [d] }
  | _ => none }
def fnExactTypeNameRow : OpenClaim := { program := "ytkblcoiiloiohaf", sum := "42175ff3a473abb135907ff11655bd8691018657dc421e86a02dda851d35eb1a", func := "loop.example/s02548/laws.FnExactTypeName", spec := "fnExactTypeName", apart := false }
def FnExactTypeNameSaid : Prop := fnExactTypeNameRow.holds Try.pinned (OpenSpec.ofChange fnExactTypeNameSpec)

/-- ITS FALSE NEIGHBOUR: 'it returns false'. Refute it at one input. -/
def fnExactTypeNameWrong : ChangeSpec := { name := "fnExactTypeName", fn := fun _ => fun
  | [d] => { results := [.lit (.bool false)], args := [d] }
  | _ => none }
def FnExactTypeNameWrongFalsely : Prop := fnExactTypeNameRow.holds Try.pinned (OpenSpec.ofChange fnExactTypeNameWrong)

/-- 'laws.FnExactCompute': WHATEVER THE INPUT: true; the input reads as it did. -/
def fnExactComputeSpec : ChangeSpec := { name := "fnExactCompute", fn := fun _ => fun
  | [d1, d2, d3, d4] => { results := [.lit (.bool true)], args := [d1, d2, d3, d4] }
  | _ => none }
def fnExactComputeRow : OpenClaim := { program := "ytkblcoiiloiohaf", sum := "42175ff3a473abb135907ff11655bd8691018657dc421e86a02dda851d35eb1a", func := "loop.example/s02548/laws.FnExactCompute", spec := "fnExactCompute", unfollowed := true, recurses := true, apart := false }
def FnExactComputeSaid : Prop := fnExactComputeRow.holds Try.pinned (OpenSpec.ofChange fnExactComputeSpec)

/-- ITS FALSE NEIGHBOUR: 'it returns false'. Refute it at one input. -/
def fnExactComputeWrong : ChangeSpec := { name := "fnExactCompute", fn := fun _ => fun
  | [d1, d2, d3, d4] => { results := [.lit (.bool false)], args := [d1, d2, d3, d4] }
  | _ => none }
def FnExactComputeWrongFalsely : Prop := fnExactComputeRow.holds Try.pinned (OpenSpec.ofChange fnExactComputeWrong)

/-- 'laws.FnExactConvert': WHATEVER THE INPUT: true; the input reads as it did. -/
def fnExactConvertSpec : ChangeSpec := { name := "fnExactConvert", fn := fun _ => fun
  | [d1, d2, d3] => { results := [.lit (.bool true)], args := [d1, d2, d3] }
  | _ => none }
def fnExactConvertRow : OpenClaim := { program := "ytkblcoiiloiohaf", sum := "42175ff3a473abb135907ff11655bd8691018657dc421e86a02dda851d35eb1a", func := "loop.example/s02548/laws.FnExactConvert", spec := "fnExactConvert", apart := false }
def FnExactConvertSaid : Prop := fnExactConvertRow.holds Try.pinned (OpenSpec.ofChange fnExactConvertSpec)

/-- ITS FALSE NEIGHBOUR: 'it returns false'. Refute it at one input. -/
def fnExactConvertWrong : ChangeSpec := { name := "fnExactConvert", fn := fun _ => fun
  | [d1, d2, d3] => { results := [.lit (.bool false)], args := [d1, d2, d3] }
  | _ => none }
def FnExactConvertWrongFalsely : Prop := fnExactConvertRow.holds Try.pinned (OpenSpec.ofChange fnExactConvertWrong)

/- THE SECOND FORM. 'bulk': how many values and letters a reading holds, each counted each time it is reached (what is shared counts as often as it is met; a slice's spare places count too). A statement '..UptoSaid' is the law's where the arguments, and the package variables that the reading takes, are together of bulk at most 1048576: NARROWER than '..Said'. Prove '..Said' where nothing that the law and all that it calls make is longer than what came in: it says more and counts as full. Else prove '..UptoSaid'. A law counts once. -/
mutual
def uptoBulk {H : Type} : DataW H → Nat
  | .lit (.string bytes) => bytes.length + 1
  | .lit _ => 1
  | .nil => 1
  | .ptr d => uptoBulk d + 1
  | .slice elems spare => uptoBulkAll elems + uptoBulkAll spare + 1
  | .agg parts => uptoBulkAll parts + 1
  | .iface _ d => uptoBulk d + 1
  | .map entries => uptoBulkEntries entries + 1
  | .held _ => 1
def uptoBulkAll {H : Type} : List (DataW H) → Nat
  | [] => 0
  | d :: r => uptoBulk d + uptoBulkAll r
def uptoBulkEntries {H : Type} : List (Lit × DataW H) → Nat
  | [] => 0
  | x :: r => uptoBulkEntry x + uptoBulkEntries r
def uptoBulkEntry {H : Type} : Lit × DataW H → Nat
  | (.string bytes, d) => bytes.length + uptoBulk d + 1
  | (_, d) => uptoBulk d + 1
 end
def uptoSmall : (H : Type) → List (DataW H) → Bool := fun _ ds => decide (uptoBulkAll ds ≤ 1048576)
def OpenSpec.upto (s : _root_.Go.ChangeSpec) : _root_.Go.OpenSpec := { _root_.Go.OpenSpec.ofChange s with cond := some uptoSmall }

/-- 'laws.FnExactInfo', WHERE WHAT IT READS IS OF BULK AT MOST 1048576: true; the input reads as it did. -/
def fnExactInfoUptoRow : OpenClaim := { program := "ytkblcoiiloiohaf", sum := "42175ff3a473abb135907ff11655bd8691018657dc421e86a02dda851d35eb1a", func := "loop.example/s02548/laws.FnExactInfo", spec := "fnExactInfo", apart := false, narrowed := true }
def FnExactInfoUptoSaid : Prop := fnExactInfoUptoRow.holds Try.pinned (OpenSpec.upto fnExactInfoSpec)

/-- 'laws.FnExactOpOf', WHERE WHAT IT READS IS OF BULK AT MOST 1048576: true; the input reads as it did. -/
def fnExactOpOfUptoRow : OpenClaim := { program := "ytkblcoiiloiohaf", sum := "42175ff3a473abb135907ff11655bd8691018657dc421e86a02dda851d35eb1a", func := "loop.example/s02548/laws.FnExactOpOf", spec := "fnExactOpOf", apart := false, narrowed := true }
def FnExactOpOfUptoSaid : Prop := fnExactOpOfUptoRow.holds Try.pinned (OpenSpec.upto fnExactOpOfSpec)

/-- 'laws.FnExactTypeName', WHERE WHAT IT READS IS OF BULK AT MOST 1048576: true; the input reads as it did. -/
def fnExactTypeNameUptoRow : OpenClaim := { program := "ytkblcoiiloiohaf", sum := "42175ff3a473abb135907ff11655bd8691018657dc421e86a02dda851d35eb1a", func := "loop.example/s02548/laws.FnExactTypeName", spec := "fnExactTypeName", apart := false, narrowed := true }
def FnExactTypeNameUptoSaid : Prop := fnExactTypeNameUptoRow.holds Try.pinned (OpenSpec.upto fnExactTypeNameSpec)

/-- 'laws.FnExactCompute', WHERE WHAT IT READS IS OF BULK AT MOST 1048576: true; the input reads as it did. -/
def fnExactComputeUptoRow : OpenClaim := { program := "ytkblcoiiloiohaf", sum := "42175ff3a473abb135907ff11655bd8691018657dc421e86a02dda851d35eb1a", func := "loop.example/s02548/laws.FnExactCompute", spec := "fnExactCompute", unfollowed := true, recurses := true, apart := false, narrowed := true }
def FnExactComputeUptoSaid : Prop := fnExactComputeUptoRow.holds Try.pinned (OpenSpec.upto fnExactComputeSpec)

/-- 'laws.FnExactConvert', WHERE WHAT IT READS IS OF BULK AT MOST 1048576: true; the input reads as it did. -/
def fnExactConvertUptoRow : OpenClaim := { program := "ytkblcoiiloiohaf", sum := "42175ff3a473abb135907ff11655bd8691018657dc421e86a02dda851d35eb1a", func := "loop.example/s02548/laws.FnExactConvert", spec := "fnExactConvert", apart := false, narrowed := true }
def FnExactConvertUptoSaid : Prop := fnExactConvertUptoRow.holds Try.pinned (OpenSpec.upto fnExactConvertSpec)

end Rows
end Go.Proofs.Ytkblcoiiloiohaf
