/-
  DERIVED. GIVEN WITH THE SEED: THE CARDS: each row of YtjcamlobelcepaaGreatDoorRows.lean that lists a variable, with what it lists TIED to the program's text (the seventh form; the later family's looks); each row that meets fmt, with fmt's text TOLD by the authors' own Lean function (tested against real Go, not proved from fmt's source: count such statements apart). THE CARD IS WHAT COUNTS. Prove the row's statement (the work); the ties are given (YtjcamlobelcepaaGreatDoorTie.lean); close each card by the builder's one call (the guide's Derived/Test/ToyasCard.lean, 'card_holds'). Laid BY PROGRAM, IN A SANDBOX (cutbox-door.mjs). By AI agents, Wed Nov 11 2026. No macro, syntax, notation, axiom, sorry.
-/
import Derived.Test.YtjcamlobelcepaaGreatDoorRows
import GoSem.ClaimSeven
namespace Go.Proofs.YtjcamlobelcepaaGreatDoor
namespace Rows

/-- THE TIED CARD OF 'laws.FnContainer'. -/
def fnContainerCard : Claim7 := { stood := { row := fnContainerRow, standIns := [], harness := (true, "b22156c99c46de0bd31e4317d69f8b165be5e295cd245124d425f9e9b62b1f4a"), looks := true }, kinds := [], alts := [], laidByText := true, laidKinds := [.handle, .data], laidTests := true, laidLooks := .later }
def FnContainerCardSaid : Prop := Claim7.holds Tryz.pinned (.plain (OpenSpec.ofChange fnContainerSpec)) fnContainerCard

/-- THE SECOND FORM's CARD OF 'laws.FnContainer'. -/
def fnContainerUptoCard : Claim7 := { stood := { row := fnContainerUptoRow, standIns := [], harness := (true, "b22156c99c46de0bd31e4317d69f8b165be5e295cd245124d425f9e9b62b1f4a"), looks := true }, kinds := [], alts := [], laidByText := true, laidKinds := [.handle, .data], laidTests := true, laidLooks := .later }
def FnContainerUptoCardSaid : Prop := Claim7.holds Tryz.pinned (.plain (OpenSpec.upto fnContainerSpec)) fnContainerUptoCard
end Rows
end Go.Proofs.YtjcamlobelcepaaGreatDoor
