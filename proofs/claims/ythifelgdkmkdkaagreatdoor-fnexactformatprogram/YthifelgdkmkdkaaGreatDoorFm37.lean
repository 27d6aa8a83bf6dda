import Derived.Test.YthifelgdkmkdkaaGreatDoorFm9
namespace Go.Proofs.YthifelgdkmkdkaaGreatDoor
open Go.ChangeShapes Go.WideShapes Go.ChangeAt Go.RowKit
set_option linter.unusedVariables false
theorem wp_world {P : Program} {c : Code} {Q : Exit → Act → World → Prop} {a : Act} {U : World} (R : World → Prop) (h : R U) (k : ∀ u, R u → Code.wp P c Q a u) : Code.wp P c Q a U := k U h
end Go.Proofs.YthifelgdkmkdkaaGreatDoor
