import Derived.Test.YtjpobijiblcgaaaGreatFw6
namespace Go.Proofs.YtjpobijiblcgaaaGreat
open Go.ChangeShapes Go.WideShapes Go.ChangeAt Go.RowKit
set_option linter.unusedVariables false

end Go.Proofs.YtjpobijiblcgaaaGreat
