import Derived.Test.YtdfmdgbolmbffaaGreatTy26
import Derived.Test.YtdfmdgbolmbffaaGreatTy32
import Derived.Test.YtdfmdgbolmbffaaGreatTy10
import Derived.Test.YtdfmdgbolmbffaaGreatTy19
import Derived.Test.YtdfmdgbolmbffaaGreatTy20
import Derived.Deep.RegionLaw
namespace Go.Proofs.YtdfmdgbolmbffaaGreat
open Go.ChangeShapes Go.WideShapes Go.ChangeAt Go.RowKit
set_option linter.unusedVariables false
def FlowFree(xs:List MI):Prop:=∃r,FlowOk xs r/\r.code=0
theorem resultL_small(f:MF):(resultL f).length<=1048576:=by unfold resultL;split<;>simp
end Go.Proofs.YtdfmdgbolmbffaaGreat
