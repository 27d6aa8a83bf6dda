import Derived.Test.YtlejplpkomddeaaGreatR0
import Derived.Test.YtlejplpkomddeaaGreatR15
import Derived.Test.YtlejplpkomddeaaGreatR24
import Derived.Test.YtlejplpkomddeaaGreatR8
import Derived.Test.YtlejplpkomddeaaGreatR19
import Derived.Test.YtlejplpkomddeaaGreatR18
import Derived.Test.YtlejplpkomddeaaGreatR12
import Derived.Test.YtlejplpkomddeaaGreatR4
import Derived.Test.YtlejplpkomddeaaGreatR16
import Derived.Deep.DeepCutAuto
import Derived.Deep.RegionHeldLaw
import Derived.Deep.RegionLaw
namespace Go.Proofs.YtlejplpkomddeaaGreat
open Go.ChangeShapes Go.WideShapes Go.ChangeAt Go.RowKit
set_option linter.unusedVariables false
set_option maxHeartbeats 8000000
set_option maxRecDepth 100000

end Go.Proofs.YtlejplpkomddeaaGreat
