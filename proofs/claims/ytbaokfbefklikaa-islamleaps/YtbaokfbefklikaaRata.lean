/- What the functions of package rata return: Right, Day, Date, InYear, Add. -/
import Derived.Test.YtbaokfbefklikaaLeaf
import Derived.WalkSmall
namespace Go.Proofs.Ytbaokfbefklikaa
open Go.RowKit

end Go.Proofs.Ytbaokfbefklikaa
