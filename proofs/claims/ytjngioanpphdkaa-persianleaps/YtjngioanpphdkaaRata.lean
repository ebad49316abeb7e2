/- What the functions of package rata return: Right, Day, Date, InYear, Add. -/
import Derived.Test.YtjngioanpphdkaaLeaf
import Derived.WalkSmall
namespace Go.Proofs.Ytjngioanpphdkaa
open Go.RowKit

end Go.Proofs.Ytjngioanpphdkaa
