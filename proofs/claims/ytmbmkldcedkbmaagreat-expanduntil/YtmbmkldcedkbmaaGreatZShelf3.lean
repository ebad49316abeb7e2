/- The library's contracts that this seat's walks lean on, at its own numbers (laid by the kit's tool, no walk). -/
import Derived.Shelf.Strings.Search3
import Derived.Test.YtmbmkldcedkbmaaGreatProg
namespace Go.Proofs
open Go.Shelf

end Go.Proofs
