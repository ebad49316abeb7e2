/- What the reference's Date returns for a calendar whose years follow each other by one. -/
import Derived.Test.YtafpdiikhhikeaaDoorRefGen
namespace Go.Proofs.YtafpdiikhhikeaaDoor
open Go.RowKit

end Go.Proofs.YtafpdiikhhikeaaDoor
