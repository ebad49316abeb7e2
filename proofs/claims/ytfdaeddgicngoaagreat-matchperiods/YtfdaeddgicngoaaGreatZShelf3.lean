/- Nothing of the library of this shelf is in this seat. -/
import Derived.Shelf.Strings.Search3
import Derived.Test.YtfdaeddgicngoaaGreatProg

