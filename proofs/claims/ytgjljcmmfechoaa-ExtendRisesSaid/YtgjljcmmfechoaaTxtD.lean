/- The walks of package text's names and isTooMany. -/
import Derived.Test.YtgjljcmmfechoaaKitB
import Derived.Test.YtgjljcmmfechoaaRows
import Derived.Test.YtgjljcmmfechoaaShelf
import Derived.Test.YtgjljcmmfechoaaKit
import Derived.Deep.QuietTactic
import Derived.BigQuiet
import Derived.Laws.Rows
import Derived.Below
import Derived.Lib.Strings
namespace Go.Proofs.Ytgjljcmmfechoaa.WPlain
end Go.Proofs.Ytgjljcmmfechoaa.WPlain
namespace Go.Proofs.Ytgjljcmmfechoaa
open Go.RowKit WPlain

def ints (xs : List Int) : List Value := xs.map (Value.int .i64)
theorem ints_len (xs : List Int) : (ints xs).length = xs.length := List.length_map _

end Go.Proofs.Ytgjljcmmfechoaa
