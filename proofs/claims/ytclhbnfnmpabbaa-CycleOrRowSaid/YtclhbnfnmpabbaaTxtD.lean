/- The walks of package text's names and isTooMany. -/
import Derived.Test.YtclhbnfnmpabbaaKitB
import Derived.Test.YtclhbnfnmpabbaaRows
import Derived.Test.YtclhbnfnmpabbaaShelf
import Derived.Test.YtclhbnfnmpabbaaKit
import Derived.Deep.QuietTactic
import Derived.BigQuiet
import Derived.Laws.Rows
import Derived.Below
import Derived.Lib.Strings
namespace Go.Proofs.Ytclhbnfnmpabbaa.WPlain
end Go.Proofs.Ytclhbnfnmpabbaa.WPlain
namespace Go.Proofs.Ytclhbnfnmpabbaa
open Go.RowKit WPlain

def ints (xs : List Int) : List Value := xs.map (Value.int .i64)
theorem ints_len (xs : List Int) : (ints xs).length = xs.length := List.length_map _

end Go.Proofs.Ytclhbnfnmpabbaa
