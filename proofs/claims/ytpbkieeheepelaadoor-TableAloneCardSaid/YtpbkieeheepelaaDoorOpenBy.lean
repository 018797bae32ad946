/- An argument that is a slice of bytes. -/
import Derived.Test.YtpbkieeheepelaaDoorRows
import Derived.Test.YtpbkieeheepelaaDoorKit
import Derived.Deep.Slices
import Derived.ChangeSame
import Derived.OpenShut
namespace Go.Proofs.YtpbkieeheepelaaDoor
open Go.ChangeShapes Go.WideShapes Go.RowKit Go.Deep

/-- bytes as cells -/
def bs (l : List Nat) : List Value := l.map (fun (c : Nat) => Value.int .u8 (c : Int))
end Go.Proofs.YtpbkieeheepelaaDoor
