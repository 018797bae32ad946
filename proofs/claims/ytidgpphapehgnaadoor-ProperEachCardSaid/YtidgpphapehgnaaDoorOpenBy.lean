/- An argument that is a slice of bytes. -/
import Derived.Test.YtidgpphapehgnaaDoorRows
import Derived.Test.YtidgpphapehgnaaDoorKit
import Derived.Deep.Slices
import Derived.ChangeSame
import Derived.OpenShut
namespace Go.Proofs.YtidgpphapehgnaaDoor
open Go.ChangeShapes Go.WideShapes Go.RowKit Go.Deep

/-- bytes as cells -/
def bs (l : List Nat) : List Value := l.map (fun (c : Nat) => Value.int .u8 (c : Int))
end Go.Proofs.YtidgpphapehgnaaDoor
