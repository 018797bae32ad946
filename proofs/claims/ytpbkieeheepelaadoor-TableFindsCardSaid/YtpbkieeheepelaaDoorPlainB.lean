/- Plain numbers' texts: no program in sight. -/
import Derived.Below
import Derived.Lib.Strings
namespace Go.Proofs.YtpbkieeheepelaaDoor.WPlain

def inR (n : Int) : Bool := decide (-2147483648 ≤ n) && decide (n ≤ 2147483647)
end Go.Proofs.YtpbkieeheepelaaDoor.WPlain
