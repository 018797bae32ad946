/- What is ahead of the number sign. -/
import Derived.Below
namespace Go.Proofs.YtnbecfgoambbpaaDoor.WPlain
/-- what is ahead of the first 35 -/
def lineOf (l : List UInt8) : List UInt8 := l.takeWhile (fun c => !(c == 35))
theorem lineOf_le (l : List UInt8) : (lineOf l).length ≤ l.length := (List.takeWhile_prefix _).length_le
end Go.Proofs.YtnbecfgoambbpaaDoor.WPlain
