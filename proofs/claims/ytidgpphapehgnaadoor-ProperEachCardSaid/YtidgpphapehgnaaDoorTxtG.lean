/- The walk of package text's Parse. -/
import Derived.Test.YtidgpphapehgnaaDoorTxtA
import Derived.Test.YtidgpphapehgnaaDoorTxtB
import Derived.Test.YtidgpphapehgnaaDoorKitC
import Derived.Test.YtidgpphapehgnaaDoorTxtD
import Derived.Test.YtidgpphapehgnaaDoorWalkA
import Derived.Lib.SplitLaws
import Derived.Deep.QuietTactic
import Derived.BigQuiet
import Derived.Below
namespace Go.Proofs.YtidgpphapehgnaaDoor.WPlain
end Go.Proofs.YtidgpphapehgnaaDoor.WPlain
namespace Go.Proofs.YtidgpphapehgnaaDoor
open Go.RowKit WPlain

theorem info37 : (Tryd.prog.info? 37).map (fun i => (i.zero, i.size, i.bytes)) = some (some (.agg #[.int .i64 0, .int .i64 0, .int .i64 0, .int .i64 0]), 4, 32) := by kernel_rfl

/-- nil, or a slice with an address -/
def Src (v : Value) : Prop := v = .slice none 0 0 ∨ ∃ a n c, v = .slice (some a) n c
theorem Src.of_row {w : World} {B : Nat} {e : TypeId} {s : Nat} {v : Value} {n : Nat} {xs : List Value} (h : w.ownsRow B e s v n xs) : Src v := by
  rcases h.2 with ⟨rfl, _⟩ | ⟨g, cap, cur, rfl, _⟩
  · exact .inl rfl
  · exact .inr ⟨_, _, _, rfl⟩

end Go.Proofs.YtidgpphapehgnaaDoor
