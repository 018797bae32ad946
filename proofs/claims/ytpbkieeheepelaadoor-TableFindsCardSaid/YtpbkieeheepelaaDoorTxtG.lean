/- The walk of package text's Parse. -/
import Derived.Test.YtpbkieeheepelaaDoorTxtA
import Derived.Test.YtpbkieeheepelaaDoorTxtB
import Derived.Test.YtpbkieeheepelaaDoorKitC
import Derived.Test.YtpbkieeheepelaaDoorTxtD
import Derived.Test.YtpbkieeheepelaaDoorWalkA
import Derived.Lib.SplitLaws
import Derived.Deep.QuietTactic
import Derived.BigQuiet
import Derived.Below
namespace Go.Proofs.YtpbkieeheepelaaDoor.WPlain
end Go.Proofs.YtpbkieeheepelaaDoor.WPlain
namespace Go.Proofs.YtpbkieeheepelaaDoor
open Go.RowKit WPlain

theorem info41 : (Tryd.prog.info? 41).map (fun i => (i.zero, i.size, i.bytes)) = some (some (.agg #[.int .i64 0, .int .i64 0, .int .i64 0, .int .i64 0]), 4, 32) := by kernel_rfl

/-- nil, or a slice with an address -/
def Src (v : Value) : Prop := v = .slice none 0 0 ∨ ∃ a n c, v = .slice (some a) n c
theorem Src.of_row {w : World} {B : Nat} {e : TypeId} {s : Nat} {v : Value} {n : Nat} {xs : List Value} (h : w.ownsRow B e s v n xs) : Src v := by
  rcases h.2 with ⟨rfl, _⟩ | ⟨g, cap, cur, rfl, _⟩
  · exact .inl rfl
  · exact .inr ⟨_, _, _, rfl⟩

end Go.Proofs.YtpbkieeheepelaaDoor
