/- Plain words: what SerialRight asks of what is found. -/
import Derived.Test.YtpjfhdljagkefaaDoorMg17
import Derived.Test.YtpjfhdljagkefaaDoorMg14
namespace Go.Proofs.YtpjfhdljagkefaaDoor.WPlain
end Go.Proofs.YtpjfhdljagkefaaDoor.WPlain
namespace Go.Proofs.YtpjfhdljagkefaaDoor.QPlain
end Go.Proofs.YtpjfhdljagkefaaDoor.QPlain
namespace Go.Proofs.YtpjfhdljagkefaaDoor.RPlain
open WPlain QPlain

theorem row_there {l : List Tx} {R : List Nat} (h : ∀ k ∈ R, k < l.length) : thereS l (R.map fun x : Nat => (x : Int)) = true := (thereS_iff _ _).2 fun x hx => by
  obtain ⟨k, hk, rfl⟩ := List.mem_map.1 hx
  have := h k hk
  omega
end Go.Proofs.YtpjfhdljagkefaaDoor.RPlain
