/- Plain words of numbers' bytes: no program in sight. -/
namespace Go.Proofs.YtpbkieeheepelaaDoor.VPlain

/-- a number's bytes, lowest first -/
def nb (n : Nat) : List Nat := if n < 128 then [n] else (n % 128 + 128) :: nb (n / 128)
termination_by n
decreasing_by omega

end Go.Proofs.YtpbkieeheepelaaDoor.VPlain
