/- The walk of VarintPuts. -/
import Derived.Test.YtkclbgpkmkdhjaaVarP
import Derived.Test.YtkclbgpkmkdhjaaVarR
import Derived.Test.YtkclbgpkmkdhjaaVarS
import Derived.Test.YtkclbgpkmkdhjaaVarZ
import Derived.Test.YtkclbgpkmkdhjaaVarL
namespace Go.Proofs.Ytkclbgpkmkdhjaa
open Go.RowKit VPlain

set_option maxHeartbeats 1000000 in
theorem puts_any (x : Nat) (hx : x < 18446744073709551616) (m : Int) (m0 : -9223372036854775808 ≤ m) (m1 : m ≤ 9223372036854775807) (w : World) :
    Calls Try.prog 3 #[.int .u64 (x : Int), .int .i64 m] w fun e w' => e = .returned (.bool true) ∧ Below w.heap.size w w' := by
  have h10 := nb_len10 hx
  go_enter Try.func3, Try.ntmps3
  go_wp2_with fail
  refine (alive_any _).mono ?_
  rintro e w1 ⟨rfl, hb1⟩
  go_wp2_with fail
  refine (put_any x hx _).mono ?_
  rintro e w2 ⟨v2, rfl, ho2, hb2⟩
  have hR2 := Rd.of_row ho2
  have hB2 := hb1.trans (hb2.mono hb1.size)
  obtain ⟨a2, c2, rfl⟩ := row_slice ho2
  clear hb1 hb2 ho2
  go_wp2_with fail
  refine (refPut_any x hx _).mono ?_
  rintro e w3 ⟨v3, rfl, ho3, hb3⟩
  have hR3 := Rd.of_row ho3
  have hR2' := hR2.below hb3 (Nat.le_refl _)
  have hB3 := hB2.trans (hb3.mono hB2.size)
  obtain ⟨a3, c3, rfl⟩ := row_slice ho3
  clear hB2 hb3 ho3 hR2
  go_wp2_with fail
  refine (same_any _ _ (nb x) (nb x) _ hR2' hR3 (by omega) (by omega)).mono ?_
  rintro e w4 ⟨rfl, nd, rfl⟩
  have hB4 := below_drewN hB3 nd
  rw [decide_eq_true rfl]
  clear hR2' hR3 hB3
  generalize w3.drewN nd = w4 at *
  go_wp2_with fail
  refine (zig_any m m0 m1 _).mono ?_
  rintro e w5 ⟨rfl, rfl⟩
  go_wp2_with fail
  refine (refZig_any m m0 m1 _).mono ?_
  rintro e w5 ⟨rfl, rfl⟩
  go_wp2_with fail
  refine (zag_any x hx _).mono ?_
  rintro e w5 ⟨rfl, rfl⟩
  go_wp2_with fail
  refine (refZag_any x hx _).mono ?_
  rintro e w5 ⟨rfl, rfl⟩
  go_wp2
  go_ret
  exact ⟨rfl, hB4⟩
end Go.Proofs.Ytkclbgpkmkdhjaa
