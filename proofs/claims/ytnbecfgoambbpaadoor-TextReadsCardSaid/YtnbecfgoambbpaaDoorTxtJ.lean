/- The walk of the statements' own alive. -/
import Derived.Test.YtnbecfgoambbpaaDoorTxtH
import Derived.Test.YtnbecfgoambbpaaDoorTxtI
namespace Go.Proofs.YtnbecfgoambbpaaDoor
open Go.RowKit WPlain

set_option maxHeartbeats 1000000 in
theorem alive_any (w : World) (hm : HasM w) (hK : HasK w) : Calls Tryd.prog 9 #[] w fun e w' => e = .returned (.bool true) ∧ Below w.heap.size w w' := by
  have hp : parse [119, 114, 105, 116, 101, 32, 51, 32, 49, 32, 45, 53, 32, 35, 32, 99, 10, 10] = ([⟨4, 3, 1, -5⟩], 0, 0) := by decide +kernel
  have hr : right [⟨4, 3, 1, -5⟩] = true := by decide +kernel
  have HP := Lib.hid (parse_any ⟨#[119, 114, 105, 116, 101, 32, 51, 32, 49, 32, 45, 53, 32, 35, 32, 99, 10, 10]⟩ w (by decide) hm hK)
  have HPE : Hid (parse (⟨#[119, 114, 105, 116, 101, 32, 51, 32, 49, 32, 45, 53, 32, 35, 32, 99, 10, 10]⟩ : ByteArray).data.toList = ([⟨4, 3, 1, -5⟩], 0, 0)) := hp
  have HR := Lib.hid hr
  have HK := Lib.hid hK
  clear hp hr hm hK
  have heq : ∀ w, (binOp .eql 44 (.agg #[.int .i64 4, .int .i64 3, .int .i64 1, .int .i64 (-5)]) (.agg #[.int .i64 4, .int .i64 3, .int .i64 1, .int .i64 (-5)])).run Tryd.prog w = .ok (.bool true) w := fun w => run_eql_ev ⟨4, 3, 1, -5⟩ ⟨4, 3, 1, -5⟩ w
  have hgd := fun op p q w => run_guard_ev op p q #[.int .i64 4, .int .i64 3, .int .i64 1, .int .i64 (-5)] #[.int .i64 4, .int .i64 3, .int .i64 1, .int .i64 (-5)] w
  go_enter Tryd.func9, Tryd.ntmps9
  go_wp2_with fail
  refine HP.out.mono ?_
  rintro e w1 ⟨v, rfl, hv, _, hb⟩
  rw [HPE.out] at hv ⊢
  have HV := Lib.hid hv
  rcases hv with ⟨e0, _⟩ | ⟨_, b, o, c, rfl, hlt, hc⟩
  · simp at e0
  · obtain ⟨c0, c1, c2, c3⟩ := hc 0 (by simp)
    clear hc
    simp only [List.getElem_cons_zero, List.length_cons, List.length_nil, Nat.zero_mul, Nat.add_zero, Nat.zero_add] at c0 c1 c2 c3 HV ⊢
    go_wp2_with fail
    refine (right_any _ _ _ (HK.out.later hb (Nat.le_refl _)) HV.out (by simp)).mono ?_
    rintro e w2 ⟨rfl, hb2⟩
    rw [HR.out]
    have hb3 := hb.trans (hb2.mono hb.size)
    clear hb hb2
    go_wp2
    go_ret
    exact ⟨rfl, hb3⟩
end Go.Proofs.YtnbecfgoambbpaaDoor
