/- The walks of the reference's Word, Variable, Value, Has, Names, right and Right. (Written by gen_txtS.py.) -/
import Derived.Test.YtclhbnfnmpabbaaKitB
import Derived.Test.YtclhbnfnmpabbaaRows
import Derived.Test.YtclhbnfnmpabbaaShelf
import Derived.Test.YtclhbnfnmpabbaaKit
import Derived.Test.YtclhbnfnmpabbaaTxtD
import Derived.Lib.SplitLaws
import Derived.Lib.ItoaLen
import Derived.Below
import Derived.Lib.Strings
import Derived.Deep.QuietTactic
import Derived.BigQuiet
import Derived.Laws.Rows
import Derived.Lib.ItoaMem
import Derived.Lib.SmallJoins
namespace Go.Proofs.Ytclhbnfnmpabbaa.WPlain
end Go.Proofs.Ytclhbnfnmpabbaa.WPlain
namespace Go.Proofs.Ytclhbnfnmpabbaa
open Go.RowKit WPlain

set_option maxHeartbeats 1000000 in
theorem has_any (v : Value) (xs : List Int) (x : Int) (w : World) (h : Rd w v (ints xs)) (hl : xs.length ≤ 2147483648) :
    Calls Try.prog 27 #[v, .int .i64 x] w fun e w' => e = .returned (.bool (xs.contains x)) ∧ w = w' := by
  obtain ⟨r, hr⟩ : ∃ r, r = xs.contains x := ⟨_, rfl⟩
  rw [← hr]
  have HR := Lib.hid hr
  have HH := Lib.hid h
  obtain ⟨a, c, rfl⟩ := h.len
  rw [ints_len] at HH ⊢
  clear hr h
  go_enter Try.func27, Try.ntmps27
  go_wp2_with fail
  go_loop [9] (fun i => ∃ k : Nat, k ≤ xs.length ∧ i = .int .i64 k ∧ Hid (∀ j, j < k → xs[j]? ≠ some x)) (fun i => xs.length - (intOf i).toNat)
  case atStart => exact ⟨0, by omega, rfl, fun j hj => absurd hj (Nat.not_lt_zero _)⟩
  case round =>
    obtain ⟨k, hk, rfl, HN⟩ := hrel
    by_cases hlt : k < xs.length
    · obtain ⟨b, o, c', he, hb, hc⟩ := HH.out.opened (by rw [ints_len]; omega)
      have hck := hc k (.int .i64 xs[k]) (by unfold ints; rw [List.getElem?_map, List.getElem?_eq_getElem hlt]; rfl)
      simp only [ints_len, Value.slice.injEq, true_and] at he
      obtain ⟨rfl, rfl⟩ := he
      clear hc
      have hg : xs[k]? = some xs[k] := List.getElem?_eq_getElem hlt
      by_cases hx : xs[k] = x
      · have HF : Hid (r = true) := by
          unfold Hid
          rw [HR.out]
          rw [List.contains_iff_mem]
          rw [← hx]
          exact List.getElem_mem _
        rw [hx] at hck
        clear hx hg
        go_wp2
        go_ret
        exact ⟨by rw [HF.out]; rfl, rfl⟩
      · have HN2 : Hid (∀ j, j < k + 1 → xs[j]? ≠ some x) := by
          intro j hj
          by_cases hj' : j < k
          · exact HN.out j hj'
          · obtain rfl : j = k := by omega
            rw [hg]
            intro h
            exact hx (Option.some.inj h)
        have tx : ((xs[k] : Int) == x) = false := by simpa using hx
        clear hx hg
        generalize xs[k] = y at *
        go_wp2
        go_round
        case rel => exact ⟨k + 1, by omega, by go_num, HN2⟩
        case measure => simp [intOf]; omega
    · have HF : Hid (r = false) := by
        unfold Hid
        rw [HR.out]
        cases hcn : xs.contains x with
        | false => rfl
        | true =>
          rw [List.contains_iff_mem] at hcn
          obtain ⟨j, hj, hjx⟩ := List.mem_iff_getElem.1 hcn
          exact absurd (by rw [List.getElem?_eq_getElem hj, hjx]) (HN.out j (by omega))
      go_wp2
      go_ret
      exact ⟨by rw [HF.out]; rfl, rfl⟩

end Go.Proofs.Ytclhbnfnmpabbaa
