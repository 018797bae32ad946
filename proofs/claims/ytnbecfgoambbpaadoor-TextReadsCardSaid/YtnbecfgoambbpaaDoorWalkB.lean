/- The walks of package word's wordEnd. -/
import Derived.Test.YtnbecfgoambbpaaDoorWalkA
namespace Go.Proofs.YtnbecfgoambbpaaDoor
open Go.RowKit WPlain

theorem getElem_toList (s : ByteArray) (i : Nat) (h : i < s.size) : s.data.toList[i]'(by simpa using h) = s[i] := rfl

set_option maxHeartbeats 400000 in
theorem wordEnd_any (s : ByteArray) (i : Nat) (w : World) (hs : s.size ≤ 4294967280) (hi : i ≤ s.size) :
    Calls Tryd.prog 35 #[.string s, .int .i64 i] w fun e w' => e = .returned (.int .i64 (wend s.data.toList i)) ∧ w = w' := by
  go_enter Tryd.func35, Tryd.ntmps35
  go_wp2
  go_loop [1] (fun x => ∃ k : Nat, k ≤ s.size ∧ x = .int .i64 k ∧ wend s.data.toList k = wend s.data.toList i) (fun x => s.size - (intOf x).toNat)
  case atStart => exact ⟨i, hi, rfl, rfl⟩
  case round =>
    obtain ⟨k, hk, rfl, hw⟩ := hrel
    have HW := Lib.hid hw
    clear hw
    by_cases hlt : k < s.size
    · have hl : k < s.data.toList.length := by simpa using hlt
      by_cases hg : gap s[k] = true
      · have hend : wend s.data.toList k = k := wend_gap _ k hl hg
        have HE : Hid ((k : Nat) = wend s.data.toList i) := by unfold Hid; rw [← HW.out]; exact hend.symm
        clear hend HW
        go_wp2_with (go_at_call 34; refine (isGap_yes _ _ hg).mono ?_; rintro e w' ⟨rfl, rfl⟩)
        go_ret
        exact ⟨ret_int (by rw [← HE.out]), rfl⟩
      · have hg' : gap s[k] = false := by simpa using hg
        have hst : wend s.data.toList (k + 1) = wend s.data.toList k := wend_step _ k hl hg'
        have HE : Hid (wend s.data.toList (k + 1) = wend s.data.toList i) := by unfold Hid; rw [hst]; exact HW.out
        clear hst HW
        go_wp2_with (go_at_call 34; refine (isGap_no _ _ hg').mono ?_; rintro e w' ⟨rfl, rfl⟩)
        go_round
        case rel => exact ⟨k + 1, by omega, by go_num, HE.out⟩
        case measure => simp [intOf]; omega
    · have hend : wend s.data.toList k = k := wend_end _ k (by simpa using (by omega : s.size ≤ k))
      have HE : Hid ((k : Nat) = wend s.data.toList i) := by unfold Hid; rw [← HW.out]; exact hend.symm
      clear hend HW
      go_wp2
      go_ret
      exact ⟨ret_int (by rw [← HE.out]), rfl⟩
end Go.Proofs.YtnbecfgoambbpaaDoor
