/- The walk of the reference's Same, at any two rows of bytes. -/
import Derived.Test.YtgebmjbfeakpgaaDoorRows
import Derived.Test.YtgebmjbfeakpgaaDoorVarA
import Derived.Test.YtgebmjbfeakpgaaDoorOpenBy
import Derived.Test.YtgebmjbfeakpgaaDoorKit
import Derived.RegionTactic
import Derived.Deep.QuietTactic
import Derived.BigQuiet
namespace Go.Proofs.YtgebmjbfeakpgaaDoor.VPlain
end Go.Proofs.YtgebmjbfeakpgaaDoor.VPlain
namespace Go.Proofs.YtgebmjbfeakpgaaDoor
open Go.RowKit VPlain

set_option maxHeartbeats 1000000 in
theorem sameB_any (v1 v2 : Value) (h1 h2 : List Nat) (w : World) (hv1 : Rd w v1 (bs h1)) (hv2 : Rd w v2 (bs h2)) (hl1 : h1.length ≤ 65536) (hl2 : h2.length ≤ 65536) :
    Calls Tryd.prog 15 #[v1, v2] w fun e w' => e = .returned (.bool (decide (h1 = h2))) ∧ ∃ n, w' = w.drewN n := by
  by_cases hlen : h1.length = h2.length
  · by_cases h0 : 0 < h1.length
    · rcases hv1 with ⟨e0, _⟩ | ⟨_, b1, o1, c1, rfl, hc1⟩
      · have := bs_len h1; rw [e0] at this; simp at this; omega
      · rcases hv2 with ⟨e0, _⟩ | ⟨_, b2, o2, c2, rfl, hc2⟩
        · have := bs_len h2; rw [e0] at this; simp at this; omega
        · rw [bs_len, bs_len]
          have HC1 := Lib.hid hc1
          have HC2 := Lib.hid hc2
          clear hc1 hc2
          obtain ⟨r, hr⟩ : ∃ r, r = decide (h1 = h2) := ⟨_, rfl⟩
          rw [← hr]
          have HR := Lib.hid hr
          have HL := Lib.hid hlen
          clear hr
          rw [← hlen]
          clear hlen
          go_enter Tryd.func15, Tryd.ntmps15
          go_wp2
          go_loopw [13] (fun x wr => ∃ k n : Nat, k ≤ h1.length ∧ x = .int .i64 k ∧ Hid (h1.take k = h2.take k) ∧ wr = w.drewN n) (fun x _ => h1.length - (intOf x).toNat)
          case atStart => exact ⟨0, 0, by omega, rfl, rfl, rfl⟩
          case round =>
            obtain ⟨k, n, hk, rfl, HT, rfl⟩ := hrel
            by_cases hlt : k < h1.length
            · have hlt2 : k < h2.length := by rw [← HL.out]; exact hlt
              have x0 := HC1.out k _ (bs_at hlt)
              have y0 := HC2.out k _ (bs_at hlt2)
              have k1 : (k : Int) < (h1.length : Int) := by omega
              have s1 : h1.take (k + 1) = h1.take k ++ [h1[k]] := List.take_succ_eq_append_getElem hlt
              have s2 : h2.take (k + 1) = h2.take k ++ [h2[k]] := List.take_succ_eq_append_getElem hlt2
              by_cases he : h1[k] = h2[k]
              · have HT2 : Hid (h1.take (k + 1) = h2.take (k + 1)) := by unfold Hid; rw [s1, s2, HT.out, he]
                rw [he] at x0
                clear s1 s2 he
                generalize h2[k] = ev at *
                go_wp2
                go_quiet (fail)
                go_wp2
                go_roundw
                case rel => exact ⟨k + 1, _, by omega, by go_num, HT2, rfl⟩
                case measure => simp [intOf]; omega
              · have HF : Hid (r = false) := by
                  unfold Hid
                  rw [HR.out]
                  refine decide_eq_false fun h => he ?_
                  subst h
                  rfl
                clear s1 s2
                generalize h1[k] = ev1 at *
                generalize h2[k] = ev2 at *
                have hne : ((ev1 : Int) != (ev2 : Int)) = true := by simp; omega
                have hne2 : ((ev1 : Int) == (ev2 : Int)) = false := by simp; omega
                clear he
                go_wp2
                go_quiet (fail)
                go_wp2
                go_ret
                exact ⟨by rw [HF.out]; rfl, _, World.drewN_drewN _ _ _⟩
            · obtain rfl : k = h1.length := by omega
              have HF : Hid (r = true) := by
                unfold Hid
                rw [HR.out]
                have h := HT.out
                rw [List.take_length, HL.out, List.take_length] at h
                exact decide_eq_true h
              go_wp2
              go_ret
              exact ⟨by rw [HF.out]; rfl, n, rfl⟩
    · obtain rfl : h1 = [] := List.length_eq_zero_iff.1 (by omega)
      obtain rfl : h2 = [] := List.length_eq_zero_iff.1 (by simp at hlen; omega)
      obtain ⟨a1, c1, rfl⟩ := hv1.len
      obtain ⟨a2, c2, rfl⟩ := hv2.len
      rw [bs_len]
      clear hv1 hv2
      go_enter Tryd.func15, Tryd.ntmps15
      go_wp2
      refine wp_loop_rounds 1 ?_
      rw [rounds_succ]
      go_wp2
      go_ret
      exact ⟨rfl, 0, rfl⟩
  · obtain ⟨a1, c1, rfl⟩ := hv1.len
    obtain ⟨a2, c2, rfl⟩ := hv2.len
    rw [bs_len, bs_len]
    clear hv1 hv2
    have ht : ((h1.length : Int) != (h2.length : Int)) = true := by simp; omega
    rw [decide_eq_false (fun h => hlen (by rw [h]))]
    clear hlen
    go_enter Tryd.func15, Tryd.ntmps15
    go_wp2
    go_ret
    exact ⟨rfl, 0, rfl⟩
end Go.Proofs.YtgebmjbfeakpgaaDoor
