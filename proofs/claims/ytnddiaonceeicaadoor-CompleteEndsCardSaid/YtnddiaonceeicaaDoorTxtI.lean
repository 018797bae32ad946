/- The walk of the reference's Same, at any two rows of events. -/
import Derived.Test.YtnddiaonceeicaaDoorMg1
import Derived.Test.YtnddiaonceeicaaDoorMg2
import Derived.Deep.QuietTactic
import Derived.BigQuiet
import Derived.Laws.StructEq
namespace Go.Proofs.YtnddiaonceeicaaDoor.WPlain
end Go.Proofs.YtnddiaonceeicaaDoor.WPlain
namespace Go.Proofs.YtnddiaonceeicaaDoor
open Go.RowKit WPlain

theorem run_neq_ev (a b : Ev) (w : World) : (binOp .neq 54 (.agg #[.int .i64 a.k, .int .i64 a.t, .int .i64 a.v, .int .i64 a.x]) (.agg #[.int .i64 b.k, .int .i64 b.t, .int .i64 b.v, .int .i64 b.x])).run Tryd.prog w = .ok (.bool (!decide (a = b))) w := by
  have u3 := Tryd.underlying3
  have a3 := Tryd.isAgg3
  have z3 := Tryd.sizeOf3
  have hS : Tryd.prog.underlying 54 = some (.struct (Tryd.prog.fieldsOf 54)) := by kernel_rfl
  have hp : Tryd.prog.stoodInHeld 54 = false := by kernel_rfl
  have he : decide (a = b) = (a.k == b.k && (a.t == b.t && (a.v == b.v && a.x == b.x))) := by
    obtain ⟨ak, at', av, ax⟩ := a
    obtain ⟨bk, bt, bv, bx⟩ := b
    rw [Bool.eq_iff_iff]
    simp
  rw [he, run_neq_struct, show (10000 : Nat) = 9999 + 1 from rfl, run_equalIn_agg w 9999 54 _ _ hS hp]
  simp only [Program.fieldsOf, Tryd.underlying54]
  go_simp
  by_cases h1 : a.k = b.k <;> by_cases h2 : a.t = b.t <;> by_cases h3 : a.v = b.v <;> by_cases h4 : a.x = b.x <;> simp [h1, h2, h3, h4]
theorem run_guard_ev (op : BinOp) (p q : Operand) (xs ys : Array Value) (w : World) : (eqGuard op 54 p q (.agg xs) (.agg ys)).run Tryd.prog w = .ok () w :=
  run_eqGuard_agg w op 54 p q xs ys (by kernel_rfl)

set_option maxHeartbeats 1000000 in
theorem same_any (v1 v2 : Value) (h1 h2 : List Ev) (w : World) (hv1 : Evs w v1 h1) (hv2 : Evs w v2 h2) (hl1 : h1.length ≤ 65536) (hl2 : h2.length ≤ 65536) :
    Calls Tryd.prog 15 #[v1, v2] w fun e w' => e = .returned (.bool (decide (h1 = h2))) ∧ ∃ n, w' = w.drewN n := by
  by_cases hlen : h1.length = h2.length
  · by_cases h0 : 0 < h1.length
    · rcases hv1 with ⟨e0, _⟩ | ⟨_, b1, o1, c1, rfl, hb1, hc1⟩
      · rw [e0] at h0; simp at h0
      · rcases hv2 with ⟨e0, _⟩ | ⟨_, b2, o2, c2, rfl, hb2, hc2⟩
        · rw [hlen, e0] at h0; simp at h0
        · have HC1 := Lib.hid hc1
          have HC2 := Lib.hid hc2
          clear hc1 hc2
          obtain ⟨r, hr⟩ : ∃ r, r = decide (h1 = h2) := ⟨_, rfl⟩
          rw [← hr]
          have HR := Lib.hid hr
          have HL := Lib.hid hlen
          clear hr
          rw [← hlen]
          clear hlen
          go_enter Tryd.func15, Tryd.ntmps15
          go_wp2
          go_loopw [13] (fun x wr => ∃ k n : Nat, k ≤ h1.length ∧ x = .int .i64 k ∧ Hid (h1.take k = h2.take k) ∧ wr = w.drewN n) (fun x _ => h1.length - (intOf x).toNat)
          case atStart => exact ⟨0, 0, by omega, rfl, rfl, rfl⟩
          case round =>
            obtain ⟨k, n, hk, rfl, HT, rfl⟩ := hrel
            by_cases hlt : k < h1.length
            · have hlt2 : k < h2.length := by rw [← HL.out]; exact hlt
              obtain ⟨x0, x1, x2, x3⟩ := HC1.out k hlt
              obtain ⟨y0, y1, y2, y3⟩ := HC2.out k hlt2
              have k1 : (k : Int) < (h1.length : Int) := by omega
              have s1 : h1.take (k + 1) = h1.take k ++ [h1[k]] := List.take_succ_eq_append_getElem hlt
              have s2 : h2.take (k + 1) = h2.take k ++ [h2[k]] := List.take_succ_eq_append_getElem hlt2
              by_cases he : h1[k] = h2[k]
              · have HT2 : Hid (h1.take (k + 1) = h2.take (k + 1)) := by unfold Hid; rw [s1, s2, HT.out, he]
                rw [he] at x0 x1 x2 x3
                clear s1 s2 he
                generalize h2[k] = ev at *
                go_wp2
                go_quiet (fail)
                go_wp2
                go_roundw
                case rel => exact ⟨k + 1, _, by omega, by go_num, HT2, rfl⟩
                case measure => simp [intOf]; omega
              · have HF : Hid (r = false) := by
                  unfold Hid
                  rw [HR.out]
                  refine decide_eq_false fun h => he ?_
                  subst h
                  rfl
                clear s1 s2
                generalize h1[k] = ev1 at *
                generalize h2[k] = ev2 at *
                have hneq : ∀ w, (binOp .neq 54 (.agg #[.int .i64 ev1.k, .int .i64 ev1.t, .int .i64 ev1.v, .int .i64 ev1.x]) (.agg #[.int .i64 ev2.k, .int .i64 ev2.t, .int .i64 ev2.v, .int .i64 ev2.x])).run Tryd.prog w = .ok (.bool true) w := fun w => by rw [run_neq_ev, decide_eq_false he]; rfl
                have hgd := fun op p q w => run_guard_ev op p q #[.int .i64 ev1.k, .int .i64 ev1.t, .int .i64 ev1.v, .int .i64 ev1.x] #[.int .i64 ev2.k, .int .i64 ev2.t, .int .i64 ev2.v, .int .i64 ev2.x] w
                clear he
                go_wp2
                go_quiet (fail)
                go_wp2
                go_ret
                exact ⟨by rw [HF.out]; rfl, _, World.drewN_drewN _ _ _⟩
            · obtain rfl : k = h1.length := by omega
              have HF : Hid (r = true) := by
                unfold Hid
                rw [HR.out]
                have h := HT.out
                rw [List.take_length, HL.out, List.take_length] at h
                exact decide_eq_true h
              go_wp2
              go_ret
              exact ⟨by rw [HF.out]; rfl, n, rfl⟩
    · obtain rfl : h1 = [] := List.length_eq_zero_iff.1 (by omega)
      obtain rfl : h2 = [] := List.length_eq_zero_iff.1 (by simp at hlen; omega)
      obtain ⟨a1, c1, rfl⟩ := hv1.len
      obtain ⟨a2, c2, rfl⟩ := hv2.len
      clear hv1 hv2
      go_enter Tryd.func15, Tryd.ntmps15
      go_wp2
      refine wp_loop_rounds 1 ?_
      rw [rounds_succ]
      go_wp2
      go_ret
      exact ⟨rfl, 0, rfl⟩
  · obtain ⟨a1, c1, rfl⟩ := hv1.len
    obtain ⟨a2, c2, rfl⟩ := hv2.len
    clear hv1 hv2
    have ht : ((h1.length : Int) != (h2.length : Int)) = true := by simp; omega
    rw [decide_eq_false (fun h => hlen (by rw [h]))]
    clear hlen
    go_enter Tryd.func15, Tryd.ntmps15
    go_wp2
    go_ret
    exact ⟨rfl, 0, rfl⟩
end Go.Proofs.YtnddiaonceeicaaDoor
