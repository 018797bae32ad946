/- Merged: PrpI, WalkK. -/
import Derived.Test.YtnggadcoepieaaaDoorPrpH
import Derived.Test.YtnggadcoepieaaaDoorMg4
import Derived.Test.YtnggadcoepieaaaDoorMg3
import Derived.Test.YtnggadcoepieaaaDoorMg1
import Derived.Lib.ItoaMem
import Derived.Lib.ItoaLen
import Derived.Lib.SmallJoins
/- The walks of the reference's Last and May. -/
namespace Go.Proofs.YtnggadcoepieaaaDoor.WPlain
end Go.Proofs.YtnggadcoepieaaaDoor.WPlain
namespace Go.Proofs.YtnggadcoepieaaaDoor.QPlain
end Go.Proofs.YtnggadcoepieaaaDoor.QPlain
namespace Go.Proofs.YtnggadcoepieaaaDoor
open Go.RowKit WPlain QPlain

theorem last_take {h : List Ev} {k : Nat} (hk : k < h.length) (t : Int) : lastOf (h.take (k + 1)) t = if h[k].t = t then h[k].k else lastOf (h.take k) t := by
  rw [← lastOf_snoc, List.take_succ_eq_append_getElem hk]
set_option maxRecDepth 100000 in
set_option maxHeartbeats 1000000 in
theorem last_any (v : Value) (h : List Ev) (t : Int) (w : World) (hv : Evs w v h) (hl : h.length ≤ 65536) :
    Calls Tryd.prog 36 #[v, .int .i64 t] w fun e w' => e = .returned (.int .i64 (lastOf h t)) ∧ Below w.heap.size w w' := by
  have hb0 := Below.refl w.heap.size w
  have HV := Lib.hid hv
  obtain ⟨a, c, rfl⟩ := hv.len
  clear hv
  go_enter Tryd.func36, Tryd.ntmps36
  go_wp2_with fail
  go_loopw [5, 10] (fun y x wr => ∃ k : Nat, k ≤ h.length ∧ x = .int .i64 k ∧ y = .int .i64 (lastOf (h.take k) t) ∧ Hid (Below w.heap.size w wr)) (fun _ x _ => h.length - (intOf x).toNat)
  case atStart => exact ⟨0, by omega, rfl, rfl, hb0⟩
  case round =>
    clear hb0
    obtain ⟨k, hk, rfl, rfl, HB⟩ := hrel
    by_cases hlt : k < h.length
    · have HT := Lib.hid (last_take hlt t)
      have hv2 := HV.out.below HB.out (Nat.le_refl _)
      rcases hv2 with ⟨e0, _⟩ | ⟨l0, b, o, c', he, hbl, hc⟩
      · rw [e0] at hlt; simp at hlt
      · obtain ⟨rfl, rfl⟩ : a = some ⟨b, o, none⟩ ∧ c = c' := by simpa using he
        clear he
        obtain ⟨c0, c1, c2, c3⟩ := hc k hlt
        clear hc
        generalize h[k] = ev at *
        generalize lastOf (h.take k) t = y at *
        have HB1 := Lib.hid (HB.out.alloc HB.out.size (.cells #[.int .i64 ev.k, .int .i64 ev.t, .int .i64 ev.v, .int .i64 ev.x] 38))
        have hE := At.new wr #[.int .i64 ev.k, .int .i64 ev.t, .int .i64 ev.v, .int .i64 ev.x] 38
        have e0 := hE.cell (i := 0) (v := .int .i64 ev.k) rfl
        have e1 := hE.cell (i := 1) (v := .int .i64 ev.t) rfl
        clear hE HB
        by_cases het : ev.t = t
        · have HA : Hid (lastOf (h.take (k + 1)) t = ev.k) := by unfold Hid; rw [HT.out, if_pos het]
          have tq : ((ev.t : Int) == t) = true := by simp [het]
          clear het HT
          go_wp2
          go_roundw
          case rel => exact ⟨k + 1, by omega, by go_num, by rw [HA.out], HB1⟩
          case measure => simp [intOf]; omega
        · have HA : Hid (lastOf (h.take (k + 1)) t = y) := by unfold Hid; rw [HT.out, if_neg het]
          have tq : ((ev.t : Int) == t) = false := by simp [het]
          clear het HT
          go_wp2
          go_roundw
          case rel => exact ⟨k + 1, by omega, by go_num, by rw [HA.out], HB1⟩
          case measure => simp [intOf]; omega
    · obtain rfl : k = h.length := by omega
      rw [List.take_length]
      go_wp2
      go_ret
      exact ⟨rfl, HB.out⟩
set_option maxRecDepth 100000 in
set_option maxHeartbeats 4000000 in
theorem may_any (l k : Int) (hl : -1 ≤ l ∧ l < 10) (hk : 0 ≤ k ∧ k < 10) (w : World) :
    Calls Tryd.prog 35 #[.int .i64 l, .int .i64 k] w fun e w' => e = .returned (.bool (mayS l k)) ∧ w = w' := by
  rcases lasts hl with rfl | rfl | rfl | rfl | rfl | rfl | rfl | rfl | rfl | rfl | rfl
  all_goals
    clear hl
    rcases tenI hk with rfl | rfl | rfl | rfl | rfl | rfl | rfl | rfl | rfl | rfl
    all_goals
      clear hk
      go_enter Tryd.func35, Tryd.ntmps35
      go_wp2
      go_ret
      exact ⟨rfl, rfl⟩
end Go.Proofs.YtnggadcoepieaaaDoor
/- The walks of package word's Text and of the reference's Text and Number. -/
namespace Go.Proofs.YtnggadcoepieaaaDoor.WPlain
end Go.Proofs.YtnggadcoepieaaaDoor.WPlain
namespace Go.Proofs.YtnggadcoepieaaaDoor
open Go.RowKit WPlain

theorem refNumber_any (n : Int) (w : World) :
    Calls Tryd.prog 42 #[.int .i64 n] w fun e w' => e = .returned (.bool (inR n)) ∧ w = w' := by
  by_cases h1 : -2147483648 ≤ n
  · by_cases h2 : n ≤ 2147483647
    · have HT : Hid (inR n = true) := by unfold Hid inR; simp [h1, h2]
      go_enter Tryd.func42, Tryd.ntmps42
      go_wp2
      go_ret
      exact ⟨ret_bool HT.out.symm, rfl⟩
    · have HT : Hid (inR n = false) := by unfold Hid inR; simp [h2]
      have t2 : decide (n ≤ 2147483647) = false := by simp; omega
      go_enter Tryd.func42, Tryd.ntmps42
      go_wp2
      go_ret
      exact ⟨ret_bool HT.out.symm, rfl⟩
  · have HT : Hid (inR n = false) := by unfold Hid inR; simp [h1]
    have t2 : decide (-2147483648 ≤ n) = false := by simp; omega
    go_enter Tryd.func42, Tryd.ntmps42
    go_wp2
    go_ret
    exact ⟨ret_bool HT.out.symm, rfl⟩

end Go.Proofs.YtnggadcoepieaaaDoor
