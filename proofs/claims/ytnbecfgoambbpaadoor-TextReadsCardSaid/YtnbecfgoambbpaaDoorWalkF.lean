/- The walk of package word's Int. -/
import Derived.Test.YtnbecfgoambbpaaDoorWalkE
namespace Go.Proofs.YtnbecfgoambbpaaDoor
open Go.RowKit WPlain

theorem trimP_len (l p : List UInt8) : (Lib.trimPrefix l p).length ≤ l.length := by
  unfold Lib.trimPrefix; split
  · rw [List.length_drop]; omega
  · omega

set_option maxHeartbeats 800000 in
theorem int_any (s : ByteArray) (w : World) (hs : s.size ≤ 2147483648) :
    Calls Tryd.prog 64 #[.string s] w fun e w' => e = .returned (.tuple #[.int .i64 (intSpec s.data.toList).1, .int .i64 (intSpec s.data.toList).2]) ∧ Below w.heap.size w w' := by
  obtain ⟨d, hd⟩ : ∃ b : ByteArray, b.data.toList = Lib.trimPrefix s.data.toList [45] := ⟨⟨(Lib.trimPrefix s.data.toList [45]).toArray⟩, by simp⟩
  have HC : Hid ((⟨(Lib.trimPrefix s.data.toList (⟨#[45]⟩ : ByteArray).data.toList).toArray⟩ : ByteArray) = d) := by
    unfold Hid
    have : Lib.trimPrefix s.data.toList (⟨#[45]⟩ : ByteArray).data.toList = d.data.toList := by rw [hd]
    rw [this]
  have hds : d.size ≤ 2147483648 := by
    have h1 := trimP_len s.data.toList [45]
    rw [← hd, ← Lib.size_eq, ← Lib.size_eq] at h1
    omega
  unfold intSpec
  rw [← hd]
  clear hd
  obtain ⟨b, hb⟩ : ∃ b, b = Lib.hasPrefix s.data.toList [45] := ⟨_, rfl⟩
  have HB : Hid (Lib.hasPrefix s.data.toList (⟨#[45]⟩ : ByteArray).data.toList = b) := hb.symm
  rw [← hb]
  clear hb
  have HR := gath_inR d.data.toList b
  have HBD := gath_bd d.data.toList
  have hnz : digs d.data.toList = true → 0 < d.size ∧ d.data.toList.all isDig = true := by
    intro h
    unfold digs at h
    simp only [Bool.and_eq_true, Bool.not_eq_true'] at h
    refine ⟨?_, h.1⟩
    rw [Lib.size_eq]
    have := h.2
    cases hc : d.data.toList with
    | nil => rw [hc] at this; simp at this
    | cons x r => simp
  have HZ := Lib.hid hnz
  have HRR := Lib.hid HR
  have HBB := Lib.hid HBD
  clear hnz HR HBD
  cases hdg : digs d.data.toList with
  | true =>
    obtain ⟨h0, hall⟩ := HZ.out hdg
    have HALL := Lib.hid hall
    clear hall
    cases hlz : leadZ d.data.toList b with
    | true =>
      rw [if_neg (by simp), if_pos rfl]
      go_enter Tryd.func64, Tryd.ntmps64
      go_wp2_with fail
      refine (Tryd.strings_CutPrefix _ _ _).mono ?_
      rintro e w1 ⟨rfl, rfl⟩
      rw [HC.out, HB.out]
      go_wp2_with (first
        | (go_at_call 77; refine (areDigits_any _ _ (by omega)).mono ?_; rintro e w' ⟨rfl, rfl⟩)
        | (go_at_call 78; refine (leadsZero_any _ _ _ (by omega) h0).mono ?_; rintro e w' ⟨rfl, rfl⟩))
      go_ret2
      exact ⟨rfl, Below.refl _ _⟩
    | false =>
      rw [if_neg (by simp), if_neg (by simp)]
      obtain ⟨hr1, hr2⟩ := HRR.out HALL.out
      obtain ⟨hg1, hg2⟩ := HBB.out HALL.out
      have HR1 := Lib.hid hr1
      have HR2 := Lib.hid hr2
      clear hr1 hr2
      cases b with
      | false =>
        have HS : Hid (sgn false (gath d.data.toList) = gath d.data.toList) := rfl
        cases hin : inR (sgn false (val d.data.toList)) with
        | true =>
          have HV := Lib.hid (HR2.out hin)
          have HI := Lib.hid (HR1.out.trans hin)
          clear hin
          rw [if_pos rfl]
          go_enter Tryd.func64, Tryd.ntmps64
          go_wp2_with fail
          refine (Tryd.strings_CutPrefix _ _ _).mono ?_
          rintro e w1 ⟨rfl, rfl⟩
          rw [HC.out, HB.out]
          go_wp2_with (first
            | (go_at_call 77; refine (areDigits_any _ _ (by omega)).mono ?_; rintro e w' ⟨rfl, rfl⟩)
            | (go_at_call 78; refine (leadsZero_any _ _ _ (by omega) h0).mono ?_; rintro e w' ⟨rfl, rfl⟩))
          refine (gather_any _ _ (by omega) HALL.out).mono ?_
          rintro e w' ⟨rfl, hbl⟩
          generalize gath d.data.toList = g at *
          go_wp2_with fail
          rw [← HS.out]
          refine (isNumber_any _ _).mono ?_
          rintro e w' ⟨rfl, rfl⟩
          rw [HI.out]
          go_wp2_with fail
          go_ret2
          exact ⟨by rw [HV.out]; rfl, hbl⟩
        | false =>
          have HI := Lib.hid (HR1.out.trans hin)
          clear hin
          rw [if_neg (by simp)]
          go_enter Tryd.func64, Tryd.ntmps64
          go_wp2_with fail
          refine (Tryd.strings_CutPrefix _ _ _).mono ?_
          rintro e w1 ⟨rfl, rfl⟩
          rw [HC.out, HB.out]
          go_wp2_with (first
            | (go_at_call 77; refine (areDigits_any _ _ (by omega)).mono ?_; rintro e w' ⟨rfl, rfl⟩)
            | (go_at_call 78; refine (leadsZero_any _ _ _ (by omega) h0).mono ?_; rintro e w' ⟨rfl, rfl⟩))
          refine (gather_any _ _ (by omega) HALL.out).mono ?_
          rintro e w' ⟨rfl, hbl⟩
          generalize gath d.data.toList = g at *
          go_wp2_with fail
          rw [← HS.out]
          refine (isNumber_any _ _).mono ?_
          rintro e w' ⟨rfl, rfl⟩
          rw [HI.out]
          go_wp2_with fail
          go_ret2
          exact ⟨rfl, hbl⟩
      | true =>
        have HS : Hid (sgn true (gath d.data.toList) = - gath d.data.toList) := rfl
        cases hin : inR (sgn true (val d.data.toList)) with
        | true =>
          have HV := Lib.hid (HR2.out hin)
          have HI := Lib.hid (HR1.out.trans hin)
          clear hin
          rw [if_pos rfl]
          go_enter Tryd.func64, Tryd.ntmps64
          go_wp2_with fail
          refine (Tryd.strings_CutPrefix _ _ _).mono ?_
          rintro e w1 ⟨rfl, rfl⟩
          rw [HC.out, HB.out]
          go_wp2_with (first
            | (go_at_call 77; refine (areDigits_any _ _ (by omega)).mono ?_; rintro e w' ⟨rfl, rfl⟩)
            | (go_at_call 78; refine (leadsZero_any _ _ _ (by omega) h0).mono ?_; rintro e w' ⟨rfl, rfl⟩))
          refine (gather_any _ _ (by omega) HALL.out).mono ?_
          rintro e w' ⟨rfl, hbl⟩
          generalize gath d.data.toList = g at *
          go_wp2_with fail
          rw [← HS.out]
          refine (isNumber_any _ _).mono ?_
          rintro e w' ⟨rfl, rfl⟩
          rw [HI.out]
          go_wp2_with fail
          go_ret2
          exact ⟨by rw [HV.out]; rfl, hbl⟩
        | false =>
          have HI := Lib.hid (HR1.out.trans hin)
          clear hin
          rw [if_neg (by simp)]
          go_enter Tryd.func64, Tryd.ntmps64
          go_wp2_with fail
          refine (Tryd.strings_CutPrefix _ _ _).mono ?_
          rintro e w1 ⟨rfl, rfl⟩
          rw [HC.out, HB.out]
          go_wp2_with (first
            | (go_at_call 77; refine (areDigits_any _ _ (by omega)).mono ?_; rintro e w' ⟨rfl, rfl⟩)
            | (go_at_call 78; refine (leadsZero_any _ _ _ (by omega) h0).mono ?_; rintro e w' ⟨rfl, rfl⟩))
          refine (gather_any _ _ (by omega) HALL.out).mono ?_
          rintro e w' ⟨rfl, hbl⟩
          generalize gath d.data.toList = g at *
          go_wp2_with fail
          rw [← HS.out]
          refine (isNumber_any _ _).mono ?_
          rintro e w' ⟨rfl, rfl⟩
          rw [HI.out]
          go_wp2_with fail
          go_ret2
          exact ⟨rfl, hbl⟩
  | false =>
    rw [if_pos rfl]
    go_enter Tryd.func64, Tryd.ntmps64
    go_wp2_with fail
    refine (Tryd.strings_CutPrefix _ _ _).mono ?_
    rintro e w1 ⟨rfl, rfl⟩
    rw [HC.out, HB.out]
    go_wp2_with (first
      | (go_at_call 77; refine (areDigits_any _ _ (by omega)).mono ?_; rintro e w' ⟨rfl, rfl⟩))
    go_ret2
    exact ⟨rfl, Below.refl _ _⟩
end Go.Proofs.YtnbecfgoambbpaaDoor
