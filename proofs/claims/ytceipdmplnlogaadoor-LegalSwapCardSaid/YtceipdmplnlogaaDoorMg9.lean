/- Merged: KitD, TxtT, PrpG. -/
import Derived.Test.YtceipdmplnlogaaDoorMg3
import Derived.Test.YtceipdmplnlogaaDoorTxtS
import Derived.Test.YtceipdmplnlogaaDoorMg8
import Derived.Test.YtceipdmplnlogaaDoorMg4
import Derived.Laws.AppendOwnNone
import Derived.Deep.RegionWith
import Derived.Lib.Join
import Derived.RegionTactic
import Derived.Sort.OwnSortedInts
import Derived.Deep.RegionHeld
import Derived.Deep.DeepMust
import Derived.Deep.Cut
import Derived.Deep.DeepCutAuto
import Derived.Maps.RangeWalk
/- Append of events, whatever the source. -/
namespace Go.Proofs.YtceipdmplnlogaaDoor.WPlain
end Go.Proofs.YtceipdmplnlogaaDoor.WPlain
namespace Go.Proofs.YtceipdmplnlogaaDoor
open Go.RowKit WPlain

theorem addr_add (b o j : Nat) : (⟨b, o, none⟩ : Addr).add j = ⟨b, o + j, none⟩ := by unfold Addr.add; split <;> simp_all
theorem Evs.cells {w : World} {a : Addr} {n c : Nat} {h : List Ev} (hv : Evs w (.slice (some a) n c) h) : ∀ j u, (evsCells h)[j]? = some u → w.cell? (a.add j) = some u := by
  intro j u hu
  rcases hv with ⟨rfl, _⟩ | ⟨_, b, o, c', he, hlt, hc⟩
  · simp [evsCells] at hu
  · obtain ⟨rfl, rfl, rfl⟩ : a = ⟨b, o, none⟩ ∧ n = h.length ∧ c = c' := by simpa using he
    have hj : j < h.length * 4 := by
      have := (List.getElem?_eq_some_iff.1 hu).1
      rw [evsCells_len] at this
      exact this
    have hi : j / 4 < h.length := by omega
    obtain ⟨c0, c1, c2, c3⟩ := hc (j / 4) hi
    have hg := evsCells_get h (j / 4) hi (j % 4) (by omega)
    rw [show j / 4 * 4 + j % 4 = j from by omega, hu] at hg
    rw [addr_add]
    have hm : j % 4 = 0 ∨ j % 4 = 1 ∨ j % 4 = 2 ∨ j % 4 = 3 := by omega
    rcases hm with hm | hm | hm | hm
    · rw [hm] at hg; rw [show o + j = o + j / 4 * 4 from by omega, c0]; exact hg.symm
    · rw [hm] at hg; rw [show o + j = o + j / 4 * 4 + 1 from by omega, c1]; exact hg.symm
    · rw [hm] at hg; rw [show o + j = o + j / 4 * 4 + 2 from by omega, c2]; exact hg.symm
    · rw [hm] at hg; rw [show o + j = o + j / 4 * 4 + 3 from by omega, c3]; exact hg.symm
theorem Evs.length {w : World} {a : Option Addr} {n c : Nat} {h : List Ev} (hv : Evs w (.slice a n c) h) : n = h.length := by
  obtain ⟨a', c', he⟩ := hv.len
  simp at he
  exact he.2.1
end Go.Proofs.YtceipdmplnlogaaDoor
/- The walks of the reference's Right and Print. -/
namespace Go.Proofs.YtceipdmplnlogaaDoor.WPlain
end Go.Proofs.YtceipdmplnlogaaDoor.WPlain
namespace Go.Proofs.YtceipdmplnlogaaDoor
open Go.RowKit WPlain

set_option maxHeartbeats 1000000 in
theorem refRight_any (v : Value) (h : List Ev) (w : World) (hv : Evs w v h) (hl : h.length ≤ 65536) :
    Calls Tryd.prog 28 #[v] w fun e w' => e = .returned (.bool (right h)) ∧ Below w.heap.size w w' := by
  have HV := Lib.hid hv
  obtain ⟨a, c, rfl⟩ := hv.len
  clear hv
  have hb0 := Below.refl w.heap.size w
  unfold right
  obtain ⟨ok, hok⟩ : ∃ ok, ok = (decide (h.length ≤ 60) && h.all evOk && decide ((namesOf h).length ≤ 6)) := ⟨_, rfl⟩
  rw [← hok]
  have HOK := Lib.hid hok
  clear hok
  go_enter Tryd.func28, Tryd.ntmps28
  go_wp2_with fail
  go_loopw [7] (fun x wr => ∃ k : Nat, k ≤ h.length ∧ x = .int .i64 k ∧ Hid ((h.take k).all evOk = true) ∧ Below w.heap.size w wr) (fun x _ => h.length - (intOf x).toNat)
  case atStart => exact ⟨0, by omega, rfl, rfl, hb0⟩
  case round =>
    clear hb0
    obtain ⟨k, hk, rfl, HA, hb⟩ := hrel
    by_cases hlt : k < h.length
    · have hv2 := HV.out.below hb (Nat.le_refl _)
      have hbs := hb.size
      rcases hv2 with ⟨e0, _⟩ | ⟨l0, b, o, c', he, hbl, hc⟩
      · rw [e0] at hlt; simp at hlt
      · obtain ⟨rfl, rfl⟩ : a = some ⟨b, o, none⟩ ∧ c = c' := by simpa using he
        clear he
        obtain ⟨c0, c1, c2, c3⟩ := hc k hlt
        clear hc
        have hsn : h.take (k + 1) = h.take k ++ [h[k]] := List.take_succ_eq_append_getElem hlt
        have hmem : h[k] ∈ h := List.getElem_mem _
        have HMB := Lib.hid (rright_any h[k] (wr.alloc (.cells #[.int .i64 h[k].k, .int .i64 h[k].t, .int .i64 h[k].v, .int .i64 h[k].x] 73)))
        cases hev : evOk h[k] with
        | true =>
          have HEV := Lib.hid hev
          have HA2 : Hid ((h.take (k + 1)).all evOk = true) := by unfold Hid; rw [hsn, List.all_append, HA.out]; simp [hev]
          clear hev hsn hmem
          generalize h[k] = ev at *
          go_wp2_with fail
          refine HMB.out.mono ?_
          rintro e w2 ⟨rfl, hb2⟩
          rw [HEV.out]
          have hb3 := (hb.alloc hb.size (.cells #[.int .i64 ev.k, .int .i64 ev.t, .int .i64 ev.v, .int .i64 ev.x] 73)).trans (hb2.mono (by simp; omega))
          clear hb2 hb
          go_wp2
          go_roundw
          case rel => exact ⟨k + 1, by omega, by go_num, HA2, hb3⟩
          case measure => simp [intOf]; omega
        | false =>
          have HEV := Lib.hid hev
          have HF : Hid (ok = false) := by
            unfold Hid
            rw [HOK.out]
            have : h.all evOk = false := by
              cases hq : h.all evOk with
              | false => rfl
              | true => rw [List.all_eq_true] at hq; rw [hq _ hmem] at hev; simp at hev
            rw [this]; simp
          clear hev hsn hmem
          generalize h[k] = ev at *
          go_wp2_with fail
          refine HMB.out.mono ?_
          rintro e w2 ⟨rfl, hb2⟩
          rw [HEV.out]
          have hb3 := (hb.alloc hb.size (.cells #[.int .i64 ev.k, .int .i64 ev.t, .int .i64 ev.v, .int .i64 ev.x] 73)).trans (hb2.mono (by simp; omega))
          clear hb2 hb
          go_wp2
          go_ret
          exact ⟨by rw [HF.out]; rfl, hb3⟩
    · obtain rfl : k = h.length := by omega
      rw [List.take_length] at HA
      by_cases h60 : h.length ≤ 60
      · have t60 : ((h.length : Int) ≤ 60) := by omega
        have hE : Hid (ok = decide ((namesOf h).length ≤ 6)) := by unfold Hid; rw [HOK.out, HA.out, decide_eq_true h60]; simp
        have hv2 := HV.out.below hb (Nat.le_refl _)
        have HV2 := Lib.hid hv2
        clear hv2
        have hnl := namesOf_len h
        go_wp2_with fail
        refine (refNames_any _ h _ HV2.out hl).mono ?_
        rintro e w2 ⟨v', rfl, hy, hb2⟩
        obtain ⟨ya, yc, rfl⟩ := row_slice hy
        have hb3 := hb.trans (hb2.mono hb.size)
        clear hy hb2 hb
        generalize (namesOf h).length = nn at *
        go_wp2
        go_ret
        exact ⟨by rw [hE.out]; exact ret_bool (by simp; omega), hb3⟩
      · have t60 : decide ((h.length : Int) ≤ 60) = false := by simp; omega
        have hE : Hid (ok = false) := by unfold Hid; rw [HOK.out, decide_eq_false h60]; simp
        go_wp2
        go_ret
        exact ⟨by rw [hE.out]; rfl, hb⟩

end Go.Proofs.YtceipdmplnlogaaDoor
/- The walk of Next. -/
namespace Go.Proofs.YtceipdmplnlogaaDoor.WPlain
end Go.Proofs.YtceipdmplnlogaaDoor.WPlain
namespace Go.Proofs.YtceipdmplnlogaaDoor.QPlain
end Go.Proofs.YtceipdmplnlogaaDoor.QPlain
namespace Go.Proofs.YtceipdmplnlogaaDoor
open Go.RowKit WPlain QPlain
open Go.Maps (Keyed)

theorem below_drP (w : World) : Below w.heap.size w w.drew := (Below.refl _ _).drew
end Go.Proofs.YtceipdmplnlogaaDoor
