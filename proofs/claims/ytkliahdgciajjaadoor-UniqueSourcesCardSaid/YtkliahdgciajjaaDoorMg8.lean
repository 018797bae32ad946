/- Merged: TxtT, PrpG. -/
import Derived.Test.YtkliahdgciajjaaDoorTxtS
import Derived.Test.YtkliahdgciajjaaDoorMg7
import Derived.Test.YtkliahdgciajjaaDoorMg3
import Derived.Test.YtkliahdgciajjaaDoorMg2
import Derived.Deep.RegionWith
import Derived.Lib.Join
import Derived.RegionTactic
import Derived.Sort.OwnSortedInts
import Derived.Deep.RegionHeld
import Derived.Deep.DeepMust
import Derived.Deep.Cut
import Derived.Deep.DeepCutAuto
import Derived.Maps.RangeWalk
/- The walks of the reference's Right and Print. -/
namespace Go.Proofs.YtkliahdgciajjaaDoor.WPlain
end Go.Proofs.YtkliahdgciajjaaDoor.WPlain
namespace Go.Proofs.YtkliahdgciajjaaDoor
open Go.RowKit WPlain

set_option maxHeartbeats 1000000 in
theorem refRight_any (v : Value) (h : List Ev) (w : World) (hv : Evs w v h) (hl : h.length ≤ 65536) :
    Calls Tryd.prog 15 #[v] w fun e w' => e = .returned (.bool (right h)) ∧ Below w.heap.size w w' := by
  have HV := Lib.hid hv
  obtain ⟨a, c, rfl⟩ := hv.len
  clear hv
  have hb0 := Below.refl w.heap.size w
  unfold right
  obtain ⟨ok, hok⟩ : ∃ ok, ok = (decide (h.length ≤ 60) && h.all evOk && decide ((namesOf h).length ≤ 6)) := ⟨_, rfl⟩
  rw [← hok]
  have HOK := Lib.hid hok
  clear hok
  go_enter Tryd.func15, Tryd.ntmps15
  go_wp2_with fail
  go_loopw [7] (fun x wr => ∃ k : Nat, k ≤ h.length ∧ x = .int .i64 k ∧ Hid ((h.take k).all evOk = true) ∧ Below w.heap.size w wr) (fun x _ => h.length - (intOf x).toNat)
  case atStart => exact ⟨0, by omega, rfl, rfl, hb0⟩
  case round =>
    clear hb0
    obtain ⟨k, hk, rfl, HA, hb⟩ := hrel
    by_cases hlt : k < h.length
    · have hv2 := HV.out.below hb (Nat.le_refl _)
      have hbs := hb.size
      rcases hv2 with ⟨e0, _⟩ | ⟨l0, b, o, c', he, hbl, hc⟩
      · rw [e0] at hlt; simp at hlt
      · obtain ⟨rfl, rfl⟩ : a = some ⟨b, o, none⟩ ∧ c = c' := by simpa using he
        clear he
        obtain ⟨c0, c1, c2, c3⟩ := hc k hlt
        clear hc
        have hsn : h.take (k + 1) = h.take k ++ [h[k]] := List.take_succ_eq_append_getElem hlt
        have hmem : h[k] ∈ h := List.getElem_mem _
        have HMB := Lib.hid (rright_any h[k] (wr.alloc (.cells #[.int .i64 h[k].k, .int .i64 h[k].t, .int .i64 h[k].v, .int .i64 h[k].x] 53)))
        cases hev : evOk h[k] with
        | true =>
          have HEV := Lib.hid hev
          have HA2 : Hid ((h.take (k + 1)).all evOk = true) := by unfold Hid; rw [hsn, List.all_append, HA.out]; simp [hev]
          clear hev hsn hmem
          generalize h[k] = ev at *
          go_wp2_with fail
          refine HMB.out.mono ?_
          rintro e w2 ⟨rfl, hb2⟩
          rw [HEV.out]
          have hb3 := (hb.alloc hb.size (.cells #[.int .i64 ev.k, .int .i64 ev.t, .int .i64 ev.v, .int .i64 ev.x] 53)).trans (hb2.mono (by simp; omega))
          clear hb2 hb
          go_wp2
          go_roundw
          case rel => exact ⟨k + 1, by omega, by go_num, HA2, hb3⟩
          case measure => simp [intOf]; omega
        | false =>
          have HEV := Lib.hid hev
          have HF : Hid (ok = false) := by
            unfold Hid
            rw [HOK.out]
            have : h.all evOk = false := by
              cases hq : h.all evOk with
              | false => rfl
              | true => rw [List.all_eq_true] at hq; rw [hq _ hmem] at hev; simp at hev
            rw [this]; simp
          clear hev hsn hmem
          generalize h[k] = ev at *
          go_wp2_with fail
          refine HMB.out.mono ?_
          rintro e w2 ⟨rfl, hb2⟩
          rw [HEV.out]
          have hb3 := (hb.alloc hb.size (.cells #[.int .i64 ev.k, .int .i64 ev.t, .int .i64 ev.v, .int .i64 ev.x] 53)).trans (hb2.mono (by simp; omega))
          clear hb2 hb
          go_wp2
          go_ret
          exact ⟨by rw [HF.out]; rfl, hb3⟩
    · obtain rfl : k = h.length := by omega
      rw [List.take_length] at HA
      by_cases h60 : h.length ≤ 60
      · have t60 : ((h.length : Int) ≤ 60) := by omega
        have hE : Hid (ok = decide ((namesOf h).length ≤ 6)) := by unfold Hid; rw [HOK.out, HA.out, decide_eq_true h60]; simp
        have hv2 := HV.out.below hb (Nat.le_refl _)
        have HV2 := Lib.hid hv2
        clear hv2
        have hnl := namesOf_len h
        go_wp2_with fail
        refine (refNames_any _ h _ HV2.out hl).mono ?_
        rintro e w2 ⟨v', rfl, hy, hb2⟩
        obtain ⟨ya, yc, rfl⟩ := row_slice hy
        have hb3 := hb.trans (hb2.mono hb.size)
        clear hy hb2 hb
        generalize (namesOf h).length = nn at *
        go_wp2
        go_ret
        exact ⟨by rw [hE.out]; exact ret_bool (by simp; omega), hb3⟩
      · have t60 : decide ((h.length : Int) ≤ 60) = false := by simp; omega
        have hE : Hid (ok = false) := by unfold Hid; rw [HOK.out, decide_eq_false h60]; simp
        go_wp2
        go_ret
        exact ⟨by rw [hE.out]; rfl, hb⟩

end Go.Proofs.YtkliahdgciajjaaDoor
/- The walk of Next. -/
namespace Go.Proofs.YtkliahdgciajjaaDoor.WPlain
end Go.Proofs.YtkliahdgciajjaaDoor.WPlain
namespace Go.Proofs.YtkliahdgciajjaaDoor.QPlain
end Go.Proofs.YtkliahdgciajjaaDoor.QPlain
namespace Go.Proofs.YtkliahdgciajjaaDoor
open Go.RowKit WPlain QPlain
open Go.Maps (Keyed)

theorem below_drP (w : World) : Below w.heap.size w w.drew := (Below.refl _ _).drew
end Go.Proofs.YtkliahdgciajjaaDoor
