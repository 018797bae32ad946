/- The walks of the reference's Own, Behind and Legal. -/
import Derived.Test.YtceipdmplnlogaaDoorLegH
import Derived.Test.YtceipdmplnlogaaDoorLegE
import Derived.Test.YtceipdmplnlogaaDoorMg13
import Derived.Deep.RegionHeldLaw
namespace Go.Proofs.YtceipdmplnlogaaDoor.WPlain
end Go.Proofs.YtceipdmplnlogaaDoor.WPlain
namespace Go.Proofs.YtceipdmplnlogaaDoor.QPlain
end Go.Proofs.YtceipdmplnlogaaDoor.QPlain
namespace Go.Proofs.YtceipdmplnlogaaDoor.RPlain
end Go.Proofs.YtceipdmplnlogaaDoor.RPlain
namespace Go.Proofs.YtceipdmplnlogaaDoor
open Go.RowKit WPlain QPlain RPlain

set_option maxRecDepth 100000 in
set_option maxHeartbeats 2000000 in
theorem refOwn_any (uo u : Value) (ops L : List Rwo) (w : World) (ho : Opv w uo ops) (hm : Mm w u L) (hl : L.length + ops.length ≤ 60000) :
    Calls Tryd.prog 18 #[uo, .agg #[u]] w fun e w' => e = .returned (.int .i64 ((ownS (memL L) ops : Nat) : Int)) ∧ Below w.heap.size w w' := by
  obtain ⟨a, c, rfl, -⟩ := hm.1.len
  obtain ⟨oa, oc, rfl, hoc⟩ := ho.len
  have HO := Lib.hid ho
  have HM := Lib.hid hm
  have HA0 := Lib.hid (At.new w #[.slice a L.length c] 40)
  have HB0 := Lib.hid ((Below.refl w.heap.size w).alloc (Nat.le_refl _) (.cells #[.slice a L.length c] 40))
  have HIS := Lib.hid (fun (k : Nat) (hk : k ≤ ops.length) h1 h2 => own_is (M := memL L) (ops := ops) (k := k) hk h1 h2)
  have HRD := Lib.hid (fun (k : Nat) (hk : k < ops.length) => read_iff (M := memL L) hk)
  have HWI := Lib.hid (fun (k : Nat) (hk : k ≤ ops.length) (W : World) (hW : Below w.heap.size w W) => refWith_any (.slice a L.length c) (.slice oa k oc) L (ops.take k) W (hm.below hW (Nat.le_refl _)) ((ho.below hW (Nat.le_refl _)).cut k hk) (by rw [List.length_take]; omega))
  have HGE := Lib.hid (fun (k : Nat) (u' : Value) (v : Int) (W : World) (hu : Mm W u' (withL L (ops.take k))) => (show Calls Tryd.prog 34 #[.agg #[u'], .int .i64 v] W fun e w' => e = .returned (.int .i64 (withM (memL L) (ops.take k) v)) ∧ Below W.heap.size W w' by
    have h1 := refGet_any u' (withL L (ops.take k)) v W hu.1 (by have h1 := withL_len (ops.take k) L; have h2 := List.length_take_le' k ops; omega)
    rwa [memL_with] at h1))
  generalize ownS (memL L) ops = R at *
  clear ho hm
  go_enter Tryd.func18, Tryd.ntmps18
  go_wp2_with fail
  go_loopw [9] (fun x wr => ∃ k : Nat, k ≤ ops.length ∧ x = .int .i64 k ∧ Hid (∀ j, j < k → readOk (memL L) ops j) ∧ Hid (At wr w.heap.size #[.slice a L.length c] 40) ∧ Hid (Below w.heap.size w wr)) (fun x _ => ops.length - (intOf x).toNat)
  case atStart => exact ⟨0, by omega, rfl, fun j hj => absurd hj (Nat.not_lt_zero _), HA0, HB0⟩
  case round =>
    clear HA0 HB0
    obtain ⟨k, hk, rfl, HR, HA, HB⟩ := hrel
    by_cases hlt : k < ops.length
    · obtain ⟨b, o, rfl, hbl, c0, c1, c2⟩ := Opv.at (HO.out.below HB.out (Nat.le_refl _)) k hlt
      have HRK := HRD.out k hlt
      have HWI2 := Lib.hid (HWI.out k hk)
      have HGE2 := Lib.hid (HGE.out k)
      generalize hO : ops[k] = O at *
      generalize withL L (ops.take k) = K at *
      generalize withM (memL L) (ops.take k) = MM at *
      obtain ⟨ow, ov, ox⟩ := O
      dsimp only at *
      have HB2 := Lib.hid (HB.out.alloc HB.out.size (.cells #[.bool ow, .int .i64 ov, .int .i64 ox] 47))
      have HA2 := Lib.hid (HA.out.alloc (.cells #[.bool ow, .int .i64 ov, .int .i64 ox] 47))
      have HO2 := Lib.hid (At.new wr #[.bool ow, .int .i64 ov, .int .i64 ox] 47)
      clear hO HA HB
      have k0 : (k : Int) ≤ (oc : Int) := by omega
      cases ow with
      | true =>
        have hrk := HRK.2 (.inl rfl)
        have HR2 : Hid (∀ j, j < k + 1 → readOk (memL L) ops j) := fun j hj => if h : j < k then HR.out j h else by rw [show j = k from by omega]; exact hrk
        clear hrk HRK HR
        go_upto_region 4 with fail
        generalize wr.alloc (.cells #[.bool true, .int .i64 ov, .int .i64 ox] 47) = w2 at *
        generalize wr.heap.size = N2 at *
        have e0 := HO2.out.cell (i := 0) (v := .bool true) rfl
        go_quiet (fail)
        have HB3 : Hid (Below w.heap.size w (w2.drewN nq)) := below_drN HB2.out nq
        have HA3 : Hid (At (w2.drewN nq) w.heap.size #[.slice a L.length c] 40) := HA2.out
        go_wp2
        go_roundw
        case rel => exact ⟨k + 1, by omega, by go_num, HR2.out, HA3.out, HB3.out⟩
        case measure => simp [intOf]; omega
      | false =>
        go_upto_region 4 with fail
        generalize wr.alloc (.cells #[.bool false, .int .i64 ov, .int .i64 ox] 47) = w2 at *
        generalize wr.heap.size = N2 at *
        have hN2 := HO2.out.lt
        have hNw := HA2.out.lt
        have HSC : Hid (∀ W, Below w2.heap.size w2 W → (W.cell? ⟨N2, 0, none⟩ = some (.bool false) ∧ W.cell? ⟨N2, 1, none⟩ = some (.int .i64 ov) ∧ W.cell? ⟨N2, 2, none⟩ = some (.int .i64 ox)) ∧ W.cell? ⟨w.heap.size, 0, none⟩ = some (.slice a L.length c)) := fun W hW =>
          ⟨⟨(HO2.out.below hW hN2).cell (i := 0) rfl, (HO2.out.below hW hN2).cell (i := 1) rfl, (HO2.out.below hW hN2).cell (i := 2) rfl⟩, (HA2.out.below hW hNw).cell (i := 0) rfl⟩
        have HWB : Hid (∀ W, Below w2.heap.size w2 W → Below w.heap.size w W) := fun W hW => HB2.out.trans (hW.mono HB2.out.size)
        have HWA : Hid (∀ W, Below w2.heap.size w2 W → At W w.heap.size #[.slice a L.length c] 40) := fun W hW => HA2.out.below hW hNw
        clear HO2 HA2 HB2 hN2 hNw
        by_cases hox : MM ov = ox
        · have hrk := HRK.2 (.inr hox)
          have HR2 : Hid (∀ j, j < k + 1 → readOk (memL L) ops j) := fun j hj => if h : j < k then HR.out j h else by rw [show j = k from by omega]; exact hrk
          have hne : (MM ov != ox) = false := by simp [hox]
          clear hrk HRK HR
          first
          | go_must (go_region_held_law (fun w' => (w'.cell? ⟨N2, 0, none⟩ = some (.bool false) ∧ w'.cell? ⟨N2, 1, none⟩ = some (.int .i64 ov) ∧ w'.cell? ⟨N2, 2, none⟩ = some (.int .i64 ox)) ∧ w'.cell? ⟨w.heap.size, 0, none⟩ = some (.slice a L.length c))
              (first | exact HSC.out _ hb6 | exact HSC.out _ hb5 | exact HSC.out _ (below_drP _))
              (first
                | (go_at_call 36; refine (HWI2.out _ (HWB.out _ (below_drP _))).mono ?_; rintro e w5 ⟨u5, rfl, hm5, hb⟩; have hb5 := below_stpP hb)
                | (go_at_call 34; refine (HGE2.out u5 ov _ hm5).mono ?_; rintro e w6 ⟨rfl, hb⟩; have hb6 := hb5.trans (hb.mono hb5.size))))
          | fail
          all_goals
            have HB3 : Hid (Below w.heap.size w w6) := HWB.out _ hb6
            have HA3 := Lib.hid (HWA.out _ hb6)
            clear hb5 hb6 hm5
            go_wp2
            go_roundw
            case rel => exact ⟨k + 1, by omega, by go_num, HR2.out, HA3.out, HB3.out⟩
            case measure => simp [intOf]; omega
        · have hres := HIS.out k hk HR.out (fun _ hc => by
            rcases HRK.1 hc with h | h
            · cases h
            · exact hox h)
          have hne : (MM ov != ox) = true := by simp [hox]
          subst hres
          clear HRK HR hox
          first
          | go_must (go_region_held_law (fun w' => (w'.cell? ⟨N2, 0, none⟩ = some (.bool false) ∧ w'.cell? ⟨N2, 1, none⟩ = some (.int .i64 ov) ∧ w'.cell? ⟨N2, 2, none⟩ = some (.int .i64 ox)) ∧ w'.cell? ⟨w.heap.size, 0, none⟩ = some (.slice a L.length c))
              (first | exact HSC.out _ hb6 | exact HSC.out _ hb5 | exact HSC.out _ (below_drP _))
              (first
                | (go_at_call 36; refine (HWI2.out _ (HWB.out _ (below_drP _))).mono ?_; rintro e w5 ⟨u5, rfl, hm5, hb⟩; have hb5 := below_stpP hb)
                | (go_at_call 34; refine (HGE2.out u5 ov _ hm5).mono ?_; rintro e w6 ⟨rfl, hb⟩; have hb6 := hb5.trans (hb.mono hb5.size))))
          | fail
          all_goals
            have HB3 : Hid (Below w.heap.size w w6) := HWB.out _ hb6
            clear hb5 hb6 hm5
            go_wp2
            go_ret
            exact ⟨rfl, HB3.out⟩
    · obtain rfl : k = ops.length := by omega
      have hres := HIS.out ops.length (Nat.le_refl _) HR.out (fun h => absurd h (Nat.lt_irrefl _))
      subst hres
      go_wp2
      go_ret
      exact ⟨rfl, HB.out⟩
end Go.Proofs.YtceipdmplnlogaaDoor
