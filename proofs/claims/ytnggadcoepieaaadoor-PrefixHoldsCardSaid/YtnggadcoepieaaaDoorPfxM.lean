/- The walks of the reference's Alike and Serial, and of package prefix's Cut and Serial. -/
import Derived.Test.YtnggadcoepieaaaDoorPfxL
import Derived.Test.YtnggadcoepieaaaDoorSerP
import Derived.Test.YtnggadcoepieaaaDoorTabF
import Derived.Test.YtnggadcoepieaaaDoorMg11
import Derived.Test.YtnggadcoepieaaaDoorTxtS
namespace Go.Proofs.YtnggadcoepieaaaDoor.WPlain
end Go.Proofs.YtnggadcoepieaaaDoor.WPlain
namespace Go.Proofs.YtnggadcoepieaaaDoor.QPlain
end Go.Proofs.YtnggadcoepieaaaDoor.QPlain
namespace Go.Proofs.YtnggadcoepieaaaDoor.RPlain
end Go.Proofs.YtnggadcoepieaaaDoor.RPlain
namespace Go.Proofs.YtnggadcoepieaaaDoor
open Go.RowKit WPlain QPlain RPlain

theorem serP_iff (h : List Ev) : serP h ↔ ∀ i k, i < k → k < h.length → (h[k]!).t = (h[i]!).t → (h[k - 1]!).t = (h[i]!).t := by
  constructor
  · intro hs i k hik hk he
    have := hs i k hik hk (by rwa [getElem!_pos h k hk, getElem!_pos h i (by omega)] at he)
    rwa [getElem!_pos h (k - 1) (by omega), getElem!_pos h i (by omega)]
  · intro hs i k hik hk he
    have := hs i k hik hk (by rwa [getElem!_pos h k hk, getElem!_pos h i (by omega)])
    rwa [getElem!_pos h (k - 1) (by omega), getElem!_pos h i (by omega)] at this
set_option maxRecDepth 100000 in
set_option maxHeartbeats 2000000 in
theorem refSerial_any (v : Value) (h : List Ev) (w : World) (hv : Evs w v h) (hl : h.length ≤ 65536) :
    Calls Tryd.prog 15 #[v] w fun e w' => ∃ r : Bool, e = .returned (.bool r) ∧ (r = true ↔ serP h) ∧ Below w.heap.size w w' := by
  have HB0 := Lib.hid (Below.refl w.heap.size w)
  have HV := Lib.hid hv
  obtain ⟨a, c, rfl⟩ := hv.len
  clear hv
  go_enter Tryd.func15, Tryd.ntmps15
  go_wp2_with fail
  go_loopw [8] (fun x wr => ∃ i : Nat, x = .int .i64 i ∧ i ≤ h.length ∧ Hid (∀ i', i' < i → ∀ k, i' < k → k < h.length → (h[k]!).t = (h[i']!).t → (h[k - 1]!).t = (h[i']!).t) ∧ Hid (Below w.heap.size w wr)) (fun x _ => h.length - (intOf x).toNat)
  case atStart => exact ⟨0, rfl, by omega, (by intro i' hi; omega), HB0⟩
  case round =>
    clear HB0
    obtain ⟨i, rfl, hil, HI, HB⟩ := hrel
    by_cases hlt : i < h.length
    · have hv2 := HV.out.below HB.out (Nat.le_refl _)
      rcases hv2 with ⟨e0, _⟩ | ⟨l0, b, o, c', he, hbl, hcs⟩
      · rw [e0] at hlt; simp at hlt
      · obtain ⟨rfl, rfl⟩ : a = some ⟨b, o, none⟩ ∧ c = c' := by simpa using he
        clear he
        obtain ⟨c0, c1, c2, c3⟩ := hcs i hlt
        clear hcs
        obtain ⟨ev, hev⟩ : ∃ ev, h[i] = ev := ⟨_, rfl⟩
        rw [hev] at c0 c1 c2 c3
        have HEV : Hid (h[i]! = ev) := by show _ = _; rw [getElem!_pos h i hlt]; exact hev
        have HE := Lib.hid (At.new wr #[.int .i64 ev.k, .int .i64 ev.t, .int .i64 ev.v, .int .i64 ev.x] 38)
        have HBn := Lib.hid (HB.out.alloc HB.out.size (.cells #[.int .i64 ev.k, .int .i64 ev.t, .int .i64 ev.v, .int .i64 ev.x] 38))
        clear hev HB
        obtain ⟨w9, hw9⟩ : ∃ w9 : World, w9 = wr := ⟨wr, rfl⟩
        subst hw9
        go_wp2_with fail
        go_loopw [5] (fun x w2 => ∃ k : Nat, x = .int .i64 k ∧ i < k ∧ k ≤ h.length ∧ Hid (∀ k', i < k' → k' < k → (h[k']!).t = ev.t → (h[k' - 1]!).t = ev.t) ∧ Hid (At w2 w9.heap.size #[.int .i64 ev.k, .int .i64 ev.t, .int .i64 ev.v, .int .i64 ev.x] 38) ∧ Hid (Below w.heap.size w w2)) (fun x _ => h.length - (intOf x).toNat)
        case atStart => exact ⟨i + 1, by go_num, by omega, by omega, (by intro k' h1 h2; omega), HE, HBn⟩
        case round =>
          clear HE HBn c0 c1 c2 c3
          obtain ⟨k, rfl, hik, hkl, HK, HE, HB2⟩ := hrel
          by_cases hk : k < h.length
          · obtain ⟨kp, rfl⟩ : ∃ kp, k = kp + 1 := ⟨k - 1, by omega⟩
            have hv3 := HV.out.below HB2.out (Nat.le_refl _)
            rcases hv3 with ⟨e0, _⟩ | ⟨l1, b', o', c', he, hbl2, hcs⟩
            · rw [e0] at hlt; simp at hlt
            · obtain ⟨⟨rfl, rfl⟩, rfl⟩ : (b = b' ∧ o = o') ∧ c = c' := by
                simp only [Value.slice.injEq, Option.some.injEq, Addr.mk.injEq, and_true, true_and] at he
                exact ⟨⟨he.1.1, he.1.2⟩, he.2⟩
              clear he
              have p1 := (hcs (kp + 1) hk).2.1
              have p0 := (hcs kp (by omega)).2.1
              clear hcs
              have HG1 : Hid (h[kp + 1]! = h[kp + 1]) := getElem!_pos h (kp + 1) hk
              have HG0 : Hid (h[kp]! = h[kp]'(by omega)) := getElem!_pos h kp (by omega)
              generalize h[kp + 1] = ek at *
              generalize (h[kp]'(by omega)) = ep at *
              have e1 := HE.out.cell (i := 1) (v := .int .i64 ev.t) rfl
              have qk : (kp : Int) < (h.length : Int) := by omega
              have qk1 : (kp : Int) + 1 < (h.length : Int) := by omega
              have qz : ((kp : Int) + 1).toNat = kp + 1 := by omega
              have q0 : (0 : Int) ≤ (kp : Int) + 1 := by omega
              have hwp : IntKind.i64.wrap (kp : Int) = (kp : Int) := by rw [IntKind.wrap_i64]; omega
              have HE2 : Hid (At wr.drew w9.heap.size #[.int .i64 ev.k, .int .i64 ev.t, .int .i64 ev.v, .int .i64 ev.x] 38) := HE.out.drew
              have HB3 : Hid (Below w.heap.size w wr.drew) := HB2.out.drew
              clear HE
              by_cases g1 : ek.t = ev.t
              · have t1 : (ek.t == ev.t) = true := by simp [g1]
                by_cases g2 : ep.t = ev.t
                · have t2 : (ep.t != ev.t) = false := by simp [g2]
                  have HK2 : Hid (∀ k', i < k' → k' < kp + 1 + 1 → (h[k']!).t = ev.t → (h[k' - 1]!).t = ev.t) := by
                    intro k' h1 h2 h3
                    by_cases h4 : k' = kp + 1
                    · subst h4; rw [Nat.add_sub_cancel, HG0.out]; exact g2
                    · exact HK.out k' h1 (by omega) h3
                  clear g1 g2
                  go_wp2_with fail
                  go_big_region
                  all_goals go_wp2
                  go_roundw
                  case rel => exact ⟨kp + 1 + 1, by go_num, by omega, by omega, HK2, HE2, HB3⟩
                  case measure => simp [intOf]; omega
                · have t2 : (ep.t != ev.t) = true := by simp [g2]
                  have HNO : Hid (¬ serP h) := by
                    intro hs
                    have := (serP_iff h).1 hs i (kp + 1) (by omega) hk (by rw [HG1.out, HEV.out]; exact g1)
                    rw [Nat.add_sub_cancel, HG0.out, HEV.out] at this
                    exact g2 this
                  clear g1 g2
                  go_wp2_with fail
                  go_big_region
                  all_goals go_wp2
                  refine bodyPost_ret (v := .bool false) (by simp [results, Tryd.results15, go_sem]) rfl ⟨false, rfl, ⟨by simp, fun hs => absurd hs HNO.out⟩, HB3.out⟩
              · have t1 : (ek.t == ev.t) = false := by simp [g1]
                have HK2 : Hid (∀ k', i < k' → k' < kp + 1 + 1 → (h[k']!).t = ev.t → (h[k' - 1]!).t = ev.t) := by
                  intro k' h1 h2 h3
                  by_cases h4 : k' = kp + 1
                  · subst h4; rw [HG1.out] at h3; exact absurd h3 g1
                  · exact HK.out k' h1 (by omega) h3
                clear g1
                go_wp2_with fail
                go_big_region
                all_goals go_wp2
                go_roundw
                case rel => exact ⟨kp + 1 + 1, by go_num, by omega, by omega, HK2, HE2, HB3⟩
                case measure => simp [intOf]; omega
          · have HI2 : Hid (∀ i', i' < i + 1 → ∀ k, i' < k → k < h.length → (h[k]!).t = (h[i']!).t → (h[k - 1]!).t = (h[i']!).t) := by
              intro i' hi' k' h1 h2 h3
              by_cases h4 : i' = i
              · subst h4
                rw [HEV.out] at h3 ⊢
                exact HK.out k' h1 (by omega) h3
              · exact HI.out i' (by omega) k' h1 h2 h3
            go_wp2
            go_roundw
            case rel => exact ⟨i + 1, by go_num, by omega, HI2, HB2⟩
            case measure => simp [intOf]; omega
    · have HS : Hid (serP h) := (serP_iff h).2 fun i' k h1 h2 h3 => HI.out i' (by omega) k h1 h2 h3
      go_wp2
      refine bodyPost_ret (v := .bool true) (by simp [results, Tryd.results15, go_sem]) rfl ⟨true, rfl, ⟨fun _ => HS.out, fun _ => rfl⟩, HB.out⟩
end Go.Proofs.YtnggadcoepieaaaDoor
