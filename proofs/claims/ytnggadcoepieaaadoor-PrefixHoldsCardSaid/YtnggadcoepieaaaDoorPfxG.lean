/- The walk of slices.symMergeCmpFunc at events, where the second run has one event. -/
import Derived.Test.YtnggadcoepieaaaDoorPfxF
namespace Go.Proofs.YtnggadcoepieaaaDoor.WPlain
end Go.Proofs.YtnggadcoepieaaaDoor.WPlain
namespace Go.Proofs.YtnggadcoepieaaaDoor.QPlain
end Go.Proofs.YtnggadcoepieaaaDoor.QPlain
namespace Go.Proofs.YtnggadcoepieaaaDoor.RPlain
end Go.Proofs.YtnggadcoepieaaaDoor.RPlain
namespace Go.Proofs.YtnggadcoepieaaaDoor
open Go.RowKit WPlain QPlain RPlain

set_option maxRecDepth 100000 in
set_option maxHeartbeats 4000000 in
theorem mergeR_any (B g cap n a m : Nat) (x u z : List Ev) (e0 : Ev) (w : World) (HR : Hid (Row B g cap n w (x ++ (u ++ ([e0] ++ z))))) (hx : x.length = a) (hb : a + u.length = m) (hu : u.length ≠ 1) (hs : Srt u) (hl : n ≤ 65536) (hB : B ≤ w.heap.size) :
    Calls Tryd.prog 48 #[.slice (some ⟨g, 0, none⟩) n cap, .int .i64 a, .int .i64 m, .int .i64 ((m : Int) + 1), ordV] w fun e w' =>
      e = .returned (.tuple #[]) ∧ Below B w w' ∧ ∃ y, Srt y ∧ Alk (u ++ [e0]) y ∧ Row B g cap n w' (x ++ (y ++ z)) := by
  have HB0 := Lib.hid (Below.refl B w)
  have mixed : Tryd.prog.follows .mixedOrders = true := by kernel_rfl
  have hmn : m + 1 ≤ n := by have := HR.out.1; simp at this; omega
  have ham : a ≤ m := by omega
  have HB := Lib.hid hB
  have HX := Lib.hid hx
  have HV := Lib.hid hb
  have HS := Lib.hid hs
  have hone : ((m : Int) - (a : Int) == 1) = false := by simp; omega
  have hone2 : (((m : Int) + 1) - (m : Int) == 1) = true := by simp; omega
  unfold ordV
  clear hB hx hb hs hu
  go_enter Tryd.func48, Tryd.ntmps48
  go_wp2
  go_loopw [14, 15] (fun p q wr => ∃ (i j : Nat) (v1 v2 v3 : List Ev), p = .int .i64 i ∧ q = .int .i64 j ∧ a ≤ i ∧ i ≤ j ∧ j ≤ m ∧ Hid (u = v1 ++ (v2 ++ v3) ∧ a + v1.length = i ∧ i + v2.length = j ∧ (∀ d ∈ v1, d.t ≤ e0.t) ∧ (∀ d ∈ v3, e0.t < d.t)) ∧ Hid (Row B g cap n wr (x ++ (u ++ ([e0] ++ z)))) ∧ Hid (Below B w wr)) (fun p q _ => (intOf q).toNat - (intOf p).toNat)
  case atStart => exact ⟨a, m, [], u, [], rfl, rfl, by omega, by omega, by omega, ⟨by simp, rfl, HV.out, (by intro d hd; simp at hd), (by intro d hd; simp at hd)⟩, HR, HB0⟩
  case round =>
    clear HR HB0
    obtain ⟨i, j, v1, v2, v3, rfl, rfl, hi, hij, hjb, HI, HR, HBw⟩ := hrel
    by_cases hlt : i < j
    · obtain ⟨k, hk, hik, hkj⟩ : ∃ k : Nat, ((i : Int) + (j : Int)) / 2 = (k : Int) ∧ i ≤ k ∧ k < j := ⟨(i + j) / 2, by omega, by omega, by omega⟩
      obtain ⟨va, d, vb, rfl, hva, -⟩ := split_at v2 (k := k - i) (by have := HI.out.2.2.1; omega)
      have r1 : ∀ m os, Row B g cap n (Go.Sort.grow (wr.drewN m) os) (x ++ (u ++ ([e0] ++ z))) := fun m os => HR.out.keep (below_grown wr m os)
      have la := fun q os => (show Row B g cap n (Go.Sort.grow (wr.drewN q) os) ((x ++ u) ++ e0 :: z) from by simpa using r1 q os).at (i := m) (by rw [List.length_append, HX.out]; exact HV.out.symm)
      have lk := fun m os => (show Row B g cap n (Go.Sort.grow (wr.drewN m) os) ((x ++ (v1 ++ va)) ++ d :: (vb ++ (v3 ++ ([e0] ++ z)))) from by have := r1 m os; rw [HI.out.1] at this; simpa using this).at (i := k) (by have := HI.out.2.1; have := HX.out; simp; omega)
      have hcg := fun m os => order_any e0.k e0.t e0.v e0.x d.k d.t d.v d.x (Go.Sort.grow (wr.drewN m) os)
      have hkn : (k : Int) < (n : Int) := by omega
      have han : (m : Int) < (n : Int) := by omega
      have HR3 := fun m os => Lib.hid (r1 m os)
      have HB3 : ∀ m os, Hid (Below B w (Go.Sort.grow (wr.drewN m) os)) := fun m os => HBw.out.trans ((below_grown wr m os).mono (Nat.le_trans HB.out HBw.out.size))
      have HRR := Lib.hid HR3
      have HBB := Lib.hid HB3
      clear r1 HR3 HB3
      have hS2 := srt_app.1 (by have := HS.out; rw [HI.out.1] at this; exact this)
      have hS3 := srt_app.1 hS2.2.1
      have hS4 := srt_app.1 hS3.1
      have HS4 : Hid ((∀ c ∈ va, c.t ≤ d.t) ∧ ∀ c ∈ vb, d.t ≤ c.t) := ⟨fun c hc => hS4.2.2 c hc d (List.mem_cons_self ..), (srt_cons.1 hS4.2.1).1⟩
      have HVA := Lib.hid hva
      clear hS2 hS3 hS4 hva
      by_cases hlv : e0.t < d.t
      · have HI2 : Hid (u = v1 ++ (va ++ (d :: (vb ++ v3))) ∧ a + v1.length = i ∧ i + va.length = k ∧ (∀ d ∈ v1, d.t ≤ e0.t) ∧ (∀ c ∈ d :: (vb ++ v3), e0.t < c.t)) := by
          have h := HI.out
          have h4 := HVA.out
          refine ⟨by rw [h.1]; simp, h.2.1, by omega, h.2.2.2.1, ?_⟩
          intro c hc
          rcases List.mem_cons.1 hc with rfl | hc
          · omega
          · rcases List.mem_append.1 hc with hc | hc
            · have := HS4.out.2 c hc; omega
            · exact h.2.2.2.2 c hc
        have ht : Lib.compareInt e0.t d.t < 0 := cmp_lt.2 hlv
        generalize Lib.compareInt e0.t d.t = cv at hcg ht
        clear hlv HI
        go_wp2_with fail
        go_quiet_grown (first | (go_at_call 30; refine Calls.grown_of (hcg _ _)))
        clear la lk hcg
        go_wp2
        go_roundw
        case rel => exact ⟨i, k, v1, va, d :: (vb ++ v3), rfl, rfl, hi, by omega, by omega, HI2, HRR.out _ _, HBB.out _ _⟩
        case measure => simp [intOf]; omega
      · have HI2 : Hid (u = (v1 ++ (va ++ [d])) ++ (vb ++ v3) ∧ a + (v1 ++ (va ++ [d])).length = k + 1 ∧ k + 1 + vb.length = j ∧ (∀ c ∈ v1 ++ (va ++ [d]), c.t ≤ e0.t) ∧ (∀ d ∈ v3, e0.t < d.t)) := by
          have h := HI.out
          have h4 := HVA.out
          refine ⟨by rw [h.1]; simp, by simp; omega, by have := h.2.2.1; simp at this; omega, ?_, h.2.2.2.2⟩
          intro c hc
          rcases List.mem_append.1 hc with hc | hc
          · exact h.2.2.2.1 c hc
          · rcases List.mem_append.1 hc with hc | hc
            · have := HS4.out.1 c hc; omega
            · rw [List.mem_singleton.1 hc]; omega
        have ht : ¬ Lib.compareInt e0.t d.t < 0 := fun h => hlv (cmp_lt.1 h)
        generalize Lib.compareInt e0.t d.t = cv at hcg ht
        have htd : decide (cv < 0) = false := by simp; omega
        clear hlv HI
        go_wp2_with fail
        go_quiet_grown (first | (go_at_call 30; refine Calls.grown_of (hcg _ _)))
        clear la lk hcg
        go_wp2
        go_roundw
        case rel => exact ⟨k + 1, j, v1 ++ (va ++ [d]), vb, v3, by go_num, rfl, by omega, by omega, by omega, HI2, HRR.out _ _, HBB.out _ _⟩
        case measure => simp [intOf]; omega
    · have hv2 : v2 = [] := List.length_eq_zero_iff.1 (by have := HI.out.2.2.1; omega)
      subst hv2
      have HI2 : Hid (u = v1 ++ v3 ∧ a + v1.length = i ∧ (∀ d ∈ v1, d.t ≤ e0.t) ∧ (∀ d ∈ v3, e0.t < d.t)) := by have h := HI.out; exact ⟨by simpa using h.1, h.2.1, h.2.2.2.1, h.2.2.2.2⟩
      have HM : Hid (i + v3.length = m) := by have h := HI2.out; have h2 := HV.out; rw [h.1] at h2; simp at h2; show _ = _; omega
      have HR2 : Hid (Row B g cap n wr (x ++ (v1 ++ (v3 ++ e0 :: ([] ++ z))))) := by have := HR.out; rw [HI2.out.1] at this; simpa [Hid] using this
      obtain ⟨w9, hw9⟩ : ∃ w9 : World, w9 = wr := ⟨wr, rfl⟩
      subst hw9
      clear HI HR
      go_wp2_with fail
      go_loopw [17] (fun q wr => ∃ (k : Nat) (p1 p2 : List Ev), q = .int .i64 k ∧ i ≤ k ∧ k ≤ m ∧ Hid (v3 = p1 ++ p2 ∧ i + p1.length = k) ∧ Hid (Row B g cap n wr (x ++ (v1 ++ (p1 ++ e0 :: (p2 ++ z))))) ∧ Hid (Below B w wr)) (fun q _ => (intOf q).toNat)
      case atStart => exact ⟨m, v3, [], rfl, by omega, by omega, ⟨by simp, HM.out⟩, HR2, HBw⟩
      case round =>
        clear HR2 HBw
        obtain ⟨k, p1, p2, rfl, hak, hki, HP, HR, HBw⟩ := hrel
        by_cases hlt2 : i < k
        · obtain ⟨k, rfl⟩ : ∃ kp, k = kp + 1 := ⟨k - 1, by omega⟩
          obtain ⟨p3, d, rfl⟩ : ∃ p3 d, p1 = p3 ++ [d] := by
            rcases List.eq_nil_or_concat p1 with h | ⟨p3, d, h⟩
            · have h1 := HP.out.2; rw [h] at h1; simp at h1; omega
            · exact ⟨p3, d, by rw [h, List.concat_eq_append]⟩
          have l1 : k = (x ++ (v1 ++ p3)).length := by have h1 := HP.out.2; have h2 := HX.out; have h3 := HI2.out.2.1; simp at *; omega
          have l2 : k + 1 = (x ++ (v1 ++ p3)).length + 1 + ([] : List Ev).length := by rw [← l1]; rfl
          have HR1 : Hid (Row B g cap n wr ((x ++ (v1 ++ p3)) ++ d :: ([] ++ e0 :: (p2 ++ z)))) := by simpa [Hid] using HR
          obtain ⟨c0, c1, c2, c3⟩ := HR1.out.at (i := k) l1
          obtain ⟨d0, d1, d2, d3⟩ := (show Row B g cap n wr (((x ++ (v1 ++ p3)) ++ [d]) ++ e0 :: (p2 ++ z)) from by simpa using HR1.out).at (i := k + 1) (by rw [l2]; simp; omega)
          have f0 : ∀ i, wr.frozen? ⟨g, i, none⟩ = false := fun i => by have := HR1.out.2.frozenAt i; simpa using this
          have HSW := Lib.hid (HR1.out.swap' (i := k) (j := k + 1) l1 l2)
          have HR4 : Hid (Row B g cap n (putE (putE wr g (k + 1) d) g k e0).drew (x ++ (v1 ++ (p3 ++ e0 :: ((d :: p2) ++ z))))) := by
            have := HSW.out.1.keep ((Below.refl _ _).drew)
            simpa [Hid] using this
          have HB4 : Hid (Below B w (putE (putE wr g (k + 1) d) g k e0).drew) := (HBw.out.trans HSW.out.2).drew
          have HP4 : Hid (v3 = p3 ++ (d :: p2) ∧ i + p3.length = k) := ⟨by rw [HP.out.1]; simp, by have := HP.out.2; simp at this; omega⟩
          have jz : (k : Int) + 1 < (n : Int) := by omega
          have jz1 : (k : Int) < (n : Int) := by omega
          have p0 : (0 : Int) ≤ (k : Int) + 1 := by omega
          have e0 : ((k : Int) + 1).toNat = k + 1 := by omega
          have hlt3 : (i : Int) < (k : Int) + 1 := by omega
          have hwp : IntKind.i64.wrap (k : Int) = (k : Int) := by rw [IntKind.wrap_i64]; omega
          clear l1 l2
          go_wp2_with fail
          go_big_region
          clear f0 c0 c1 c2 c3 d0 d1 d2 d3
          go_wp2
          go_roundw
          case rel => exact ⟨k, p3, d :: p2, by first | rfl | go_num, by omega, by omega, HP4, HR4, HB4⟩
          case measure => simp [intOf]
        · have hp1 : p1 = [] := by
            have h1 := HP.out.2; exact List.length_eq_zero_iff.1 (by omega)
          have hlt3 : ¬ (i : Int) < (k : Int) := by omega
          go_wp2
          (try simp only [Exit.inBlock, Exit.then])
          refine bodyPost_ret (results_none rfl _ _ _) rfl ?_
          have hv1 : v3 = p2 := by rw [HP.out.1, hp1, List.nil_append]
          have h5 := HI2.out
          have hd := one_right (e := e0) (by have := HS.out; rw [h5.1] at this; exact this) h5.2.2.1 h5.2.2.2
          refine ⟨rfl, HBw.out, v1 ++ e0 :: v3, hd.1, by rw [h5.1]; exact hd.2, ?_⟩
          have h6 := HR.out
          rw [hp1, ← hv1] at h6
          simpa using h6
end Go.Proofs.YtnggadcoepieaaaDoor
