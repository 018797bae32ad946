/- The walks of slices.symMergeCmpFunc at events, where one of the two runs has one event. -/
import Derived.Test.YtnggadcoepieaaaDoorMg12
import Derived.Deep.Cut
import Derived.Deep.DeepCutAuto
namespace Go.Proofs.YtnggadcoepieaaaDoor.WPlain
end Go.Proofs.YtnggadcoepieaaaDoor.WPlain
namespace Go.Proofs.YtnggadcoepieaaaDoor.QPlain
end Go.Proofs.YtnggadcoepieaaaDoor.QPlain
namespace Go.Proofs.YtnggadcoepieaaaDoor.RPlain
end Go.Proofs.YtnggadcoepieaaaDoor.RPlain
namespace Go.Proofs.YtnggadcoepieaaaDoor
open Go.RowKit WPlain QPlain RPlain

theorem split_at (l : List Ev) {k : Nat} (h : k < l.length) : ∃ p e r, l = p ++ e :: r ∧ p.length = k ∧ l[k]! = e := by
  refine ⟨l.take k, l[k], l.drop (k + 1), ?_, by rw [List.length_take]; omega, by rw [getElem!_pos l k h]⟩
  rw [← List.drop_eq_getElem_cons h, List.take_append_drop]
theorem one_left {e : Ev} {v1 v2 : List Ev} (hv : Srt (v1 ++ v2)) (h1 : ∀ d ∈ v1, d.t < e.t) (h2 : ∀ d ∈ v2, e.t ≤ d.t) : Srt (v1 ++ e :: v2) ∧ Alk ([e] ++ (v1 ++ v2)) (v1 ++ e :: v2) := by
  obtain ⟨s1, s2, s3⟩ := srt_app.1 hv
  refine ⟨srt_app.2 ⟨s1, srt_cons.2 ⟨h2, s2⟩, ?_⟩, ?_⟩
  · intro c hc d hd
    rcases List.mem_cons.1 hd with rfl | hd
    · exact Int.le_of_lt (h1 c hc)
    · exact s3 c hc d hd
  · have h4 : Alk ([e] ++ v1) (v1 ++ [e]) := alk_swap fun c hc d hd => by rw [List.mem_singleton.1 hc]; have := h1 d hd; omega
    have := h4.app (Alk.refl v2)
    simpa using this
theorem one_right {e : Ev} {u1 u2 : List Ev} (hv : Srt (u1 ++ u2)) (h1 : ∀ d ∈ u1, d.t ≤ e.t) (h2 : ∀ d ∈ u2, e.t < d.t) : Srt (u1 ++ e :: u2) ∧ Alk ((u1 ++ u2) ++ [e]) (u1 ++ e :: u2) := by
  obtain ⟨s1, s2, s3⟩ := srt_app.1 hv
  refine ⟨srt_app.2 ⟨s1, srt_cons.2 ⟨fun d hd => Int.le_of_lt (h2 d hd), s2⟩, ?_⟩, ?_⟩
  · intro c hc d hd
    rcases List.mem_cons.1 hd with rfl | hd
    · exact h1 c hc
    · exact s3 c hc d hd
  · have h4 : Alk (u2 ++ [e]) ([e] ++ u2) := alk_swap fun c hc d hd => by rw [List.mem_singleton.1 hd]; have := h2 c hc; omega
    have := (Alk.refl u1).app h4
    simpa using this
set_option maxRecDepth 100000 in
set_option maxHeartbeats 4000000 in
theorem mergeL_any (B g cap n a b : Nat) (x v z : List Ev) (e0 : Ev) (w : World) (HR : Hid (Row B g cap n w (x ++ ([e0] ++ (v ++ z))))) (hx : x.length = a) (hb : a + 1 + v.length = b) (hs : Srt v) (hl : n ≤ 65536) (hB : B ≤ w.heap.size) :
    Calls Tryd.prog 48 #[.slice (some ⟨g, 0, none⟩) n cap, .int .i64 a, .int .i64 ((a : Int) + 1), .int .i64 b, ordV] w fun e w' =>
      e = .returned (.tuple #[]) ∧ Below B w w' ∧ ∃ y, Srt y ∧ Alk ([e0] ++ v) y ∧ Row B g cap n w' (x ++ (y ++ z)) := by
  have HB0 := Lib.hid (Below.refl B w)
  have mixed : Tryd.prog.follows .mixedOrders = true := by kernel_rfl
  have hbn : b ≤ n := by have := HR.out.1; simp at this; omega
  have hab : a + 1 ≤ b := by omega
  have HB := Lib.hid hB
  have HX := Lib.hid hx
  have HV := Lib.hid hb
  have HS := Lib.hid hs
  have hone : (((a : Int) + 1) - (a : Int) == 1) = true := by simp; omega
  unfold ordV
  clear hB hx hb hs
  go_enter Tryd.func48, Tryd.ntmps48
  go_wp2
  go_loopw [10, 11] (fun p q wr => ∃ (i j : Nat) (v1 v2 v3 : List Ev), p = .int .i64 i ∧ q = .int .i64 j ∧ a + 1 ≤ i ∧ i ≤ j ∧ j ≤ b ∧ Hid (v = v1 ++ (v2 ++ v3) ∧ a + 1 + v1.length = i ∧ i + v2.length = j ∧ (∀ d ∈ v1, d.t < e0.t) ∧ (∀ d ∈ v3, e0.t ≤ d.t)) ∧ Hid (Row B g cap n wr (x ++ ([e0] ++ (v ++ z)))) ∧ Hid (Below B w wr)) (fun p q _ => (intOf q).toNat - (intOf p).toNat)
  case atStart => exact ⟨a + 1, b, [], v, [], by go_num, rfl, by omega, by omega, by omega, ⟨by simp, rfl, HV.out, (by intro d hd; simp at hd), (by intro d hd; simp at hd)⟩, HR, HB0⟩
  case round =>
    clear HR HB0
    obtain ⟨i, j, v1, v2, v3, rfl, rfl, hi, hij, hjb, HI, HR, HBw⟩ := hrel
    by_cases hlt : i < j
    · obtain ⟨k, hk, hik, hkj⟩ : ∃ k : Nat, ((i : Int) + (j : Int)) / 2 = (k : Int) ∧ i ≤ k ∧ k < j := ⟨(i + j) / 2, by omega, by omega, by omega⟩
      obtain ⟨va, d, vb, rfl, hva, -⟩ := split_at v2 (k := k - i) (by have := HI.out.2.2.1; omega)
      have r1 : ∀ m os, Row B g cap n (Go.Sort.grow (wr.drewN m) os) (x ++ ([e0] ++ (v ++ z))) := fun m os => HR.out.keep (below_grown wr m os)
      have la := fun m os => (show Row B g cap n (Go.Sort.grow (wr.drewN m) os) (x ++ e0 :: (v ++ z)) from r1 m os).at (i := a) HX.out.symm
      have lk := fun m os => (show Row B g cap n (Go.Sort.grow (wr.drewN m) os) ((x ++ ([e0] ++ (v1 ++ va))) ++ d :: (vb ++ (v3 ++ z))) from by have := r1 m os; rw [HI.out.1] at this; simpa using this).at (i := k) (by have := HI.out.2.1; have := HX.out; simp; omega)
      have hcg := fun m os => order_any d.k d.t d.v d.x e0.k e0.t e0.v e0.x (Go.Sort.grow (wr.drewN m) os)
      have hkn : (k : Int) < (n : Int) := by omega
      have han : (a : Int) < (n : Int) := by omega
      have HR3 := fun m os => Lib.hid (r1 m os)
      have HB3 : ∀ m os, Hid (Below B w (Go.Sort.grow (wr.drewN m) os)) := fun m os => HBw.out.trans ((below_grown wr m os).mono (Nat.le_trans HB.out HBw.out.size))
      have HRR := Lib.hid HR3
      have HBB := Lib.hid HB3
      clear r1 HR3 HB3
      have hS2 := srt_app.1 (by have := HS.out; rw [HI.out.1] at this; exact this)
      have hS3 := srt_app.1 hS2.2.1
      have hS4 := srt_app.1 hS3.1
      have HS4 : Hid ((∀ c ∈ va, c.t ≤ d.t) ∧ ∀ c ∈ vb, d.t ≤ c.t) := ⟨fun c hc => hS4.2.2 c hc d (List.mem_cons_self ..), (srt_cons.1 hS4.2.1).1⟩
      have HVA := Lib.hid hva
      clear hS2 hS3 hS4 hva
      by_cases hlv : d.t < e0.t
      · have HI2 : Hid (v = (v1 ++ (va ++ [d])) ++ (vb ++ v3) ∧ a + 1 + (v1 ++ (va ++ [d])).length = k + 1 ∧ k + 1 + vb.length = j ∧ (∀ c ∈ v1 ++ (va ++ [d]), c.t < e0.t) ∧ (∀ d ∈ v3, e0.t ≤ d.t)) := by
          have h := HI.out
          have h4 := HVA.out
          refine ⟨by rw [h.1]; simp, by simp; omega, by have := h.2.2.1; simp at this; omega, ?_, h.2.2.2.2⟩
          intro c hc
          rcases List.mem_append.1 hc with hc | hc
          · exact h.2.2.2.1 c hc
          · rcases List.mem_append.1 hc with hc | hc
            · have := HS4.out.1 c hc; omega
            · rw [List.mem_singleton.1 hc]; exact hlv
        have ht : Lib.compareInt d.t e0.t < 0 := cmp_lt.2 hlv
        generalize Lib.compareInt d.t e0.t = cv at hcg ht
        clear hlv HI
        go_wp2_with fail
        go_quiet_grown (first | (go_at_call 30; refine Calls.grown_of (hcg _ _)))
        clear la lk hcg
        go_wp2
        go_roundw
        case rel => exact ⟨k + 1, j, v1 ++ (va ++ [d]), vb, v3, by go_num, rfl, by omega, by omega, by omega, HI2, HRR.out _ _, HBB.out _ _⟩
        case measure => simp [intOf]; omega
      · have HI2 : Hid (v = v1 ++ (va ++ (d :: (vb ++ v3))) ∧ a + 1 + v1.length = i ∧ i + va.length = k ∧ (∀ d ∈ v1, d.t < e0.t) ∧ (∀ c ∈ d :: (vb ++ v3), e0.t ≤ c.t)) := by
          have h := HI.out
          have h4 := HVA.out
          refine ⟨by rw [h.1]; simp, h.2.1, by omega, h.2.2.2.1, ?_⟩
          intro c hc
          rcases List.mem_cons.1 hc with rfl | hc
          · omega
          · rcases List.mem_append.1 hc with hc | hc
            · have := HS4.out.2 c hc; omega
            · exact h.2.2.2.2 c hc
        have ht : ¬ Lib.compareInt d.t e0.t < 0 := fun h => hlv (cmp_lt.1 h)
        generalize Lib.compareInt d.t e0.t = cv at hcg ht
        clear hlv HI
        go_wp2_with fail
        go_quiet_grown (first | (go_at_call 30; refine Calls.grown_of (hcg _ _)))
        clear la lk hcg
        go_wp2
        go_roundw
        case rel => exact ⟨i, k, v1, va, d :: (vb ++ v3), rfl, rfl, hi, by omega, by omega, HI2, HRR.out _ _, HBB.out _ _⟩
        case measure => simp [intOf]; omega
    · have hv2 : v2 = [] := List.length_eq_zero_iff.1 (by have := HI.out.2.2.1; omega)
      subst hv2
      have HI2 : Hid (v = v1 ++ v3 ∧ a + 1 + v1.length = i ∧ (∀ d ∈ v1, d.t < e0.t) ∧ (∀ d ∈ v3, e0.t ≤ d.t)) := by have h := HI.out; exact ⟨by simpa using h.1, h.2.1, h.2.2.2.1, h.2.2.2.2⟩
      have HR2 : Hid (Row B g cap n wr (x ++ ([] ++ e0 :: (v1 ++ (v3 ++ z))))) := by have := HR.out; rw [HI2.out.1] at this; simpa [Hid] using this
      have hi1 : (i : Int) - 1 = ((i - 1 : Nat) : Int) := by omega
      obtain ⟨w9, hw9⟩ : ∃ w9 : World, w9 = wr := ⟨wr, rfl⟩
      subst hw9
      clear HI HR
      go_wp2_with fail
      go_loopw [13] (fun q wr => ∃ (k : Nat) (p1 p2 : List Ev), q = .int .i64 k ∧ a ≤ k ∧ k + 1 ≤ i ∧ Hid (v1 = p1 ++ p2 ∧ a + p1.length = k) ∧ Hid (Row B g cap n wr (x ++ (p1 ++ e0 :: (p2 ++ (v3 ++ z))))) ∧ Hid (Below B w wr)) (fun q _ => i - (intOf q).toNat)
      case atStart => exact ⟨a, [], v1, rfl, by omega, by omega, ⟨rfl, rfl⟩, HR2, HBw⟩
      case round =>
        clear HR2 HBw
        obtain ⟨k, p1, p2, rfl, hak, hki, HP, HR, HBw⟩ := hrel
        by_cases hlt2 : k + 1 < i
        · obtain ⟨d, p3, rfl⟩ : ∃ d p3, p2 = d :: p3 := by
            rcases p2 with _ | ⟨d, p3⟩
            · have h1 := HP.out; have h2 := HI2.out.2.1; rw [h1.1] at h2; simp at h2; omega
            · exact ⟨d, p3, rfl⟩
          have l1 : k = (x ++ p1).length := by rw [List.length_append, HX.out]; exact HP.out.2.symm
          have l2 : k + 1 = (x ++ p1).length + 1 + ([] : List Ev).length := by rw [← l1]; rfl
          have HR1 : Hid (Row B g cap n wr ((x ++ p1) ++ e0 :: ([] ++ d :: (p3 ++ (v3 ++ z))))) := by simpa [Hid] using HR
          obtain ⟨c0, c1, c2, c3⟩ := HR1.out.at (i := k) l1
          obtain ⟨d0, d1, d2, d3⟩ := (show Row B g cap n wr (((x ++ p1) ++ [e0]) ++ d :: (p3 ++ (v3 ++ z))) from by simpa using HR1.out).at (i := k + 1) (by rw [l2]; simp; omega)
          have f0 : ∀ i, wr.frozen? ⟨g, i, none⟩ = false := fun i => by have := HR1.out.2.frozenAt i; simpa using this
          have HSW := Lib.hid (HR1.out.swap (i := k) (j := k + 1) l1 l2)
          have HR4 : Hid (Row B g cap n (putE (putE wr g k d) g (k + 1) e0).drew (x ++ ((p1 ++ [d]) ++ e0 :: (p3 ++ (v3 ++ z))))) := by
            have := HSW.out.1.keep ((Below.refl _ _).drew)
            simpa [Hid] using this
          have HB4 : Hid (Below B w (putE (putE wr g k d) g (k + 1) e0).drew) := (HBw.out.trans HSW.out.2).drew
          have HP4 : Hid (v1 = (p1 ++ [d]) ++ p3 ∧ a + (p1 ++ [d]).length = k + 1) := ⟨by rw [HP.out.1]; simp, by have := HP.out.2; simp; omega⟩
          have jz : (k : Int) + 1 < (n : Int) := by omega
          have jz1 : (k : Int) < (n : Int) := by omega
          have p0 : (0 : Int) ≤ (k : Int) + 1 := by omega
          have e0 : ((k : Int) + 1).toNat = k + 1 := by omega
          have hlt3 : (k : Int) < ((i - 1 : Nat) : Int) := by omega
          clear l1 l2
          go_wp2_with fail
          go_big_region
          clear f0 c0 c1 c2 c3 d0 d1 d2 d3
          go_wp2
          go_roundw
          case rel => exact ⟨k + 1, p1 ++ [d], p3, by go_num, by omega, by omega, HP4, HR4, HB4⟩
          case measure => simp [intOf]; omega
        · have hp2 : p2 = [] := by
            have h1 := HP.out; have h2 := HI2.out.2.1; rw [h1.1] at h2; simp at h2; exact List.length_eq_zero_iff.1 (by omega)
          have hlt3 : ¬ (k : Int) < ((i - 1 : Nat) : Int) := by omega
          go_wp2
          (try simp only [Exit.inBlock, Exit.then])
          refine bodyPost_ret (results_none rfl _ _ _) rfl ?_
          have hv1 : v1 = p1 := by rw [HP.out.1, hp2, List.append_nil]
          have h5 := HI2.out
          have hd := one_left (e := e0) (by have := HS.out; rw [h5.1] at this; exact this) h5.2.2.1 h5.2.2.2
          refine ⟨rfl, HBw.out, v1 ++ e0 :: v3, hd.1, by rw [h5.1]; exact hd.2, ?_⟩
          have h6 := HR.out
          rw [hp2, ← hv1] at h6
          simpa using h6
end Go.Proofs.YtnggadcoepieaaaDoor
