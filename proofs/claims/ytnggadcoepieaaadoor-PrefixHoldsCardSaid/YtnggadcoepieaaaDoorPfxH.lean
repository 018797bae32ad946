/- The walk of slices.symMergeCmpFunc at events: the step, and the whole by induction on the length. -/
import Derived.Test.YtnggadcoepieaaaDoorPfxG
import Derived.Test.YtnggadcoepieaaaDoorPfxE
import Derived.Deep.Cut
import Derived.Deep.DeepCutAuto
namespace Go.Proofs.YtnggadcoepieaaaDoor.WPlain
end Go.Proofs.YtnggadcoepieaaaDoor.WPlain
namespace Go.Proofs.YtnggadcoepieaaaDoor.QPlain
end Go.Proofs.YtnggadcoepieaaaDoor.QPlain
namespace Go.Proofs.YtnggadcoepieaaaDoor.RPlain
end Go.Proofs.YtnggadcoepieaaaDoor.RPlain
namespace Go.Proofs.YtnggadcoepieaaaDoor
open Go.RowKit WPlain QPlain RPlain

theorem srt_idx {l : List Ev} (h : Srt l) {i j : Nat} (hij : i ≤ j) (hj : j < l.length) : (l[i]!).t ≤ (l[j]!).t := by
  rcases Nat.lt_or_ge i j with hlt | hge
  · rw [getElem!_pos l i (by omega), getElem!_pos l j hj]
    exact List.pairwise_iff_getElem.1 h i j (by omega) hj hlt
  · obtain rfl : i = j := by omega
    exact Int.le_refl _
theorem take_idx {l : List Ev} {k : Nat} {d : Ev} (h : d ∈ l.take k) : ∃ i, i < k ∧ i < l.length ∧ l[i]! = d := by
  obtain ⟨i, hi, rfl⟩ := List.mem_iff_getElem.1 h
  rw [List.length_take] at hi
  refine ⟨i, by omega, by omega, ?_⟩
  rw [getElem!_pos l i (by omega), List.getElem_take]
theorem drop_idx {l : List Ev} {k : Nat} {d : Ev} (h : d ∈ l.drop k) : ∃ i, k ≤ i ∧ i < l.length ∧ l[i]! = d := by
  obtain ⟨i, hi, rfl⟩ := List.mem_iff_getElem.1 h
  rw [List.length_drop] at hi
  refine ⟨k + i, by omega, by omega, ?_⟩
  rw [getElem!_pos l (k + i) (by omega), List.getElem_drop]
theorem halfA {u v : List Ev} (hu : Srt u) (hv : Srt v) {s e : Nat} (he : e ≤ v.length) (h : 0 < e → s < u.length → (v[e - 1]!).t < (u[s]!).t) : ∀ d ∈ v.take e, ∀ c ∈ u.drop s, d.t < c.t := by
  intro d hd c hc
  obtain ⟨i, hi1, hi2, rfl⟩ := take_idx hd
  obtain ⟨j, hj1, hj2, rfl⟩ := drop_idx hc
  have h1 := srt_idx hv (i := i) (j := e - 1) (by omega) (by omega)
  have h2 := srt_idx hu hj1 hj2
  have := h (by omega) (by omega)
  omega
theorem halfB {u v : List Ev} (hu : Srt u) (hv : Srt v) {s e : Nat} (hs : s ≤ u.length) (h : 0 < s → e < v.length → (u[s - 1]!).t ≤ (v[e]!).t) : ∀ c ∈ u.take s, ∀ d ∈ v.drop e, c.t ≤ d.t := by
  intro c hc d hd
  obtain ⟨i, hi1, hi2, rfl⟩ := take_idx hc
  obtain ⟨j, hj1, hj2, rfl⟩ := drop_idx hd
  have h1 := srt_idx hu (i := i) (j := s - 1) (by omega) (by omega)
  have h2 := srt_idx hv hj1 hj2
  have := h (by omega) (by omega)
  omega
theorem halves {ul ur vl vr ya yb : List Ev} (hu : Srt (ul ++ ur)) (hv : Srt (vl ++ vr)) (hA : ∀ d ∈ vl, ∀ c ∈ ur, d.t < c.t) (hB : ∀ c ∈ ul, ∀ d ∈ vr, c.t ≤ d.t) (s1 : Srt ya) (a1 : Alk (ul ++ vl) ya) (s2 : Srt yb) (a2 : Alk (ur ++ vr) yb) :
    Srt (ya ++ yb) ∧ Alk ((ul ++ ur) ++ (vl ++ vr)) (ya ++ yb) := by
  have hu3 := (srt_app.1 hu).2.2
  have hv3 := (srt_app.1 hv).2.2
  refine ⟨srt_app.2 ⟨s1, s2, ?_⟩, ?_⟩
  · intro c hc d hd
    rcases List.mem_append.1 (a1.mem hc) with hc | hc <;> rcases List.mem_append.1 (a2.mem hd) with hd | hd
    · exact hu3 c hc d hd
    · exact hB c hc d hd
    · exact Int.le_of_lt (hA c hc d hd)
    · exact hv3 c hc d hd
  · have h4 : Alk (ur ++ vl) (vl ++ ur) := alk_swap fun c hc d hd => by have := hA d hd c hc; omega
    have h5 := ((Alk.refl ul).app h4).app (Alk.refl vr)
    have h6 := a1.app a2
    refine Alk.trans ?_ h6
    simpa using h5
theorem empty_srt {a b : List Ev} (ha : Srt a) (hb : Srt b) (h : a = [] ∨ b = []) : Srt (a ++ b) := by
  rcases h with rfl | rfl
  · simpa using hb
  · simpa using ha
/-- what is asked of the merge of two runs of at most s events together -/
def MergeOk (s : Nat) : Prop := ∀ (B g cap n a m b : Nat) (x u v z : List Ev) (w : World), Hid (Row B g cap n w (x ++ (u ++ (v ++ z)))) → x.length = a → a + u.length = m → m + v.length = b → b - a ≤ s → 0 < u.length → 0 < v.length → Srt u → Srt v → n ≤ 65536 → B ≤ w.heap.size →
  Calls Tryd.prog 48 #[.slice (some ⟨g, 0, none⟩) n cap, .int .i64 a, .int .i64 m, .int .i64 b, ordV] w fun e w' =>
      e = .returned (.tuple #[]) ∧ Below B w w' ∧ ∃ y, Srt y ∧ Alk (u ++ v) y ∧ Row B g cap n w' (x ++ (y ++ z))
set_option maxRecDepth 100000 in
set_option maxHeartbeats 8000000 in
theorem mergeS_any (s : Nat) (IH : Hid (MergeOk s)) (B g cap n a m b : Nat) (x u v z : List Ev) (w : World) (HR : Hid (Row B g cap n w (x ++ (u ++ (v ++ z))))) (hx : x.length = a) (hm : a + u.length = m) (hb : m + v.length = b) (hsz : b - a ≤ s + 1) (hu : 1 < u.length) (hv : 1 < v.length) (hsu : Srt u) (hsv : Srt v) (hl : n ≤ 65536) (hB : B ≤ w.heap.size) :
    Calls Tryd.prog 48 #[.slice (some ⟨g, 0, none⟩) n cap, .int .i64 a, .int .i64 m, .int .i64 b, ordV] w fun e w' =>
      e = .returned (.tuple #[]) ∧ Below B w w' ∧ ∃ y, Srt y ∧ Alk (u ++ v) y ∧ Row B g cap n w' (x ++ (y ++ z)) := by
  have HB0 := Lib.hid (Below.refl B w)
  have mixed : Tryd.prog.follows .mixedOrders = true := by kernel_rfl
  have hbn : b ≤ n := by have := HR.out.1; simp at this; omega
  have ham : a + 1 < m := by omega
  have hmb : m + 1 < b := by omega
  have HB := Lib.hid hB
  have HX := Lib.hid hx
  have HU := Lib.hid hm
  have HV := Lib.hid hb
  have HSU := Lib.hid hsu
  have HSV := Lib.hid hsv
  have HSZ := Lib.hid hsz
  have hone : ((m : Int) - (a : Int) == 1) = false := by simp; omega
  have hone2 : ((b : Int) - (m : Int) == 1) = false := by simp; omega
  obtain ⟨mid, hmid, hmd1, hmd2⟩ : ∃ mid : Nat, ((a : Int) + (b : Int)) / 2 = (mid : Int) ∧ mid + mid ≤ a + b ∧ a + b ≤ mid + mid + 1 := ⟨(a + b) / 2, by omega, by omega, by omega⟩
  obtain ⟨P, hP, hP2⟩ : ∃ P : Nat, (mid : Int) + (m : Int) - 1 = (P : Int) ∧ P + 1 = mid + m := ⟨mid + m - 1, by omega, by omega⟩
  obtain ⟨s0, r0, hs1, hs2, has, hsr, hrm, hrd⟩ : ∃ s0 r0 : Nat, (mid < m → s0 + b = mid + m ∧ r0 = mid) ∧ (¬ mid < m → s0 = a ∧ r0 = m) ∧ a ≤ s0 ∧ s0 ≤ r0 ∧ r0 ≤ m ∧ r0 ≤ mid := by
    by_cases h : mid < m
    · exact ⟨mid + m - b, mid, fun _ => ⟨by omega, rfl⟩, fun h2 => absurd h h2, by omega, by omega, by omega, by omega⟩
    · exact ⟨a, m, fun h2 => absurd h2 h, fun _ => ⟨rfl, rfl⟩, by omega, by omega, by omega, by omega⟩
  have HS1 := Lib.hid hs1
  have HS2 := Lib.hid hs2
  have hs0b : mid + m ≤ s0 + b := by
    by_cases h : mid < m
    · have := hs1 h; omega
    · have := hs2 h; omega
  have HEND : Hid ((s0 = a ∨ s0 + b = mid + m) ∧ (r0 = m ∨ r0 = mid)) := by
    by_cases h : mid < m
    · exact ⟨.inr (hs1 h).1, .inr (hs1 h).2⟩
    · exact ⟨.inl (hs2 h).1, .inl (hs2 h).2⟩
  unfold ordV
  clear hB hx hm hb hsu hsv hsz hu hv hs1 hs2
  go_enter Tryd.func48, Tryd.ntmps48
  go_upto_if 140 with fail
  go_cut [20, 21] from 138 to 146 (fun p q wx => p = .int .i64 (s0 : Int) ∧ q = .int .i64 (r0 : Int) ∧ wx = w)
  case first =>
    by_cases hmm : mid < m
    · have h1 := HS1.out hmm
      have hmi : (mid : Int) < (m : Int) := by omega
      have he : (mid : Int) + (m : Int) - (b : Int) = (s0 : Int) := by omega
      have hr : r0 = mid := h1.2
      go_wp2_with fail
      go_meet
      case rel => exact ⟨by first | rfl | rw [he], by rw [hr], rfl⟩
    · have h1 := HS2.out hmm
      have hmi : ¬ (mid : Int) < (m : Int) := by omega
      go_wp2_with fail
      go_meet
      case rel => exact ⟨by rw [h1.1], by rw [h1.2], rfl⟩
  case rest =>
  obtain ⟨rfl, rfl, hwB⟩ := hcut
  obtain ⟨wB, hwB2⟩ : ∃ wB : World, wB = wc := ⟨wc, rfl⟩
  subst hwB
  subst hwB2
  go_wp2_with fail
  go_loopw [20, 21] (fun p q wr => ∃ i j : Nat, p = .int .i64 i ∧ q = .int .i64 j ∧ s0 ≤ i ∧ i ≤ j ∧ j ≤ r0 ∧ Hid (j < r0 → (v[P - j - m]!).t < (u[j - a]!).t) ∧ Hid (s0 < i → (u[i - 1 - a]!).t ≤ (v[P - (i - 1) - m]!).t) ∧ Hid (Row B g cap n wr (x ++ (u ++ (v ++ z)))) ∧ Hid (Below B wB wr)) (fun p q _ => (intOf q).toNat - (intOf p).toNat)
  case atStart => exact ⟨s0, r0, rfl, rfl, by omega, by omega, by omega, (fun h => by omega), (fun h => by omega), HR, HB0⟩
  case round =>
    clear HR HB0 HS1 HS2
    obtain ⟨i, j, rfl, rfl, hi, hij, hjr, HPA, HPB, HR, HBw⟩ := hrel
    by_cases hlt : i < j
    · obtain ⟨k, hk, hik, hkj⟩ : ∃ k : Nat, ((i : Int) + (j : Int)) / 2 = (k : Int) ∧ i ≤ k ∧ k < j := ⟨(i + j) / 2, by omega, by omega, by omega⟩
      obtain ⟨pk, hpk, hpk2⟩ : ∃ pk : Nat, (P : Int) - (k : Int) = (pk : Int) ∧ pk + k = P := ⟨P - k, by omega, by omega⟩
      have hpm : m ≤ pk ∧ pk < b := by omega
      have hpw : IntKind.i64.wrap (pk : Int) = (pk : Int) := by rw [IntKind.wrap_i64]; omega
      obtain ⟨ua, c, ub, huu, hua, hcu⟩ := split_at u (k := k - a) (by have := HU.out; omega)
      obtain ⟨va, d, vb, hvv, hva, hdv⟩ := split_at v (k := pk - m) (by have := HV.out; omega)
      have r1 : ∀ m os, Row B g cap n (Go.Sort.grow (wr.drewN m) os) (x ++ (u ++ (v ++ z))) := fun m os => HR.out.keep (below_grown wr m os)
      have lk := fun q os => (show Row B g cap n (Go.Sort.grow (wr.drewN q) os) ((x ++ ua) ++ c :: (ub ++ (v ++ z))) from by have := r1 q os; rw [huu] at this; simpa using this).at (i := k) (by have := HX.out; simp; omega)
      have lp := fun q os => (show Row B g cap n (Go.Sort.grow (wr.drewN q) os) ((x ++ (u ++ va)) ++ d :: (vb ++ z)) from by have := r1 q os; rw [hvv] at this; simpa using this).at (i := pk) (by have := HX.out; have := HU.out; simp; omega)
      have hcg := fun m os => order_any d.k d.t d.v d.x c.k c.t c.v c.x (Go.Sort.grow (wr.drewN m) os)
      have hkn : (k : Int) < (n : Int) := by omega
      have hpn : (pk : Int) < (n : Int) := by omega
      have HR3 := fun m os => Lib.hid (r1 m os)
      have HB3 : ∀ m os, Hid (Below B wB (Go.Sort.grow (wr.drewN m) os)) := fun m os => HBw.out.trans ((below_grown wr m os).mono (Nat.le_trans HB.out HBw.out.size))
      have HRR := Lib.hid HR3
      have HBB := Lib.hid HB3
      have HCU := Lib.hid hcu
      have HDV := Lib.hid hdv
      have hpe : pk = P - k := by omega
      have HPE := Lib.hid hpe
      clear r1 HR3 HB3 huu hua hcu hvv hva hdv hpe
      by_cases hlv : d.t < c.t
      · have HPA2 : Hid (k < r0 → (v[P - k - m]!).t < (u[k - a]!).t) := fun _ => by rw [← HPE.out, HCU.out, HDV.out]; exact hlv
        have ht : Lib.compareInt d.t c.t < 0 := cmp_lt.2 hlv
        generalize Lib.compareInt d.t c.t = cv at hcg ht
        clear hlv
        go_wp2_with fail
        go_quiet_grown (first | (go_at_call 30; refine Calls.grown_of (hcg _ _)))
        clear lk lp hcg
        go_wp2
        go_roundw
        case rel => exact ⟨i, k, rfl, rfl, hi, by omega, by omega, HPA2, HPB, HRR.out _ _, HBB.out _ _⟩
        case measure => simp [intOf]; omega
      · have HPB2 : Hid (s0 < k + 1 → (u[k + 1 - 1 - a]!).t ≤ (v[P - (k + 1 - 1) - m]!).t) := fun _ => by rw [Nat.add_sub_cancel, ← HPE.out, HCU.out, HDV.out]; omega
        have ht : ¬ Lib.compareInt d.t c.t < 0 := fun h => hlv (cmp_lt.1 h)
        generalize Lib.compareInt d.t c.t = cv at hcg ht
        have htd : decide (cv < 0) = false := by simp; omega
        clear hlv
        go_wp2_with fail
        go_quiet_grown (first | (go_at_call 30; refine Calls.grown_of (hcg _ _)))
        clear lk lp hcg
        go_wp2
        go_roundw
        case rel => exact ⟨k + 1, j, by go_num, rfl, by omega, by omega, by omega, HPA, HPB2, HRR.out _ _, HBB.out _ _⟩
        case measure => simp [intOf]; omega
    · obtain rfl : i = j := by omega
      obtain ⟨en, hen, hen2⟩ : ∃ en : Nat, (mid : Int) + (m : Int) - (i : Int) = (en : Int) ∧ en + i = mid + m := ⟨mid + m - i, by omega, by omega⟩
      have hem : m ≤ en ∧ en ≤ b ∧ a ≤ i ∧ i ≤ m ∧ i ≤ mid ∧ mid ≤ en := by omega
      obtain ⟨ul, ur, hul, hul1, hul2⟩ : ∃ ul ur : List Ev, u = ul ++ ur ∧ ul = u.take (i - a) ∧ ur = u.drop (i - a) := ⟨_, _, (List.take_append_drop (i - a) u).symm, rfl, rfl⟩
      obtain ⟨vl, vr, hvl, hvl1, hvl2⟩ : ∃ vl vr : List Ev, v = vl ++ vr ∧ vl = v.take (en - m) ∧ vr = v.drop (en - m) := ⟨_, _, (List.take_append_drop (en - m) v).symm, rfl, rfl⟩
      have HLL : Hid (a + ul.length = i ∧ i + ur.length = m ∧ m + vl.length = en ∧ en + vr.length = b) := by
        have h1 := HU.out; have h2 := HV.out
        refine ⟨by rw [hul1, List.length_take]; omega, by rw [hul2, List.length_drop]; omega, by rw [hvl1, List.length_take]; omega, by rw [hvl2, List.length_drop]; omega⟩
      have HA : Hid (∀ d ∈ vl, ∀ c ∈ ur, d.t < c.t) := by
        rw [hvl1, hul2]
        refine halfA HSU.out HSV.out (by have := HV.out; omega) fun h0 h1 => ?_
        have h2 := HU.out
        have hir : i < r0 := by rcases HEND.out.2 with h | h <;> omega
        have := HPA.out hir
        rw [show P - i - m = en - m - 1 from by omega] at this
        exact this
      have HBc : Hid (∀ c ∈ ul, ∀ d ∈ vr, c.t ≤ d.t) := by
        rw [hvl2, hul1]
        refine halfB HSU.out HSV.out (by have := HU.out; omega) fun h0 h1 => ?_
        have h2 := HV.out
        have his : s0 < i := by rcases HEND.out.1 with h | h <;> omega
        have := HPB.out his
        rw [show P - (i - 1) - m = en - m from by omega, show i - 1 - a = i - a - 1 from by omega] at this
        exact this
      have HUL := Lib.hid hul
      have HVL := Lib.hid hvl
      clear hul hul1 hul2 hvl hvl1 hvl2 HPA HPB
      have hmm1 : (m : Int) ≤ (en : Int) := by omega
      obtain ⟨w9, hw9⟩ : ∃ w9 : World, w9 = wr := ⟨wr, rfl⟩
      subst hw9
      go_upto_region 39 with fail
      go_cut [185] from 178 to 185 (fun q wx => ∃ cc : Bool, q = .bool cc ∧ Hid (cc = true ↔ (i < m ∧ m < en)) ∧ wx = w9)
      case first =>
        by_cases g1 : i < m
        · have g1z : (i : Int) < (m : Int) := by omega
          by_cases g2 : m < en
          · have g2z : (m : Int) < (en : Int) := by omega
            go_wp2_with fail
            go_meet
            case rel => exact ⟨true, rfl, by simp [Hid, g1, g2], rfl⟩
          · have g2z : ¬ (m : Int) < (en : Int) := by omega
            go_wp2_with fail
            go_meet
            case rel => exact ⟨false, rfl, by simp [Hid, g2], rfl⟩
        · have g1z : decide ((i : Int) < (m : Int)) = false := by simp; omega
          go_wp2_with fail
          go_meet
          case rel => exact ⟨false, rfl, by simp [Hid, g1], rfl⟩
      case rest =>
      obtain ⟨cc, rfl, HCC, hw⟩ := hcut
      subst hw
      go_upto_if 185 with fail
      go_cut [] from 186 to 191 (fun wx => Hid (Row B g cap n wx (x ++ (ul ++ (vl ++ (ur ++ (vr ++ z)))))) ∧ Hid (Below B wB wx))
      case first =>
        cases cc with
        | true =>
          have g1 : i < m ∧ m < en := HCC.out.1 rfl
          have HC := Lib.hid (rotate_any B g cap n i m en (x ++ ul) ur vl (vr ++ z) wc (by have := HR.out; rw [HUL.out, HVL.out] at this; simpa [Hid] using this) (by have := HX.out; have := HLL.out; simp; omega) HLL.out.2.1 HLL.out.2.2.1 (by have := HLL.out; omega) (by have := HLL.out; omega) hl)
          unfold ordV at HC
          clear g1
          go_wp2_with fail
          refine HC.out.mono ?_
          rintro e w2 ⟨rfl, hb2, hr2⟩
          have HB2 := Lib.hid (HBw.out.trans hb2)
          have HR2 : Hid (Row B g cap n w2 (x ++ (ul ++ (vl ++ (ur ++ (vr ++ z)))))) := by simpa [Hid] using hr2
          clear hb2 hr2
          go_wp2_with fail
          go_meet
          case rel => exact ⟨HR2, HB2⟩
        | false =>
          have g1 : ¬ (i < m ∧ m < en) := fun h => absurd (HCC.out.2 h) (by simp)
          have HR2 : Hid (Row B g cap n wc (x ++ (ul ++ (vl ++ (ur ++ (vr ++ z)))))) := by
            have h := HR.out
            rw [HUL.out, HVL.out] at h
            have h0 : ur = [] ∨ vl = [] := by
              have h1 := HLL.out
              rcases Nat.lt_or_ge i m with h2 | h2
              · exact .inr (List.length_eq_zero_iff.1 (by omega))
              · exact .inl (List.length_eq_zero_iff.1 (by omega))
            rcases h0 with h0 | h0
            · rw [h0] at h ⊢; simpa [Hid] using h
            · rw [h0] at h ⊢; simpa [Hid] using h
          clear g1
          go_wp2_with fail
          go_meet
          case rel => exact ⟨HR2, HBw⟩
      case rest =>
      clear HR HBw
      obtain ⟨HR, HBw⟩ := hcut
      have hsz1 : mid - a ≤ s := by have := HSZ.out; omega
      have hsz2 : b - mid ≤ s := by have := HSZ.out; omega
      have HS1 : Hid (Srt ul ∧ Srt ur) := by have h := srt_app.1 (by have := HSU.out; rw [HUL.out] at this; exact this); exact ⟨h.1, h.2.1⟩
      have HS2 : Hid (Srt vl ∧ Srt vr) := by have h := srt_app.1 (by have := HSV.out; rw [HVL.out] at this; exact this); exact ⟨h.1, h.2.1⟩
      have HMD : Hid (i + vl.length = mid ∧ mid + ur.length = en) := by have h := HLL.out; show _ ∧ _; omega
      obtain ⟨w8, hw8⟩ : ∃ w8 : World, w8 = wc := ⟨wc, rfl⟩
      subst hw8
      go_upto_region 41 with fail
      go_cut [199] from 192 to 199 (fun q wx => ∃ cc : Bool, q = .bool cc ∧ Hid (cc = true ↔ (a < i ∧ i < mid)) ∧ wx = w8)
      case first =>
        by_cases g1 : a < i
        · have g1z : (a : Int) < (i : Int) := by omega
          by_cases g2 : i < mid
          · have g2z : (i : Int) < (mid : Int) := by omega
            go_wp2_with fail
            go_meet
            case rel => exact ⟨true, rfl, by simp [Hid, g1, g2], rfl⟩
          · have g2z : ¬ (i : Int) < (mid : Int) := by omega
            go_wp2_with fail
            go_meet
            case rel => exact ⟨false, rfl, by simp [Hid, g2], rfl⟩
        · have g1z : decide ((a : Int) < (i : Int)) = false := by simp; omega
          go_wp2_with fail
          go_meet
          case rel => exact ⟨false, rfl, by simp [Hid, g1], rfl⟩
      case rest =>
      obtain ⟨cc, rfl, HCC, hw⟩ := hcut
      subst hw
      go_upto_if 199 with fail
      go_cut [] from 200 to 205 (fun wx => ∃ ya : List Ev, Hid (Srt ya ∧ Alk (ul ++ vl) ya) ∧ Hid (Row B g cap n wx (x ++ (ya ++ (ur ++ (vr ++ z))))) ∧ Hid (Below B wB wx))
      case first =>
        cases cc with
        | true =>
          have g1 : a < i ∧ i < mid := HCC.out.1 rfl
          have HC := Lib.hid (IH.out B g cap n a i mid x ul vl (ur ++ (vr ++ z)) wc HR HX.out HLL.out.1 HMD.out.1 hsz1 (by have := HLL.out; omega) (by have := HMD.out; omega) HS1.out.1 HS2.out.1 hl (Nat.le_trans HB.out HBw.out.size))
          unfold ordV at HC
          clear g1
          go_wp2_with fail
          refine HC.out.mono ?_
          rintro e w2 ⟨rfl, hb2, ya, hya1, hya2, hr2⟩
          have HB2 := Lib.hid (HBw.out.trans hb2)
          clear hb2
          go_wp2_with fail
          go_meet
          case rel => exact ⟨ya, ⟨hya1, hya2⟩, hr2, HB2⟩
        | false =>
          have g1 : ¬ (a < i ∧ i < mid) := fun h => absurd (HCC.out.2 h) (by simp)
          have HR2 : Hid (Row B g cap n wc (x ++ ((ul ++ vl) ++ (ur ++ (vr ++ z))))) := by simpa [Hid] using HR
          have HS3 : Hid (Srt (ul ++ vl)) := by
            refine empty_srt HS1.out.1 HS2.out.1 ?_
            have h1 := HLL.out; have h2 := HMD.out
            rcases Nat.lt_or_ge a i with h3 | h3
            · exact .inr (List.length_eq_zero_iff.1 (by omega))
            · exact .inl (List.length_eq_zero_iff.1 (by omega))
          clear g1
          go_wp2_with fail
          go_meet
          case rel => exact ⟨ul ++ vl, ⟨HS3.out, Alk.refl _⟩, HR2, HBw⟩
      case rest =>
      clear HR HBw
      obtain ⟨ya, HYA, HR, HBw⟩ := hcut
      have HYL : Hid ((x ++ ya).length = mid) := by have h := HYA.out.2.len; have h1 := HX.out; have h2 := HLL.out; have h3 := HMD.out; show _ = _; simp at *; omega
      obtain ⟨w7, hw7⟩ : ∃ w7 : World, w7 = wc := ⟨wc, rfl⟩
      subst hw7
      go_upto_region 43 with fail
      go_cut [213] from 206 to 213 (fun q wx => ∃ cc : Bool, q = .bool cc ∧ Hid (cc = true ↔ (mid < en ∧ en < b)) ∧ wx = w7)
      case first =>
        by_cases g1 : mid < en
        · have g1z : (mid : Int) < (en : Int) := by omega
          by_cases g2 : en < b
          · have g2z : (en : Int) < (b : Int) := by omega
            go_wp2_with fail
            go_meet
            case rel => exact ⟨true, rfl, by simp [Hid, g1, g2], rfl⟩
          · have g2z : ¬ (en : Int) < (b : Int) := by omega
            go_wp2_with fail
            go_meet
            case rel => exact ⟨false, rfl, by simp [Hid, g2], rfl⟩
        · have g1z : decide ((mid : Int) < (en : Int)) = false := by simp; omega
          go_wp2_with fail
          go_meet
          case rel => exact ⟨false, rfl, by simp [Hid, g1], rfl⟩
      case rest =>
      obtain ⟨cc, rfl, HCC, hw⟩ := hcut
      subst hw
      cases cc with
      | true =>
        have g1 : mid < en ∧ en < b := HCC.out.1 rfl
        have HC := Lib.hid (IH.out B g cap n mid en b (x ++ ya) ur vr z wc (by simpa [Hid] using HR) HYL.out HMD.out.2 HLL.out.2.2.2 hsz2 (by have := HMD.out; omega) (by have := HLL.out; omega) HS1.out.2 HS2.out.2 hl (Nat.le_trans HB.out HBw.out.size))
        unfold ordV at HC
        clear g1
        go_wp2_with fail
        refine HC.out.mono ?_
        rintro e w2 ⟨rfl, hb2, yb, hyb1, hyb2, hr2⟩
        have HB2 := Lib.hid (HBw.out.trans hb2)
        have HY : Hid (Srt (ya ++ yb) ∧ Alk (u ++ v) (ya ++ yb)) := by
          rw [HUL.out, HVL.out]
          exact halves (by have := HSU.out; rwa [HUL.out] at this) (by have := HSV.out; rwa [HVL.out] at this) HA.out HBc.out HYA.out.1 HYA.out.2 hyb1 hyb2
        have HR2 : Hid (Row B g cap n w2 (x ++ ((ya ++ yb) ++ z))) := by simpa [Hid] using hr2
        clear hb2 hr2 hyb1 hyb2
        go_wp2
        go_end0
        exact ⟨rfl, HB2.out, ya ++ yb, HY.out.1, HY.out.2, HR2.out⟩
      | false =>
        have g1 : ¬ (mid < en ∧ en < b) := fun h => absurd (HCC.out.2 h) (by simp)
        have HS3 : Hid (Srt (ur ++ vr)) := by
          refine empty_srt HS1.out.2 HS2.out.2 ?_
          have h1 := HLL.out; have h2 := HMD.out
          rcases Nat.lt_or_ge mid en with h3 | h3
          · exact .inr (List.length_eq_zero_iff.1 (by omega))
          · exact .inl (List.length_eq_zero_iff.1 (by omega))
        have HY : Hid (Srt (ya ++ (ur ++ vr)) ∧ Alk (u ++ v) (ya ++ (ur ++ vr))) := by
          rw [HUL.out, HVL.out]
          exact halves (by have := HSU.out; rwa [HUL.out] at this) (by have := HSV.out; rwa [HVL.out] at this) HA.out HBc.out HYA.out.1 HYA.out.2 HS3.out (Alk.refl _)
        have HR2 : Hid (Row B g cap n wc (x ++ ((ya ++ (ur ++ vr)) ++ z))) := by simpa [Hid] using HR
        clear g1
        go_wp2
        go_end0
        exact ⟨rfl, HBw.out, ya ++ (ur ++ vr), HY.out.1, HY.out.2, HR2.out⟩
theorem merge_any : ∀ s, MergeOk s := by
  intro s
  induction s with
  | zero => intro B g cap n a m b x u v z w HR hx hm hb hs hu hv hsu hsv hl hB; exfalso; omega
  | succ s ih =>
    intro B g cap n a m b x u v z w HR hx hm hb hs hu hv hsu hsv hl hB
    by_cases h1 : u.length = 1
    · obtain ⟨e0, rfl⟩ := List.length_eq_one_iff.1 h1
      have := mergeL_any B g cap n a b x v z e0 w HR hx (by omega) hsv hl hB
      rw [show (m : Int) = (a : Int) + 1 from by omega]
      exact this
    · by_cases h2 : v.length = 1
      · obtain ⟨e0, rfl⟩ := List.length_eq_one_iff.1 h2
        have := mergeR_any B g cap n a m x u z e0 w HR hx hm h1 hsu hl hB
        rw [show (b : Int) = (m : Int) + 1 from by omega]
        exact this
      · exact mergeS_any s ih B g cap n a m b x u v z w HR hx hm hb hs (by omega) (by omega) hsu hsv hl hB
end Go.Proofs.YtnggadcoepieaaaDoor
