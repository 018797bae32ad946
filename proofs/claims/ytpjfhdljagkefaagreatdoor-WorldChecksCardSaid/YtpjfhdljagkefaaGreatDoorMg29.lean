/- Merged: WorY, RegK, ExtW. -/
import Derived.Test.YtpjfhdljagkefaaGreatDoorMg20
import Derived.Test.YtpjfhdljagkefaaGreatDoorWorP
import Derived.Test.YtpjfhdljagkefaaGreatDoorMg26
import Derived.Test.YtpjfhdljagkefaaGreatDoorRows
import Derived.Test.YtpjfhdljagkefaaGreatDoorMg1
import Derived.Deep.RegionHeld
import Derived.Deep.DeepMust
import Derived.Deep.QuietTactic
import Derived.Below
/- The walks of slices.EqualFunc at findings, of package world's Like, and of recantref15's Same. -/
namespace Go.Proofs.YtpjfhdljagkefaaGreatDoor.WPlain
end Go.Proofs.YtpjfhdljagkefaaGreatDoor.WPlain
namespace Go.Proofs.YtpjfhdljagkefaaGreatDoor.QPlain
end Go.Proofs.YtpjfhdljagkefaaGreatDoor.QPlain
namespace Go.Proofs.YtpjfhdljagkefaaGreatDoor.RPlain
end Go.Proofs.YtpjfhdljagkefaaGreatDoor.RPlain
namespace Go.Proofs.YtpjfhdljagkefaaGreatDoor
open Go.RowKit WPlain QPlain RPlain

theorem sameF_fd (f g : Fd) : sameF f.v f.c f.s g.v g.c g.s f.r g.r = decide (f = g) := by
  unfold sameF
  refine decide_eq_decide.2 ?_
  cases f; cases g
  simp only [Fd.mk.injEq]
/-- rows that fit -/
def Fit (l : List Fd) : Prop := l.length ≤ 10 ∧ ∀ f ∈ l, f.r.length ≤ 9223372036854775807
theorem list_same {l1 l2 : List Fd} (hl : l1.length = l2.length) (h : ∀ j (h1 : j < l1.length) (h2 : j < l2.length), l1[j] = l2[j]) : l1 = l2 := List.ext_getElem hl h
theorem Fds.addr {w : World} {a : Option Addr} {n c : Nat} {l : List Fd} (h : Fds w (.slice a n c) l) (hl : 0 < l.length) : ∃ b o, a = some ⟨b, o, none⟩ ∧ n = l.length := by
  obtain ⟨ps, rfl, hr, ho⟩ := h
  rcases hr with ⟨rfl, _⟩ | ⟨_, b', o', c', he, _, hc⟩
  · simp at hl
  · simp only [Value.slice.injEq] at he
    exact ⟨_, _, he.1, by rw [List.length_map]; exact he.2.1⟩
set_option maxRecDepth 100000 in
set_option maxHeartbeats 4000000 in
theorem equalFd_any (v1 v2 : Value) (l1 l2 : List Fd) (w : World) (h1 : Fds w v1 l1) (h2 : Fds w v2 l2) (f1 : Fit l1) (f2 : Fit l2) :
    Calls Tryz.prog 30 #[v1, v2, .func (.func 31) #[] #[]] w fun e w' => e = .returned (.bool (decide (l1 = l2))) ∧ Below w.heap.size w w' := by
  have H1 := Lib.hid h1
  have H2 := Lib.hid h2
  obtain ⟨a1, c1, rfl⟩ := h1.len
  obtain ⟨a2, c2, rfl⟩ := h2.len
  obtain ⟨g1, k1⟩ := f1
  obtain ⟨g2, k2⟩ := f2
  have K1 := Lib.hid k1
  have K2 := Lib.hid k2
  clear h1 h2 k1 k2
  by_cases hl : l1.length = l2.length
  · obtain ⟨res, hres⟩ : ∃ res, decide (l1 = l2) = res := ⟨_, rfl⟩
    have HSAME : Hid ((∀ j (h1 : j < l1.length) (h2 : j < l2.length), l1[j] = l2[j]) → res = true) := fun h => by rw [← hres]; exact decide_eq_true (list_same hl h)
    have HBAD : Hid (∀ j (h1 : j < l1.length) (h2 : j < l2.length), l1[j] ≠ l2[j] → res = false) := fun j h1 h2 h => by rw [← hres]; exact decide_eq_false fun he => h (by subst he; rfl)
    rw [hres]
    have HL := Lib.hid hl
    clear hres
    obtain ⟨n, hn⟩ : ∃ n, l1.length = n := ⟨_, rfl⟩
    have hn2 : l2.length = n := by omega
    have HN1 := Lib.hid hn
    have HN2 := Lib.hid hn2
    rw [hn] at H1 ⊢
    rw [hn2] at H2 ⊢
    clear hl hn2
    go_enter Tryz.func30, Tryz.ntmps30
    have hn := HN1.out
    clear hn
    go_wp2_with fail
    go_loopw [17] (fun x wr => ∃ i : Nat, i ≤ n ∧ x = .int .i64 (i : Int) ∧ Hid (∀ j (h1 : j < l1.length) (h2 : j < l2.length), j < i → l1[j] = l2[j]) ∧ Hid (Below w.heap.size w wr)) (fun x _ => n - (intOf x).toNat)
    case atStart => exact ⟨0, by omega, rfl, fun _ _ _ h => by omega, Below.refl _ _⟩
    case round =>
      obtain ⟨i, hi, rfl, HAL, HB⟩ := hrel
      by_cases hlt : i < n
      · have hi1 : i < l1.length := by rw [HN1.out]; exact hlt
        have hi2 : i < l2.length := by rw [HN2.out]; exact hlt
        have t1 := H1.out.below HB.out (Nat.le_refl _)
        have t2 := H2.out.below HB.out (Nat.le_refl _)
        obtain ⟨b1, o1, rfl, -⟩ := t1.addr (by omega)
        obtain ⟨b2, o2, rfl, -⟩ := t2.addr (by omega)
        obtain ⟨u1, x0, x1, x2, x3, hr1⟩ := t1.get i hi1
        obtain ⟨u2, y0, y1, y2, y3, hr2⟩ := t2.get i hi2
        have hk1 := K1.out _ (List.getElem_mem hi1)
        have hk2 := K2.out _ (List.getElem_mem hi2)
        have HBK := Lib.hid (fun h => HBAD.out i hi1 hi2 h)
        have HGO : Hid (l1[i] = l2[i] → ∀ j (h1 : j < l1.length) (h2 : j < l2.length), j < i + 1 → l1[j] = l2[j]) := fun he j h1 h2 hj => by
          by_cases hji : j = i
          · subst hji; exact he
          · exact HAL.out j h1 h2 (by omega)
        obtain ⟨d1, e1, rfl⟩ := hr1.len
        obtain ⟨d2, e2, rfl⟩ := hr2.len
        generalize l1[i] = f at *
        generalize l2[i] = g at *
        obtain ⟨nf, hnf⟩ : ∃ z, (ints f.r).length = z := ⟨_, rfl⟩
        obtain ⟨ng, hng⟩ : ∃ z, (ints g.r).length = z := ⟨_, rfl⟩
        rw [hnf] at hr1 x2
        rw [hng] at hr2 y2
        have hba : Below wr.heap.size wr (wr.alloc (.cells #[.int .i64 f.v, .int .u32 f.c, .slice d1 nf e1, .int .i64 f.s] 26)) := (Below.refl _ wr).alloc (Nat.le_refl _) _
        have y0b := cell_on hba y0
        have y1b := cell_on hba y1
        have y2b := cell_on hba y2
        have y3b := cell_on hba y3
        obtain ⟨N, hN⟩ : ∃ z, wr.heap.size = z := ⟨_, rfl⟩
        obtain ⟨w5, hw5⟩ : ∃ w5, (wr.alloc (.cells #[.int .i64 f.v, .int .u32 f.c, .slice d1 nf e1, .int .i64 f.s] 26)).alloc (.cells #[.int .i64 g.v, .int .u32 g.c, .slice d2 ng e2, .int .i64 g.s] 26) = w5 := ⟨_, rfl⟩
        have HB5 : Hid (Below wr.heap.size wr w5) := by
          rw [← hw5]
          exact ((Below.refl wr.heap.size wr).alloc (Nat.le_refl _) _).alloc (by simp) _
        have HA5 : Hid (At w5 N #[.int .i64 f.v, .int .u32 f.c, .slice d1 nf e1, .int .i64 f.s] 26) := by
          rw [← hw5, ← hN]; exact (At.new wr _ _).alloc _
        have HC5 : Hid (At w5 (N + 1) #[.int .i64 g.v, .int .u32 g.c, .slice d2 ng e2, .int .i64 g.s] 26) := by
          rw [← hw5, ← hN]
          have := At.new (wr.alloc (.cells #[.int .i64 f.v, .int .u32 f.c, .slice d1 nf e1, .int .i64 f.s] 26)) #[.int .i64 g.v, .int .u32 g.c, .slice d2 ng e2, .int .i64 g.s] 26
          rwa [World.size_alloc] at this
        have hlk := likeM_any f.v f.c f.s g.v g.c g.s _ _ f.r g.r w5 (hr1.below HB5.out (Nat.le_refl _)) (hr2.below HB5.out (Nat.le_refl _)) hk1 hk2
        rw [sameF_fd] at hlk
        have HLK := Lib.hid hlk
        have HNN := Lib.hid hN
        have HW5 := Lib.hid hw5
        clear hr1 hr2 t1 t2 hnf hng hba hlk hN hw5 hi1 hi2 hk1 hk2
        go_upto_region 7 with fail
        rw [HW5.out]
        have p0 : w5.cell? ⟨N, 0, none⟩ = some (.int .i64 f.v) := HA5.out.cell rfl
        have p1 : w5.cell? ⟨N, 1, none⟩ = some (.int .u32 f.c) := HA5.out.cell rfl
        have p2 : w5.cell? ⟨N, 2, none⟩ = some (.slice d1 nf e1) := HA5.out.cell rfl
        have p3 : w5.cell? ⟨N, 3, none⟩ = some (.int .i64 f.s) := HA5.out.cell rfl
        have q0 : w5.cell? ⟨N + 1, 0, none⟩ = some (.int .i64 g.v) := HC5.out.cell rfl
        have q1 : w5.cell? ⟨N + 1, 1, none⟩ = some (.int .u32 g.c) := HC5.out.cell rfl
        have q2 : w5.cell? ⟨N + 1, 2, none⟩ = some (.slice d2 ng e2) := HC5.out.cell rfl
        have q3 : w5.cell? ⟨N + 1, 3, none⟩ = some (.int .i64 g.s) := HC5.out.cell rfl
        have hN := HNN.out
        clear x0 x1 x2 x3 y0 y1 y2 y3 y0b y1b y2b y3b
        by_cases he : f = g
        · have hlk := HLK.out
          rw [decide_eq_true he] at hlk
          have HGO2 := Lib.hid (HGO.out he)
          have HLK2 := Lib.hid hlk
          clear he hlk HGO HBK HLK
          go_wp2_with fail
          refine HLK2.out.mono ?_
          rintro e w6 ⟨rfl, hb6⟩
          have HB6 : Hid (Below w.heap.size w w6) := HB.out.trans ((HB5.out.trans (hb6.mono HB5.out.size)).mono HB.out.size)
          clear hb6 p0 p1 p2 p3 q0 q1 q2 q3 hN
          go_wp2_with fail
          go_roundw
          case rel => exact ⟨i + 1, by omega, by go_num, HGO2, HB6⟩
          case measure => simp [intOf]; omega
        · have hlk := HLK.out
          rw [decide_eq_false he] at hlk
          have HRS := Lib.hid (HBK.out he)
          have HLK2 := Lib.hid hlk
          clear he hlk HGO HBK HLK
          go_wp2_with fail
          refine HLK2.out.mono ?_
          rintro e w6 ⟨rfl, hb6⟩
          have HB6 : Hid (Below w.heap.size w w6) := HB.out.trans ((HB5.out.trans (hb6.mono HB5.out.size)).mono HB.out.size)
          clear hb6 p0 p1 p2 p3 q0 q1 q2 q3 hN
          go_wp2_with fail
          go_ret
          exact ⟨by rw [HRS.out]; rfl, HB6.out⟩
      · obtain rfl : i = n := by omega
        have HRS := Lib.hid (HSAME.out (fun j h1 h2 => HAL.out j h1 h2 (by rw [← HN1.out]; exact h1)))
        go_wp2_with fail
        go_ret
        exact ⟨by rw [HRS.out]; rfl, HB.out⟩
  · have hne : ¬ l1 = l2 := fun h => hl (by rw [h])
    rw [decide_eq_false hne]
    have tq : ((l1.length : Int) != (l2.length : Int)) = true := by simp; omega
    clear hne
    go_enter Tryz.func30, Tryz.ntmps30
    go_wp2_with fail
    go_ret
    exact ⟨rfl, Below.refl _ _⟩
/-- are two of what is found the same? -/
def sameWd (v1 c1 s1 : Int) (xs : List Int) (l1 : List Fd) (v2 c2 s2 : Int) (ys : List Int) (l2 : List Fd) : Bool := decide (v1 = v2 ∧ c1 = c2 ∧ xs = ys ∧ l1 = l2 ∧ s1 = s2)
theorem beq_falseW {a b : Int} (h : a ≠ b) : (a == b) = false := by simpa using h
theorem bne_falseW {a b : Int} (h : a = b) : (a != b) = false := by simp [h]
theorem bne_trueW {a b : Int} (h : a ≠ b) : (a != b) = true := by simpa using h
set_option maxRecDepth 100000 in
set_option maxHeartbeats 4000000 in
theorem likeW_any (v1 c1 s1 v2 c2 s2 : Int) (r1 r2 q1 q2 : Value) (xs ys : List Int) (l1 l2 : List Fd) (w : World) (h1 : Rd w r1 (ints xs)) (h2 : Rd w r2 (ints ys)) (k1 : Fds w q1 l1) (k2 : Fds w q2 l2) (hx : xs.length ≤ 9223372036854775807) (hy : ys.length ≤ 9223372036854775807) (f1 : Fit l1) (f2 : Fit l2) :
    Calls Tryz.prog 14 #[.agg #[.int .i64 v1, .int .u32 c1, r1, q1, .int .i64 s1], .agg #[.int .i64 v2, .int .u32 c2, r2, q2, .int .i64 s2]] w fun e w' => e = .returned (.bool (sameWd v1 c1 s1 xs l1 v2 c2 s2 ys l2)) ∧ Below w.heap.size w w' := by
  obtain ⟨a1, d1, rfl⟩ := h1.len
  obtain ⟨a2, d2, rfl⟩ := h2.len
  obtain ⟨b1, g1, rfl⟩ := k1.len
  obtain ⟨b2, g2, rfl⟩ := k2.len
  obtain ⟨n1, hn1⟩ : ∃ z, (ints xs).length = z := ⟨_, rfl⟩
  obtain ⟨n2, hn2⟩ : ∃ z, (ints ys).length = z := ⟨_, rfl⟩
  obtain ⟨m1, hm1⟩ : ∃ z, l1.length = z := ⟨_, rfl⟩
  obtain ⟨m2, hm2⟩ : ∃ z, l2.length = z := ⟨_, rfl⟩
  rw [hn1] at h1 ⊢
  rw [hn2] at h2 ⊢
  rw [hm1] at k1 ⊢
  rw [hm2] at k2 ⊢
  obtain ⟨N, hN⟩ : ∃ z, w.heap.size = z := ⟨_, rfl⟩
  obtain ⟨w1, hw1⟩ : ∃ z, (w.alloc (.cells #[.int .i64 v1, .int .u32 c1, .slice a1 n1 d1, .slice b1 m1 g1, .int .i64 s1] 40)).alloc (.cells #[.int .i64 v2, .int .u32 c2, .slice a2 n2 d2, .slice b2 m2 g2, .int .i64 s2] 40) = z := ⟨_, rfl⟩
  have ha : At w1 N #[.int .i64 v1, .int .u32 c1, .slice a1 n1 d1, .slice b1 m1 g1, .int .i64 s1] 40 := by
    rw [← hw1, ← hN]; exact (At.new w _ _).alloc _
  have hb : At w1 (N + 1) #[.int .i64 v2, .int .u32 c2, .slice a2 n2 d2, .slice b2 m2 g2, .int .i64 s2] 40 := by
    rw [← hw1, ← hN]
    have := At.new (w.alloc (.cells #[.int .i64 v1, .int .u32 c1, .slice a1 n1 d1, .slice b1 m1 g1, .int .i64 s1] 40)) #[.int .i64 v2, .int .u32 c2, .slice a2 n2 d2, .slice b2 m2 g2, .int .i64 s2] 40
    rwa [World.size_alloc] at this
  have hb1 : Below N w w1 := by
    rw [← hw1, ← hN]; exact ((Below.refl _ w).alloc (Nat.le_refl _) _).alloc (by simp) _
  have HC := Lib.hid (equalM_any (.slice a1 n1 d1) (.slice a2 n2 d2) xs ys w1 (h1.below hb1 (by omega)) (h2.below hb1 (by omega)) hx hy)
  have HE := Lib.hid (fun (W : World) (hW : Below w1.heap.size w1 W) => equalFd_any (.slice b1 m1 g1) (.slice b2 m2 g2) l1 l2 W ((k1.below hb1 (by omega)).below hW (Nat.le_refl _)) ((k2.below hb1 (by omega)).below hW (Nat.le_refl _)) f1 f2)
  have HB1 : Hid (Below w.heap.size w w1) := by rw [← hN] at hb1; exact hb1
  have HKA := Lib.hid ha
  have HKB := Lib.hid hb
  have p0 : w1.cell? ⟨N, 0, none⟩ = some (.int .i64 v1) := ha.cell rfl
  have p1 : w1.cell? ⟨N, 1, none⟩ = some (.int .u32 c1) := ha.cell rfl
  have p2 : w1.cell? ⟨N, 2, none⟩ = some (.slice a1 n1 d1) := ha.cell rfl
  have p3 : w1.cell? ⟨N, 3, none⟩ = some (.slice b1 m1 g1) := ha.cell rfl
  have p4 : w1.cell? ⟨N, 4, none⟩ = some (.int .i64 s1) := ha.cell rfl
  have y0 : w1.cell? ⟨N + 1, 0, none⟩ = some (.int .i64 v2) := hb.cell rfl
  have y1 : w1.cell? ⟨N + 1, 1, none⟩ = some (.int .u32 c2) := hb.cell rfl
  have y2 : w1.cell? ⟨N + 1, 2, none⟩ = some (.slice a2 n2 d2) := hb.cell rfl
  have y3 : w1.cell? ⟨N + 1, 3, none⟩ = some (.slice b2 m2 g2) := hb.cell rfl
  have y4 : w1.cell? ⟨N + 1, 4, none⟩ = some (.int .i64 s2) := hb.cell rfl
  unfold sameWd
  clear ha hb hb1 h1 h2 k1 k2 hn1 hn2 hm1 hm2 f1 f2
  by_cases e0 : v1 = v2
  · have t0 : (v1 == v2) = true := by simp [e0]
    by_cases e1 : c1 = c2
    · have t1 : (c1 == c2) = true := by simp [e1]
      by_cases e2 : xs = ys
      · rw [decide_eq_true e2] at HC
        by_cases e3 : l1 = l2
        · rw [decide_eq_true e3] at HE
          by_cases e4 : s1 = s2
          · rw [decide_eq_true ⟨e0, e1, e2, e3, e4⟩]
            have t4 : (s1 == s2) = true := by simp [e4]
            clear e0 e1 e2 e3 e4
            go_enter Tryz.func14, Tryz.ntmps14
            go_wp2_with (first | (go_at_call 29; refine HC.out.mono ?_; rintro e w3 ⟨rfl, n, hw3⟩; rw [hw3]; clear hw3) | (go_at_call 30; refine (HE.out _ (below_drN (Below.refl _ w1) _)).mono ?_; rintro e w5 ⟨rfl, hb5⟩; have p4' := cell_on hb5 p4; have y4' := cell_on hb5 y4))
            go_ret
            exact ⟨rfl, HB1.out.trans ((below_drN (Below.refl _ w1) _).trans hb5 |>.mono HB1.out.size)⟩
          · rw [decide_eq_false (fun h => e4 h.2.2.2.2)]
            have t4 := beq_falseW e4
            clear e0 e1 e2 e3 e4
            go_enter Tryz.func14, Tryz.ntmps14
            go_wp2_with (first | (go_at_call 29; refine HC.out.mono ?_; rintro e w3 ⟨rfl, n, hw3⟩; rw [hw3]; clear hw3) | (go_at_call 30; refine (HE.out _ (below_drN (Below.refl _ w1) _)).mono ?_; rintro e w5 ⟨rfl, hb5⟩; have p4' := cell_on hb5 p4; have y4' := cell_on hb5 y4))
            go_ret
            exact ⟨rfl, HB1.out.trans ((below_drN (Below.refl _ w1) _).trans hb5 |>.mono HB1.out.size)⟩
        · rw [decide_eq_false e3] at HE
          rw [decide_eq_false (fun h => e3 h.2.2.2.1)]
          clear e0 e1 e2 e3
          go_enter Tryz.func14, Tryz.ntmps14
          go_wp2_with (first | (go_at_call 29; refine HC.out.mono ?_; rintro e w3 ⟨rfl, n, hw3⟩; rw [hw3]; clear hw3) | (go_at_call 30; refine (HE.out _ (below_drN (Below.refl _ w1) _)).mono ?_; rintro e w5 ⟨rfl, hb5⟩))
          go_ret
          exact ⟨rfl, HB1.out.trans ((below_drN (Below.refl _ w1) _).trans hb5 |>.mono HB1.out.size)⟩
      · rw [decide_eq_false e2] at HC
        rw [decide_eq_false (fun h => e2 h.2.2.1)]
        clear e0 e1 e2
        go_enter Tryz.func14, Tryz.ntmps14
        go_wp2_with (go_at_call 29; refine HC.out.mono ?_; rintro e w3 ⟨rfl, n, hw3⟩; rw [hw3]; clear hw3)
        go_ret
        exact ⟨rfl, below_drN HB1.out _⟩
    · rw [decide_eq_false (fun h => e1 h.2.1)]
      have t1 := beq_falseW e1
      clear e0 e1
      go_enter Tryz.func14, Tryz.ntmps14
      go_wp2_with fail
      go_ret
      exact ⟨rfl, HB1.out⟩
  · rw [decide_eq_false (fun h => e0 h.1)]
    have t0 := beq_falseW e0
    clear e0
    go_enter Tryz.func14, Tryz.ntmps14
    go_wp2_with fail
    go_ret
    exact ⟨rfl, HB1.out⟩
set_option maxRecDepth 100000 in
set_option maxHeartbeats 4000000 in
theorem refSameWd_any (v1 c1 s1 v2 c2 s2 : Int) (r1 r2 q1 q2 : Value) (xs ys : List Int) (l1 l2 : List Fd) (w : World) (h1 : Rd w r1 (ints xs)) (h2 : Rd w r2 (ints ys)) (k1 : Fds w q1 l1) (k2 : Fds w q2 l2) (hx : xs.length ≤ 9223372036854775807) (_ : ys.length ≤ 9223372036854775807) (f1 : Fit l1) (f2 : Fit l2) :
    Calls Tryz.prog 15 #[.agg #[.int .i64 v1, .int .u32 c1, r1, q1, .int .i64 s1], .agg #[.int .i64 v2, .int .u32 c2, r2, q2, .int .i64 s2]] w fun e w' => e = .returned (.bool (sameWd v1 c1 s1 xs l1 v2 c2 s2 ys l2)) ∧ Below w.heap.size w w' := by
  obtain ⟨a1, d1, rfl⟩ := h1.len
  obtain ⟨a2, d2, rfl⟩ := h2.len
  obtain ⟨b1, g1, rfl⟩ := k1.len
  obtain ⟨b2, g2, rfl⟩ := k2.len
  obtain ⟨n1, hn1⟩ : ∃ z, (ints xs).length = z := ⟨_, rfl⟩
  obtain ⟨n2, hn2⟩ : ∃ z, (ints ys).length = z := ⟨_, rfl⟩
  obtain ⟨m1, hm1⟩ : ∃ z, l1.length = z := ⟨_, rfl⟩
  obtain ⟨m2, hm2⟩ : ∃ z, l2.length = z := ⟨_, rfl⟩
  rw [hn1] at h1 ⊢
  rw [hn2] at h2 ⊢
  rw [hm1] at k1 ⊢
  rw [hm2] at k2 ⊢
  obtain ⟨N, hN⟩ : ∃ z, w.heap.size = z := ⟨_, rfl⟩
  obtain ⟨w1, hw1⟩ : ∃ z, (w.alloc (.cells #[.int .i64 v1, .int .u32 c1, .slice a1 n1 d1, .slice b1 m1 g1, .int .i64 s1] 40)).alloc (.cells #[.int .i64 v2, .int .u32 c2, .slice a2 n2 d2, .slice b2 m2 g2, .int .i64 s2] 40) = z := ⟨_, rfl⟩
  have ha : At w1 N #[.int .i64 v1, .int .u32 c1, .slice a1 n1 d1, .slice b1 m1 g1, .int .i64 s1] 40 := by
    rw [← hw1, ← hN]; exact (At.new w _ _).alloc _
  have hb : At w1 (N + 1) #[.int .i64 v2, .int .u32 c2, .slice a2 n2 d2, .slice b2 m2 g2, .int .i64 s2] 40 := by
    rw [← hw1, ← hN]
    have := At.new (w.alloc (.cells #[.int .i64 v1, .int .u32 c1, .slice a1 n1 d1, .slice b1 m1 g1, .int .i64 s1] 40)) #[.int .i64 v2, .int .u32 c2, .slice a2 n2 d2, .slice b2 m2 g2, .int .i64 s2] 40
    rwa [World.size_alloc] at this
  have hb1 : Below N w w1 := by
    rw [← hw1, ← hN]; exact ((Below.refl _ w).alloc (Nat.le_refl _) _).alloc (by simp) _
  have HC := Lib.hid (refIntsM_any (.slice a1 n1 d1) (.slice a2 n2 d2) xs ys w1 (h1.below hb1 (by omega)) (h2.below hb1 (by omega)) hx)
  have H1 := Lib.hid (k1.below hb1 (by omega))
  have H2 := Lib.hid (k2.below hb1 (by omega))
  have HB1 : Hid (Below w.heap.size w w1) := by rw [← hN] at hb1; exact hb1
  have HKA := Lib.hid ha
  have HKB := Lib.hid hb
  have p0 : w1.cell? ⟨N, 0, none⟩ = some (.int .i64 v1) := ha.cell rfl
  have p1 : w1.cell? ⟨N, 1, none⟩ = some (.int .u32 c1) := ha.cell rfl
  have p2 : w1.cell? ⟨N, 2, none⟩ = some (.slice a1 n1 d1) := ha.cell rfl
  have p3 : w1.cell? ⟨N, 3, none⟩ = some (.slice b1 m1 g1) := ha.cell rfl
  have p4 : w1.cell? ⟨N, 4, none⟩ = some (.int .i64 s1) := ha.cell rfl
  have y0 : w1.cell? ⟨N + 1, 0, none⟩ = some (.int .i64 v2) := hb.cell rfl
  have y1 : w1.cell? ⟨N + 1, 1, none⟩ = some (.int .u32 c2) := hb.cell rfl
  have y2 : w1.cell? ⟨N + 1, 2, none⟩ = some (.slice a2 n2 d2) := hb.cell rfl
  have y3 : w1.cell? ⟨N + 1, 3, none⟩ = some (.slice b2 m2 g2) := hb.cell rfl
  have y4 : w1.cell? ⟨N + 1, 4, none⟩ = some (.int .i64 s2) := hb.cell rfl
  unfold sameWd
  clear ha hb hb1 h1 h2 k1 k2 hn1 hn2
  by_cases e0 : v1 = v2
  · have t0 := bne_falseW e0
    by_cases e1 : c1 = c2
    · have t1 := bne_falseW e1
      by_cases e4 : s1 = s2
      · have t4 := bne_falseW e4
        by_cases e2 : xs = ys
        · rw [decide_eq_true e2] at HC
          by_cases e5 : m1 = m2
          · subst e5
            obtain ⟨res, hres⟩ : ∃ res, decide (v1 = v2 ∧ c1 = c2 ∧ xs = ys ∧ l1 = l2 ∧ s1 = s2) = res := ⟨_, rfl⟩
            have hl : l1.length = l2.length := by omega
            have HSAME : Hid ((∀ j (h1 : j < l1.length) (h2 : j < l2.length), l1[j] = l2[j]) → res = true) := fun h => by rw [← hres]; exact decide_eq_true ⟨e0, e1, e2, list_same hl h, e4⟩
            have HBAD : Hid (∀ j (h1 : j < l1.length) (h2 : j < l2.length), l1[j] ≠ l2[j] → res = false) := fun j h1 h2 h => by rw [← hres]; exact decide_eq_false fun he => h (by obtain ⟨-, -, -, rfl, -⟩ := he; rfl)
            rw [hres]
            obtain ⟨g1', kk1⟩ := f1
            obtain ⟨g2', kk2⟩ := f2
            have K1 := Lib.hid kk1
            have K2 := Lib.hid kk2
            have HM1 := Lib.hid hm1
            have HM2 := Lib.hid hm2
            obtain ⟨m, hmm⟩ : ∃ m, m1 = m := ⟨_, rfl⟩
            have HMM := Lib.hid hmm
            rw [hmm] at hw1 p3 y3 H1 H2 HM1 HM2 HKA HKB ⊢
            have hm10 : m ≤ 10 := by rw [← HM1.out]; exact g1'
            clear hres e0 e1 e2 e4 hl kk1 kk2 hm1 hm2
            go_enter Tryz.func15, Tryz.ntmps15
            have HIN : Hid (∀ W, Below w1.heap.size w1 W → ∀ i (h1 : i < l1.length) (h2 : i < l2.length) (x5 x7 : Value), Rd W x5 (ints l1[i].r) → Rd W x7 (ints l2[i].r) → Calls Tryz.prog 11 #[.agg #[.int .i64 l1[i].v, .int .u32 l1[i].c, x5, .int .i64 l1[i].s], .agg #[.int .i64 l2[i].v, .int .u32 l2[i].c, x7, .int .i64 l2[i].s]] W fun e w' => e = .returned (.bool (decide (l1[i] = l2[i]))) ∧ Below W.heap.size W w') := fun W hW i h1 h2 x5 x7 r1 r2 => by
              rw [← sameF_fd]
              exact refSameM_any _ _ _ _ _ _ _ _ _ _ W r1 r2 (K1.out _ (List.getElem_mem h1))
            have tm : ((m : Int) != (m : Int)) = false := by simp
            go_wp2_with (go_at_call 23; refine HC.out.mono ?_; rintro e w3 ⟨rfl, n, hw3⟩; rw [hw3]; clear hw3)
            clear tm
            go_loopw [45] (fun x wr => ∃ i : Nat, i ≤ m ∧ x = .int .i64 (i : Int) ∧ Hid (∀ j (h1 : j < l1.length) (h2 : j < l2.length), j < i → l1[j] = l2[j]) ∧ Hid (Below w1.heap.size w1 wr)) (fun x _ => m - (intOf x).toNat)
            case atStart => exact ⟨0, by omega, rfl, fun _ _ _ h => by omega, below_drN (Below.refl _ _) _⟩
            case round =>
              obtain ⟨i, hi, rfl, HAL, HB⟩ := hrel
              by_cases hlt : i < m
              · have hi1 : i < l1.length := by rw [HM1.out]; exact hlt
                have hi2 : i < l2.length := by rw [HM2.out]; exact hlt
                have t1 := H1.out.below HB.out (Nat.le_refl _)
                have t2 := H2.out.below HB.out (Nat.le_refl _)
                obtain ⟨u1, o1, rfl, -⟩ := t1.addr (by omega)
                obtain ⟨u2, o2, rfl, -⟩ := t2.addr (by omega)
                obtain ⟨q1, x0, x1, x2, x3, hr1⟩ := t1.get i hi1
                obtain ⟨q2, z0, z1, z2, z3, hr2⟩ := t2.get i hi2
                have hlk := HIN.out wr.drew (HB.out.trans (Below.refl _ wr).drew) i hi1 hi2 q1 q2 hr1 hr2
                have HBK := Lib.hid (fun h => HBAD.out i hi1 hi2 h)
                have HGO : Hid (l1[i] = l2[i] → ∀ j (h1 : j < l1.length) (h2 : j < l2.length), j < i + 1 → l1[j] = l2[j]) := fun he j h1 h2 hj => by
                  by_cases hji : j = i
                  · subst hji; exact he
                  · exact HAL.out j h1 h2 (by omega)
                obtain ⟨x5, x6, rfl⟩ := hr1.len
                obtain ⟨x7, x8, rfl⟩ := hr2.len
                generalize l1[i] = f at *
                generalize l2[i] = g at *
                obtain ⟨nf, hnf⟩ : ∃ z, (ints f.r).length = z := ⟨_, rfl⟩
                obtain ⟨ng, hng⟩ : ∃ z, (ints g.r).length = z := ⟨_, rfl⟩
                rw [hnf] at x2 hlk
                rw [hng] at z2 hlk
                have him : (i : Int) < (m : Int) := by omega
                clear hr1 hr2 t1 t2 hnf hng hi1 hi2
                obtain ⟨bb, hbb⟩ : ∃ bb, decide (f = g) = bb := ⟨_, rfl⟩
                rw [hbb] at hlk
                have HBB := Lib.hid hbb
                clear hbb
                go_wp2_with fail
                refine wp_region_held_drew (S := fun W => W.cell? ⟨N, 3, none⟩ = some (.slice (some ⟨u1, o1, none⟩) m g1) ∧ W.cell? ⟨N + 1, 3, none⟩ = some (.slice (some ⟨u2, o2, none⟩) m g2) ∧ (W.cell? ⟨u1, o1 + i * 4, none⟩ = some (.int .i64 f.v) ∧ W.cell? ⟨u1, o1 + i * 4 + 1, none⟩ = some (.int .u32 f.c) ∧ W.cell? ⟨u1, o1 + i * 4 + 2, none⟩ = some (.slice x5 nf x6) ∧ W.cell? ⟨u1, o1 + i * 4 + 3, none⟩ = some (.int .i64 f.s)) ∧
                  W.cell? ⟨u2, o2 + i * 4, none⟩ = some (.int .i64 g.v) ∧ W.cell? ⟨u2, o2 + i * 4 + 1, none⟩ = some (.int .u32 g.c) ∧ W.cell? ⟨u2, o2 + i * 4 + 2, none⟩ = some (.slice x7 ng x8) ∧ W.cell? ⟨u2, o2 + i * 4 + 3, none⟩ = some (.int .i64 g.s))
                  (by kernel_rfl) ⟨cell_on HB.out p3, cell_on HB.out y3, ⟨x0, x1, x2, x3⟩, z0, z1, z2, z3⟩ (fun hS => ?_)
                refine wpAnyH_take (i := 0) (v := .pointer (some ⟨N, 3, none⟩)) rfl (by kernel_rfl) (by kernel_rfl) (by kernel_rfl) (fun _ _ _ h => h) (Or.inl ⟨by rfl, fun W5 hw5 => by go_simp⟩) hS ?_
                simp only [Act.put, List.setIfInBounds_toArray]
                refine wpAnyH_take (i := 1) (v := .slice (some ⟨u1, o1, none⟩) m g1) rfl (by kernel_rfl) (by kernel_rfl) (by kernel_rfl) (fun _ _ _ h => h) (Or.inl ⟨by rfl, fun W5 hw5 => by obtain ⟨j0, j1, ⟨j2, j3, j4, j5⟩, j6, j7, j8, j9⟩ := hw5; go_simp⟩) hS ?_
                simp only [Act.put]
                refine wpAnyH_take (i := 2) (v := .int .i64 (i : Int)) rfl (by kernel_rfl) (by kernel_rfl) (by kernel_rfl) (fun _ _ _ h => h) (Or.inl ⟨by rfl, fun W5 hw5 => by go_simp⟩) hS ?_
                simp only [Act.put]
                refine wpAnyH_take (i := 3) (v := .pointer (some ⟨u1, o1 + i * 4, none⟩)) rfl (by kernel_rfl) (by kernel_rfl) (by kernel_rfl) (fun _ _ _ h => h) (Or.inl ⟨by rfl, fun W5 hw5 => by go_simp⟩) hS ?_
                simp only [Act.put]
                refine wpAnyH_take (i := 4) (v := .agg #[.int .i64 f.v, .int .u32 f.c, .slice x5 nf x6, .int .i64 f.s]) rfl (by kernel_rfl) (by kernel_rfl) (by kernel_rfl) (fun _ _ _ h => h) (Or.inl ⟨by rfl, fun W5 hw5 => by obtain ⟨j0, j1, ⟨j2, j3, j4, j5⟩, j6, j7, j8, j9⟩ := hw5; go_simp⟩) hS ?_
                simp only [Act.put]
                refine wpAnyH_take (i := 5) (v := .pointer (some ⟨N + 1, 3, none⟩)) rfl (by kernel_rfl) (by kernel_rfl) (by kernel_rfl) (fun _ _ _ h => h) (Or.inl ⟨by rfl, fun W5 hw5 => by go_simp⟩) hS ?_
                simp only [Act.put]
                refine wpAnyH_take (i := 6) (v := .slice (some ⟨u2, o2, none⟩) m g2) rfl (by kernel_rfl) (by kernel_rfl) (by kernel_rfl) (fun _ _ _ h => h) (Or.inl ⟨by rfl, fun W5 hw5 => by obtain ⟨j0, j1, ⟨j2, j3, j4, j5⟩, j6, j7, j8, j9⟩ := hw5; go_simp⟩) hS ?_
                simp only [Act.put]
                refine wpAnyH_take (i := 7) (v := .int .i64 (i : Int)) rfl (by kernel_rfl) (by kernel_rfl) (by kernel_rfl) (fun _ _ _ h => h) (Or.inl ⟨by rfl, fun W5 hw5 => by go_simp⟩) hS ?_
                simp only [Act.put]
                refine wpAnyH_take (i := 8) (v := .pointer (some ⟨u2, o2 + i * 4, none⟩)) rfl (by kernel_rfl) (by kernel_rfl) (by kernel_rfl) (fun _ _ _ h => h) (Or.inl ⟨by rfl, fun W5 hw5 => by go_simp⟩) hS ?_
                simp only [Act.put]
                refine wpAnyH_take (i := 9) (v := .agg #[.int .i64 g.v, .int .u32 g.c, .slice x7 ng x8, .int .i64 g.s]) rfl (by kernel_rfl) (by kernel_rfl) (by kernel_rfl) (fun _ _ _ h => h) (Or.inl ⟨by rfl, fun W5 hw5 => by obtain ⟨j0, j1, ⟨j2, j3, j4, j5⟩, j6, j7, j8, j9⟩ := hw5; go_simp⟩) hS ?_
                simp only [Act.put]
                refine wpAnyH_ready (rs := [10]) (by kernel_rfl) (by simp) (AllReadyH.cons rfl (fun K5 hK5 => ?_) AllReadyH.nil)
                go_simp
                refine hlk.mono ?_
                rintro e w4 ⟨rfl, hb4⟩
                have hS4 := hS
                obtain ⟨j0, j1, ⟨j2, j3, j4, j5⟩, j6, j7, j8, j9⟩ := hS4
                refine hK5.out _ _ ⟨cell_on hb4 j0, cell_on hb4 j1, ⟨cell_on hb4 j2, cell_on hb4 j3, cell_on hb4 j4, cell_on hb4 j5⟩, cell_on hb4 j6, cell_on hb4 j7, cell_on hb4 j8, cell_on hb4 j9⟩ (fun hS => ?_)
                clear hK5 K5 hlk
                refine wpAnyH_take (i := 11) (v := .bool (!bb)) rfl (by kernel_rfl) (by kernel_rfl) (by kernel_rfl) (fun _ _ _ h => h) (Or.inl ⟨by rfl, fun W5 hw5 => by go_simp⟩) hS ?_
                simp only [Act.put]
                refine wpAnyH_done (by kernel_rfl) ?_ _
                have HB4 : Hid (Below w1.heap.size w1 w4) := (HB.out.trans (Below.refl _ wr).drew).trans (hb4.mono (by have := HB.out.size; exact this))
                clear hS hb4 j0 j1 j2 j3 j4 j5 j6 j7 j8 j9 x0 x1 x2 x3 z0 z1 z2 z3
                cases bb with
                | true =>
                  have HGO2 := Lib.hid (HGO.out (of_decide_eq_true HBB.out))
                  go_wp2
                  go_roundw
                  case rel => exact ⟨i + 1, by omega, by go_num, HGO2, HB4⟩
                  case measure => simp [intOf]; omega
                | false =>
                  have HRS := Lib.hid (HBK.out (of_decide_eq_false HBB.out))
                  go_wp2
                  go_ret
                  exact ⟨by rw [HRS.out]; rfl, HB1.out.trans (HB4.out.mono HB1.out.size)⟩
              · obtain rfl : i = m := by omega
                have HRS := Lib.hid (HSAME.out (fun j h1 h2 => HAL.out j h1 h2 (by rw [← HM1.out]; exact h1)))
                go_wp2_with fail
                go_ret
                exact ⟨by rw [HRS.out]; rfl, HB1.out.trans (HB.out.mono HB1.out.size)⟩
          · rw [decide_eq_false (fun h => e5 (by rw [← hm1, ← hm2, h.2.2.2.1]))]
            have t5 : ((m1 : Int) != (m2 : Int)) = true := by simp; omega
            clear e0 e1 e2 e4
            go_enter Tryz.func15, Tryz.ntmps15
            go_wp2_with (go_at_call 23; refine HC.out.mono ?_; rintro e w3 ⟨rfl, n, hw3⟩; rw [hw3]; clear hw3)
            go_ret
            exact ⟨rfl, below_drN HB1.out _⟩
        · rw [decide_eq_false e2] at HC
          rw [decide_eq_false (fun h => e2 h.2.2.1)]
          clear e0 e1 e2 e4
          go_enter Tryz.func15, Tryz.ntmps15
          go_wp2_with (go_at_call 23; refine HC.out.mono ?_; rintro e w3 ⟨rfl, n, hw3⟩; rw [hw3]; clear hw3)
          go_ret
          exact ⟨rfl, below_drN HB1.out _⟩
      · rw [decide_eq_false (fun h => e4 h.2.2.2.2)]
        have t4 := bne_trueW e4
        clear e0 e1 e4
        go_enter Tryz.func15, Tryz.ntmps15
        go_wp2_with fail
        go_ret
        exact ⟨rfl, HB1.out⟩
    · rw [decide_eq_false (fun h => e1 h.2.1)]
      have t1 := bne_trueW e1
      clear e0 e1
      go_enter Tryz.func15, Tryz.ntmps15
      go_wp2_with fail
      go_ret
      exact ⟨rfl, HB1.out⟩
  · rw [decide_eq_false (fun h => e0 h.1)]
    have t0 := bne_trueW e0
    clear e0
    go_enter Tryz.func15, Tryz.ntmps15
    go_wp2_with fail
    go_ret
    exact ⟨rfl, HB1.out⟩
end Go.Proofs.YtpjfhdljagkefaaGreatDoor
/- A region that draws its order, whose loads lie ahead of the stores that turn what they read: a load is taken first where what it reads stands until the store that waits for it. -/
namespace Go.Proofs.YtpjfhdljagkefaaGreatDoor

section
variable {P : Program} {ops : Array Oper} {Q : Exit → Act → World → Prop} {md : Region.Mode} {T : Nat → World → Prop}

/-- whatever order is picked from here on; and behind each operation T k holds of each number k that is still to come -/
def wpAnyK (P : Program) (md : Region.Mode) (ops : Array Oper) (Q : Exit → Act → World → Prop) (T : Nat → World → Prop) : Nat → Array Bool → Act → World → Prop
  | 0, listed, a, w => Region.ready md ops listed = [] ∧ Q .normal a w
  | fuel + 1, listed, a, w =>
    (Region.ready md ops listed = [] → Q .normal a w) ∧
    ∀ i ∈ Region.ready md ops listed, wpOp P ops Q i (fun a' w' => (∀ k, (listed.setIfInBounds i true).getD k true = false → T k w') ∧ wpAnyK P md ops Q T fuel (listed.setIfInBounds i true) a' w') a w
theorem wpAny_of_upto : ∀ (fuel : Nat) (listed : Array Bool) (a : Act) (w : World), wpAnyK P md ops Q T fuel listed a w → wpAny P md ops Q fuel listed a w
  | 0, _, _, _, h => h
  | fuel + 1, _, _, _, h => ⟨h.1, fun i hi => wpOp_mono (fun a' w' h' => wpAny_of_upto fuel _ a' w' h'.2) (h.2 i hi)⟩
/-- does number k wait for number i? -/
def waitsB (md : Region.Mode) (ops : Array Oper) (k i : Nat) : Bool := match ops[k]? with
  | some o => o.after.any fun e => Region.binds md e && e.on == i
  | none => false
theorem waits_spec {k i : Nat} (h : waitsB md ops k i = true) : ∃ o e, ops[k]? = some o ∧ e ∈ o.after ∧ Region.binds md e = true ∧ e.on = i := by
  unfold waitsB at h
  cases ho : ops[k]? with
  | none => rw [ho] at h; cases h
  | some o =>
    rw [ho] at h
    dsimp only at h
    obtain ⟨e, he, hb⟩ := Array.any_eq_true'.1 h
    simp only [Bool.and_eq_true, beq_iff_eq] at hb
    exact ⟨o, e, rfl, he, hb.1, hb.2⟩
theorem wpAnyK_first {i : Nat} {oi : Oper} {v : Value} (k : Nat) (hTi : ∀ w, T i w) (hi : ops[i]? = some oi) (hik : i ≠ k) (hw : waitsB md ops k i = true) (hsel : ∀ (j : Nat) (o : Oper) cs b, ops[j]? = some o → o.op ≠ .select cs b)
    (hQ : ∀ c a w, Q (.panic c) (a.put oi.dst v) w → Q (.panic c) a w) :
    ∀ (fuel : Nat) (listed : Array Bool) (a : Act) (w : World),
      (∀ j oj, ops[j]? = some oj → j ≠ i → listed.getD j true = false → (∀ e ∈ oj.after, Region.binds md e = true → e.on ≠ i) → oi.apart ops oj = true) →
      i ∈ Region.ready md ops listed → listed.getD k true = false → YieldsIf P ops (T k) oi v a → (∀ k, listed.getD k true = false → T k w) →
      wpAnyK P md ops Q T fuel (listed.setIfInBounds i true) (a.put oi.dst v) w → wpAnyK P md ops Q T (fuel + 1) listed a w := by
  intro fuel
  induction fuel with
  | zero =>
    intro listed a w _ hr hku hy hS H
    have hun' : ∀ {k' : Nat}, (listed.setIfInBounds i true).getD k' true = false → listed.getD k' true = false := fun {k'} h' => by
      by_cases e : i = k'
      · subst e; exact (mem_ready.1 hr).1
      · rw [getD_set_ne true e] at h'; exact h'
    refine ⟨fun h => (by rw [h] at hr; cases hr), fun j hj => ?_⟩
    by_cases hji : j = i
    · subst hji; exact hy.wpOp hi (hS k hku) ⟨fun k' hk' => hS k' (hun' hk'), H⟩
    · have := ready_mono hj hji
      rw [H.1] at this
      cases this
  | succ fuel ih =>
    intro listed a w hfree hr hku hy hS H
    have hun' : ∀ {k' : Nat}, (listed.setIfInBounds i true).getD k' true = false → listed.getD k' true = false := fun {k'} h' => by
      by_cases e : i = k'
      · subst e; exact (mem_ready.1 hr).1
      · rw [getD_set_ne true e] at h'; exact h'
    refine ⟨fun h => (by rw [h] at hr; cases hr), fun j hj => ?_⟩
    by_cases hji : j = i
    · subst hji; exact hy.wpOp hi (hS k hku) ⟨fun k' hk' => hS k' (hun' hk'), H⟩
    · have h1 := H.2 j (ready_mono hj hji)
      obtain ⟨hjun, oj, hoj, hall⟩ := mem_ready.1 hj
      have h0 := (mem_ready.1 hr).1
      have hun : listed.getD i false ≠ true := fun h1 => by
        rcases Nat.lt_or_ge i listed.size with h' | h'
        · simp [h'] at h0 h1; rw [h0] at h1; cases h1
        · simp [Array.getElem?_eq_none h'] at h1
      have hnot : ∀ e ∈ oj.after, Region.binds md e = true → e.on ≠ i := fun e he hb heq => by
        have h1 := hall e he hb
        rw [heq] at h1
        exact hun h1
      have hjk : j ≠ k := fun e => by
        subst e
        obtain ⟨o, e, ho, he, hb, hon⟩ := waits_spec hw
        rw [hoj] at ho
        cases ho
        exact hnot e he hb hon
      have hk2 : (listed.setIfInBounds j true).getD k true = false := by rw [getD_set_ne true hjk]; exact hku
      have h2 := wpOp_putIf hoj (hfree j oj hoj hji hjun hnot) (fun cs b => hsel i oi cs b hi) (fun cs b => hsel j oj cs b hoj) hQ hy h1
      have hfree' : ∀ k ok, ops[k]? = some ok → k ≠ i → (listed.setIfInBounds j true).getD k true = false →
          (∀ e ∈ ok.after, Region.binds md e = true → e.on ≠ i) → oi.apart ops ok = true := fun k ok hk hki hun hno => by
        refine hfree k ok hk hki ?_ hno
        by_cases hjk : j = k
        · subst hjk; exact hjun
        · rw [getD_set_ne true hjk] at hun; exact hun
      refine wpOp_mono (fun a' w' h3 => ?_) h2
      have hT : ∀ k', (listed.setIfInBounds j true).getD k' true = false → T k' w' := fun k' hk' => by
        by_cases e : i = k'
        · subst e; exact hTi w'
        · refine h3.2.1 k' ?_
          rw [← Array.setIfInBounds_comm _ _ hji, getD_set_ne true e]
          exact hk'
      refine ⟨hT, ih (listed.setIfInBounds j true) a' w' hfree' (ready_mono hr (Ne.symm hji)) hk2 h3.1 hT ?_⟩
      rw [Array.setIfInBounds_comm _ _ hji]
      exact h3.2.2
/-- number i may be taken first -/
theorem wpAnyK_take {i : Nat} {oi : Oper} {v : Value} {fuel : Nat} {listed : Array Bool} {a : Act} {w : World} (k : Nat) (hi : ops[i]? = some oi)
    (hs : Region.noSelect ops = true) (hf : Region.free md ops listed i = true) (hr : (Region.ready md ops listed).contains i = true) (hw : (waitsB md ops k i && (i != k) && !(listed.getD k true)) = true)
    (hQ : ∀ c a w, Q (.panic c) (a.put oi.dst v) w → Q (.panic c) a w) (hTi : ∀ w, T i w) (hy : YieldsIf P ops (T k) oi v a) (hS : ∀ k, listed.getD k true = false → T k w)
    (h : wpAnyK P md ops Q T fuel (listed.setIfInBounds i true) (a.put oi.dst v) w) : wpAnyK P md ops Q T (fuel + 1) listed a w := by
  simp only [Bool.and_eq_true, bne_iff_ne, Bool.not_eq_true'] at hw
  exact wpAnyK_first k hTi hi hw.1.2 hw.1.1 (Region.noSelect_spec hs) hQ fuel listed a w (Region.free_spec hi hf) (by simpa using hr) hw.2 hy hS h
/-- each of some numbers comes up next -/
def AllReadyK (P : Program) (md : Region.Mode) (ops : Array Oper) (Q : Exit → Act → World → Prop) (T : Nat → World → Prop) (fuel : Nat) (listed : Array Bool) (a : Act) (w : World) (rs : List Nat) : Prop :=
  ∀ i ∈ rs, wpOp P ops Q i (fun a' w' => (∀ k, (listed.setIfInBounds i true).getD k true = false → T k w') ∧ wpAnyK P md ops Q T fuel (listed.setIfInBounds i true) a' w') a w
theorem AllReadyK.nil {fuel : Nat} {listed : Array Bool} {a : Act} {w : World} : AllReadyK P md ops Q T fuel listed a w [] := fun _ h => by cases h
theorem AllReadyK.cons {fuel : Nat} {listed : Array Bool} {a : Act} {w : World} {i : Nat} {o : Oper} {rs : List Nat} (ho : ops[i]? = some o)
    (h : ∀ K' : Act → World → Prop, Shut (∀ a w, (∀ k, (listed.setIfInBounds i true).getD k true = false → T k w) → wpAnyK P md ops Q T fuel (listed.setIfInBounds i true) a w → K' a w) → if Region.wanted o (yielded ops a.tmps) = true then Oper.wp P o a w K' Q else K' (a.put o.dst undef) w)
    (hs : AllReadyK P md ops Q T fuel listed a w rs) : AllReadyK P md ops Q T fuel listed a w (i :: rs) := fun j hj => by
  rcases List.mem_cons.1 hj with rfl | hj
  · exact wpOp_step ho (fun K' hK => h K' (fun a w hT hW => hK a w ⟨hT, hW⟩))
  · exact hs j hj
theorem wpAnyK_ready {rs : List Nat} {fuel : Nat} {listed : Array Bool} {a : Act} {w : World} (hr : Region.ready md ops listed = rs) (hne : rs ≠ [])
    (h : AllReadyK P md ops Q T fuel listed a w rs) : wpAnyK P md ops Q T (fuel + 1) listed a w :=
  ⟨fun h0 => absurd (hr ▸ h0) hne, hr ▸ h⟩
theorem wpAnyK_done {listed : Array Bool} {a : Act} {w : World} (hr : Region.ready md ops listed = []) (h : Q .normal a w) : ∀ fuel, wpAnyK P md ops Q T fuel listed a w
  | 0 => ⟨hr, h⟩
  | _ + 1 => ⟨fun _ => h, by rw [hr]; simp⟩
theorem wp_region_upto {id : Nat} {a : Act} {w : World} (T : Nat → World → Prop) (hm : P.follows .mixedOrders = true)
    (h : wpAnyK P .any ops Q T ops.size (Array.replicate ops.size false) a w.drew) : (Code.region id ops true).wp P Q a w :=
  wp_region_any hm (wpAny_of_upto _ _ _ _ h)
/-- what a store turns is asked of no one behind it -/
theorem upto_all {listed : Array Bool} {w : World} (h : ∀ k, T k w) : ∀ k, listed.getD k true = false → T k w := fun k _ => h k
end
end Go.Proofs.YtpjfhdljagkefaaGreatDoor
/- A region that draws its order, whose operations only read and whose callees lay blocks of their own: walked once, in the order of the text, at the class of the worlds that lie over one. -/
namespace Go.Proofs.YtpjfhdljagkefaaGreatDoor
open Go.RowKit

/-- a world that lies over w: what lay in w lies as it lay -/
structure Ext (w : World) where
  wld : World
  below : Below w.heap.size w wld
instance (w : World) : Inhabited (Ext w) := ⟨⟨w, Below.refl _ w⟩⟩
theorem wp_region_ext {P : Program} {id : Nat} {Q : Exit → Act → World → Prop} {a : Act} {w : World} {l : List Oper} (hm : P.follows .mixedOrders = true) (hB : Region.lexB .any l.toArray = true)
    (h : wpQuiet P l.toArray (fun w' => ∃ p : Ext w, w' = p.wld) (fun a' => ∀ w', (∃ p : Ext w, w' = p.wld) → Q .normal a' w') l a) : (Code.region id l.toArray true).wp P Q a w :=
  wp_region_quiet (C := fun w' => ∃ p : Ext w, w' = p.wld) hm hB ⟨⟨w.drew, (Below.refl _ w).drew⟩, rfl⟩ (by simpa using h)
theorem calls_ext {P : Program} {f : FuncId} {args : Array Value} {w : World} {p : Ext w} {v : Value}
    (h : ∀ W, Below w.heap.size w W → Calls P f args W fun e w' => e = .returned v ∧ Below W.heap.size W w') : Calls P f args p.wld fun e w'' => e = .returned v ∧ ∃ q : Ext w, w'' = q.wld :=
  (h p.wld p.below).mono fun _ w' ⟨he, hb⟩ => ⟨he, ⟨w', p.below.trans (hb.mono p.below.size)⟩, rfl⟩
/-- a load in such a region, its run laid as an equation -/
theorem quiet_load {P : Program} {ops : Array Oper} {w : World} {Q : Act → Prop} {op : Oper} {rest : List Oper} {a : Act} (hw : Region.wanted op (yielded ops a.tmps) = true) (ty : TypeId) (x : Operand) (ho : op.op = .load ty x) {y v : Value} (hx : a.eval x = y)
    (he : ∀ p : Ext w, (Instr.loadAt ty y).run P p.wld = .ok v p.wld) (h : wpQuiet P ops (fun w' => ∃ p : Ext w, w' = p.wld) Q rest (a.put op.dst v)) : wpQuiet P ops (fun w' => ∃ p : Ext w, w' = p.wld) Q (op :: rest) a := by
  unfold wpQuiet
  rw [if_pos hw]
  refine ⟨v, ?_, h⟩
  rintro W ⟨p, rfl⟩
  unfold Oper.quietAt execOp
  simp only [ho, hx, Sem.run_bind, he p]
  exact ⟨rfl, rfl⟩
end Go.Proofs.YtpjfhdljagkefaaGreatDoor
