/- Merged: OpqE, OpqF. -/
import Derived.Test.YtjefmfbncjdofaaDoorMg21
import Derived.Test.YtjefmfbncjdofaaDoorOpqD
import Derived.Test.YtjefmfbncjdofaaDoorMg9
/- The walks of both packages' call that tells whether two checks' findings are the same. -/
namespace Go.Proofs.YtjefmfbncjdofaaDoor.WPlain
end Go.Proofs.YtjefmfbncjdofaaDoor.WPlain
namespace Go.Proofs.YtjefmfbncjdofaaDoor.QPlain
end Go.Proofs.YtjefmfbncjdofaaDoor.QPlain
namespace Go.Proofs.YtjefmfbncjdofaaDoor.RPlain
end Go.Proofs.YtjefmfbncjdofaaDoor.RPlain
namespace Go.Proofs.YtjefmfbncjdofaaDoor
open Go.RowKit WPlain QPlain RPlain

/-- are the two the same? -/
def sameC (v1 a1 c1 s1 v2 a2 c2 s2 : Int) (xs ys : List Int) : Bool := decide (v1 = v2 ∧ a1 = a2 ∧ c1 = c2 ∧ xs = ys ∧ s1 = s2)
theorem sameC_self (v1 a1 c1 s1 : Int) (xs : List Int) : sameC v1 a1 c1 s1 v1 a1 c1 s1 xs xs = true := by
  unfold sameC
  exact decide_eq_true ⟨rfl, rfl, rfl, rfl, rfl⟩
set_option maxRecDepth 100000 in
set_option maxHeartbeats 2000000 in
theorem likeC_any (v1 a1 c1 s1 v2 a2 c2 s2 : Int) (r1 r2 : Value) (xs ys : List Int) (w : World) (h1 : Rd w r1 (ints xs)) (h2 : Rd w r2 (ints ys)) (hx : xs.length ≤ 65536) (hy : ys.length ≤ 65536) :
    Calls Tryd.prog 8 #[.agg #[.int .i64 v1, .int .i64 a1, .int .u32 c1, r1, .int .i64 s1], .agg #[.int .i64 v2, .int .i64 a2, .int .u32 c2, r2, .int .i64 s2]] w fun e w' => e = .returned (.bool (sameC v1 a1 c1 s1 v2 a2 c2 s2 xs ys)) ∧ Below w.heap.size w w' := by
  obtain ⟨ga1, gd1, rfl⟩ := h1.len
  obtain ⟨ga2, gd2, rfl⟩ := h2.len
  obtain ⟨gn1, hn1⟩ : ∃ z, (ints xs).length = z := ⟨_, rfl⟩
  obtain ⟨gn2, hn2⟩ : ∃ z, (ints ys).length = z := ⟨_, rfl⟩
  rw [hn1] at h1 ⊢
  rw [hn2] at h2 ⊢
  obtain ⟨N, hN⟩ : ∃ z, w.heap.size = z := ⟨_, rfl⟩
  obtain ⟨w1, hw1⟩ : ∃ z, (w.alloc (.cells #[.int .i64 v1, .int .i64 a1, .int .u32 c1, .slice ga1 gn1 gd1, .int .i64 s1] 26)).alloc (.cells #[.int .i64 v2, .int .i64 a2, .int .u32 c2, .slice ga2 gn2 gd2, .int .i64 s2] 26) = z := ⟨_, rfl⟩
  have ha : At w1 N #[.int .i64 v1, .int .i64 a1, .int .u32 c1, .slice ga1 gn1 gd1, .int .i64 s1] 26 := by
    rw [← hw1, ← hN]; exact (At.new w _ _).alloc _
  have hb : At w1 (N + 1) #[.int .i64 v2, .int .i64 a2, .int .u32 c2, .slice ga2 gn2 gd2, .int .i64 s2] 26 := by
    rw [← hw1, ← hN]
    have := At.new (w.alloc (.cells #[.int .i64 v1, .int .i64 a1, .int .u32 c1, .slice ga1 gn1 gd1, .int .i64 s1] 26)) #[.int .i64 v2, .int .i64 a2, .int .u32 c2, .slice ga2 gn2 gd2, .int .i64 s2] 26
    rwa [World.size_alloc] at this
  have hb1 : Below N w w1 := by
    rw [← hw1, ← hN]; exact ((Below.refl _ w).alloc (Nat.le_refl _) _).alloc (by simp) _
  have HC := Lib.hid (equalI_any (.slice ga1 gn1 gd1) (.slice ga2 gn2 gd2) xs ys w1 (h1.below hb1 (by omega)) (h2.below hb1 (by omega)) hx hy)
  have HB1 : Hid (Below w.heap.size w w1) := by rw [← hN] at hb1; exact hb1
  have p0 : w1.cell? ⟨N, 0, none⟩ = some (.int .i64 v1) := ha.cell rfl
  have q0 : w1.cell? ⟨N + 1, 0, none⟩ = some (.int .i64 v2) := hb.cell rfl
  have p1 : w1.cell? ⟨N, 1, none⟩ = some (.int .i64 a1) := ha.cell rfl
  have q1 : w1.cell? ⟨N + 1, 1, none⟩ = some (.int .i64 a2) := hb.cell rfl
  have p2 : w1.cell? ⟨N, 2, none⟩ = some (.int .u32 c1) := ha.cell rfl
  have q2 : w1.cell? ⟨N + 1, 2, none⟩ = some (.int .u32 c2) := hb.cell rfl
  have p3 : w1.cell? ⟨N, 3, none⟩ = some (.slice ga1 gn1 gd1) := ha.cell rfl
  have q3 : w1.cell? ⟨N + 1, 3, none⟩ = some (.slice ga2 gn2 gd2) := hb.cell rfl
  have p4 : w1.cell? ⟨N, 4, none⟩ = some (.int .i64 s1) := ha.cell rfl
  have q4 : w1.cell? ⟨N + 1, 4, none⟩ = some (.int .i64 s2) := hb.cell rfl
  unfold sameC
  clear ha hb hb1 h1 h2 hn1 hn2
  by_cases e0 : v1 = v2
  · by_cases e1 : a1 = a2
    · by_cases e2 : c1 = c2
      · by_cases e3 : xs = ys
        · rw [decide_eq_true e3] at HC
          by_cases e4 : s1 = s2
          · rw [decide_eq_true ⟨e0, e1, e2, e3, e4⟩]
            have t0 : (v1 == v2) = true := by simp [e0]
            have t1 : (a1 == a2) = true := by simp [e1]
            have t2 : (c1 == c2) = true := by simp [e2]
            have t4 : (s1 == s2) = true := by simp [e4]
            clear e0 e1 e2 e3 e4
            go_enter Tryd.func8, Tryd.ntmps8
            go_wp2_with (go_at_call 19; refine HC.out.mono ?_; rintro e w3 ⟨rfl, n, hw3⟩; rw [hw3]; clear hw3)
            go_ret
            exact ⟨rfl, below_drN HB1.out _⟩
          · rw [decide_eq_false (fun h => e4 h.2.2.2.2)]
            have t0 : (v1 == v2) = true := by simp [e0]
            have t1 : (a1 == a2) = true := by simp [e1]
            have t2 : (c1 == c2) = true := by simp [e2]
            have t4 := beq_false' e4
            clear e0 e1 e2 e3 e4
            go_enter Tryd.func8, Tryd.ntmps8
            go_wp2_with (go_at_call 19; refine HC.out.mono ?_; rintro e w3 ⟨rfl, n, hw3⟩; rw [hw3]; clear hw3)
            go_ret
            exact ⟨rfl, below_drN HB1.out _⟩
        · rw [decide_eq_false e3] at HC
          rw [decide_eq_false (fun h => e3 h.2.2.2.1)]
          have t0 : (v1 == v2) = true := by simp [e0]
          have t1 : (a1 == a2) = true := by simp [e1]
          have t2 : (c1 == c2) = true := by simp [e2]
          clear e0 e1 e2 e3
          go_enter Tryd.func8, Tryd.ntmps8
          go_wp2_with (go_at_call 19; refine HC.out.mono ?_; rintro e w3 ⟨rfl, n, hw3⟩; rw [hw3]; clear hw3)
          go_ret
          exact ⟨rfl, below_drN HB1.out _⟩
      · rw [decide_eq_false (fun h => e2 h.2.2.1)]
        have t0 : (v1 == v2) = true := by simp [e0]
        have t1 : (a1 == a2) = true := by simp [e1]
        have t2 := beq_false' e2
        clear e0 e1 e2
        go_enter Tryd.func8, Tryd.ntmps8
        go_wp2_with fail
        go_ret
        exact ⟨rfl, HB1.out⟩
    · rw [decide_eq_false (fun h => e1 h.2.1)]
      have t0 : (v1 == v2) = true := by simp [e0]
      have t1 := beq_false' e1
      clear e0 e1
      go_enter Tryd.func8, Tryd.ntmps8
      go_wp2_with fail
      go_ret
      exact ⟨rfl, HB1.out⟩
  · rw [decide_eq_false (fun h => e0 h.1)]
    have t0 := beq_false' e0
    clear e0
    go_enter Tryd.func8, Tryd.ntmps8
    go_wp2_with fail
    go_ret
    exact ⟨rfl, HB1.out⟩
set_option maxRecDepth 100000 in
set_option maxHeartbeats 2000000 in
theorem refSameC_any (v1 a1 c1 s1 v2 a2 c2 s2 : Int) (r1 r2 : Value) (xs ys : List Int) (w : World) (h1 : Rd w r1 (ints xs)) (h2 : Rd w r2 (ints ys)) (hx : xs.length ≤ 65536) :
    Calls Tryd.prog 9 #[.agg #[.int .i64 v1, .int .i64 a1, .int .u32 c1, r1, .int .i64 s1], .agg #[.int .i64 v2, .int .i64 a2, .int .u32 c2, r2, .int .i64 s2]] w fun e w' => e = .returned (.bool (sameC v1 a1 c1 s1 v2 a2 c2 s2 xs ys)) ∧ Below w.heap.size w w' := by
  obtain ⟨ga1, gd1, rfl⟩ := h1.len
  obtain ⟨ga2, gd2, rfl⟩ := h2.len
  obtain ⟨gn1, hn1⟩ : ∃ z, (ints xs).length = z := ⟨_, rfl⟩
  obtain ⟨gn2, hn2⟩ : ∃ z, (ints ys).length = z := ⟨_, rfl⟩
  rw [hn1] at h1 ⊢
  rw [hn2] at h2 ⊢
  obtain ⟨N, hN⟩ : ∃ z, w.heap.size = z := ⟨_, rfl⟩
  obtain ⟨w1, hw1⟩ : ∃ z, (w.alloc (.cells #[.int .i64 v1, .int .i64 a1, .int .u32 c1, .slice ga1 gn1 gd1, .int .i64 s1] 26)).alloc (.cells #[.int .i64 v2, .int .i64 a2, .int .u32 c2, .slice ga2 gn2 gd2, .int .i64 s2] 26) = z := ⟨_, rfl⟩
  have ha : At w1 N #[.int .i64 v1, .int .i64 a1, .int .u32 c1, .slice ga1 gn1 gd1, .int .i64 s1] 26 := by
    rw [← hw1, ← hN]; exact (At.new w _ _).alloc _
  have hb : At w1 (N + 1) #[.int .i64 v2, .int .i64 a2, .int .u32 c2, .slice ga2 gn2 gd2, .int .i64 s2] 26 := by
    rw [← hw1, ← hN]
    have := At.new (w.alloc (.cells #[.int .i64 v1, .int .i64 a1, .int .u32 c1, .slice ga1 gn1 gd1, .int .i64 s1] 26)) #[.int .i64 v2, .int .i64 a2, .int .u32 c2, .slice ga2 gn2 gd2, .int .i64 s2] 26
    rwa [World.size_alloc] at this
  have hb1 : Below N w w1 := by
    rw [← hw1, ← hN]; exact ((Below.refl _ w).alloc (Nat.le_refl _) _).alloc (by simp) _
  have HC := Lib.hid (refIntsD_any (.slice ga1 gn1 gd1) (.slice ga2 gn2 gd2) xs ys w1 (h1.below hb1 (by omega)) (h2.below hb1 (by omega)) hx)
  have HB1 : Hid (Below w.heap.size w w1) := by rw [← hN] at hb1; exact hb1
  have p0 : w1.cell? ⟨N, 0, none⟩ = some (.int .i64 v1) := ha.cell rfl
  have q0 : w1.cell? ⟨N + 1, 0, none⟩ = some (.int .i64 v2) := hb.cell rfl
  have p1 : w1.cell? ⟨N, 1, none⟩ = some (.int .i64 a1) := ha.cell rfl
  have q1 : w1.cell? ⟨N + 1, 1, none⟩ = some (.int .i64 a2) := hb.cell rfl
  have p2 : w1.cell? ⟨N, 2, none⟩ = some (.int .u32 c1) := ha.cell rfl
  have q2 : w1.cell? ⟨N + 1, 2, none⟩ = some (.int .u32 c2) := hb.cell rfl
  have p3 : w1.cell? ⟨N, 3, none⟩ = some (.slice ga1 gn1 gd1) := ha.cell rfl
  have q3 : w1.cell? ⟨N + 1, 3, none⟩ = some (.slice ga2 gn2 gd2) := hb.cell rfl
  have p4 : w1.cell? ⟨N, 4, none⟩ = some (.int .i64 s1) := ha.cell rfl
  have q4 : w1.cell? ⟨N + 1, 4, none⟩ = some (.int .i64 s2) := hb.cell rfl
  unfold sameC
  clear ha hb hb1 h1 h2 hn1 hn2
  by_cases e0 : v1 = v2
  · by_cases e1 : a1 = a2
    · by_cases e2 : c1 = c2
      · by_cases e4 : s1 = s2
        · by_cases e3 : xs = ys
          · rw [decide_eq_true e3] at HC
            rw [decide_eq_true ⟨e0, e1, e2, e3, e4⟩]
            have t0 : (v1 == v2) = true := by simp [e0]
            have t1 : (a1 == a2) = true := by simp [e1]
            have t2 : (c1 == c2) = true := by simp [e2]
            have t4 : (s1 == s2) = true := by simp [e4]
            clear e0 e1 e2 e4 e3
            go_enter Tryd.func9, Tryd.ntmps9
            go_wp2_with (go_at_call 20; refine HC.out.mono ?_; rintro e w3 ⟨rfl, n, hw3⟩; rw [hw3]; clear hw3)
            go_ret
            exact ⟨rfl, below_drN HB1.out _⟩
          · rw [decide_eq_false e3] at HC
            rw [decide_eq_false (fun h => e3 h.2.2.2.1)]
            have t0 : (v1 == v2) = true := by simp [e0]
            have t1 : (a1 == a2) = true := by simp [e1]
            have t2 : (c1 == c2) = true := by simp [e2]
            have t4 : (s1 == s2) = true := by simp [e4]
            clear e0 e1 e2 e4 e3
            go_enter Tryd.func9, Tryd.ntmps9
            go_wp2_with (go_at_call 20; refine HC.out.mono ?_; rintro e w3 ⟨rfl, n, hw3⟩; rw [hw3]; clear hw3)
            go_ret
            exact ⟨rfl, below_drN HB1.out _⟩
        · rw [decide_eq_false (fun h => e4 h.2.2.2.2)]
          have t0 : (v1 == v2) = true := by simp [e0]
          have t1 : (a1 == a2) = true := by simp [e1]
          have t2 : (c1 == c2) = true := by simp [e2]
          have t4 := beq_false' e4
          clear e0 e1 e2 e4
          go_enter Tryd.func9, Tryd.ntmps9
          go_wp2_with fail
          go_ret
          exact ⟨rfl, HB1.out⟩
      · rw [decide_eq_false (fun h => e2 h.2.2.1)]
        have t0 : (v1 == v2) = true := by simp [e0]
        have t1 : (a1 == a2) = true := by simp [e1]
        have t2 := beq_false' e2
        clear e0 e1 e2
        go_enter Tryd.func9, Tryd.ntmps9
        go_wp2_with fail
        go_ret
        exact ⟨rfl, HB1.out⟩
    · rw [decide_eq_false (fun h => e1 h.2.1)]
      have t0 : (v1 == v2) = true := by simp [e0]
      have t1 := beq_false' e1
      clear e0 e1
      go_enter Tryd.func9, Tryd.ntmps9
      go_wp2_with fail
      go_ret
      exact ⟨rfl, HB1.out⟩
  · rw [decide_eq_false (fun h => e0 h.1)]
    have t0 := beq_false' e0
    clear e0
    go_enter Tryd.func9, Tryd.ntmps9
    go_wp2_with fail
    go_ret
    exact ⟨rfl, HB1.out⟩
/-- a finding, and what is found -/
theorem refSame_sameC (v a c s : Nat) (row : List Nat) (r1 r2 : Value) (w : World) (h1 : Rd w r1 (nats row)) (h2 : Rd w r2 (nats row)) (hx : row.length ≤ 65536) :
    Calls Tryd.prog 9 #[.agg #[.int .i64 (v : Int), .int .i64 (a : Int), .int .u32 (c : Int), r1, .int .i64 (s : Int)], .agg #[.int .i64 (v : Int), .int .i64 (a : Int), .int .u32 (c : Int), r2, .int .i64 (s : Int)]] w fun e w' => e = .returned (.bool true) ∧ Below w.heap.size w w' := by
  have e : nats row = ints (row.map fun (x : Nat) => (x : Int)) := by unfold nats ints; rw [List.map_map]; rfl
  rw [e] at h1 h2
  have := refSameC_any v a c s v a c s r1 r2 _ _ w h1 h2 (by rw [List.length_map]; exact hx)
  rw [sameC_self] at this
  exact this
end Go.Proofs.YtjefmfbncjdofaaDoor
/- The walks of recantlaw13's alive and fit. -/
namespace Go.Proofs.YtjefmfbncjdofaaDoor.WPlain
end Go.Proofs.YtjefmfbncjdofaaDoor.WPlain
namespace Go.Proofs.YtjefmfbncjdofaaDoor.QPlain
end Go.Proofs.YtjefmfbncjdofaaDoor.QPlain
namespace Go.Proofs.YtjefmfbncjdofaaDoor.RPlain
end Go.Proofs.YtjefmfbncjdofaaDoor.RPlain
namespace Go.Proofs.YtjefmfbncjdofaaDoor
open Go.RowKit WPlain QPlain RPlain

def hAlO : List Ev := [⟨0, 1, 0, 0⟩, ⟨1, 1, 0, 0⟩, ⟨2, 1, 0, 0⟩, ⟨3, 1, 0, 5⟩, ⟨8, 1, 0, 0⟩]
theorem srchE_aliveO : srchE hAlO 9 = 0 := by decide +kernel
theorem opqF_aliveO : opqF hAlO 9 = (1, 4, 0, [0], 4) := by decide +kernel
set_option maxRecDepth 100000 in
set_option maxHeartbeats 2000000 in
theorem aliveO_any (w : World) (hK : HasK w) : Calls Tryd.prog 10 #[] w fun e w' => e = .returned (.bool true) ∧ Below w.heap.size w w' := by
  have hb0 := (Below.refl w.heap.size w).alloc (Nat.le_refl _) (.cells (evsCells hAlO).toArray 58)
  have hE := evs_at 5 hAlO (At.new w (evsCells hAlO).toArray 58)
  have hT := opaque_any _ 5 hAlO 9 _ (hK.later hb0 (Nat.le_refl _)) hE (by simp [hAlO]) (by simp [hAlO])
  rw [srchE_aliveO, opqF_aliveO] at hT
  have hlen : hAlO.length = 5 := rfl
  rw [hlen] at hT
  simp only [evsCells, evCells, hAlO, List.flatMap_cons, List.flatMap_nil, List.append_nil, List.cons_append, List.nil_append] at hT hb0
  have HT := Lib.hid hT
  have HB0 := Lib.hid hb0
  clear hT hb0 hE hK hlen
  go_enter Tryd.func10, Tryd.ntmps10
  go_wp2_with fail
  refine HT.out.mono ?_
  rintro e w2 ⟨rv, rfl, hr, -, hb⟩
  have HB := Lib.hid (HB0.out.trans (hb.mono HB0.out.size))
  obtain ⟨b, c, rfl⟩ := hr.rd.len
  have hn2 : (nats [0]).length = 1 := rfl
  rw [hn2]
  obtain ⟨N, hN⟩ : ∃ N, w2.heap.size = N := ⟨_, rfl⟩
  obtain ⟨w3, hw3⟩ : ∃ w3, w2.alloc (.cells #[.int .i64 1, .int .i64 4, .int .u32 0, .slice b 1 c, .int .i64 4] 26) = w3 := ⟨_, rfl⟩
  have ha : At w3 N #[.int .i64 1, .int .i64 4, .int .u32 0, .slice b 1 c, .int .i64 4] 26 := by
    rw [← hw3, ← hN]; exact At.new w2 _ _
  have q0 : w3.cell? ⟨N, 0, none⟩ = some (.int .i64 1) := ha.cell rfl
  have q1 : w3.cell? ⟨N, 1, none⟩ = some (.int .i64 4) := ha.cell rfl
  have q2 : w3.cell? ⟨N, 2, none⟩ = some (.int .u32 0) := ha.cell rfl
  have q3 : w3.cell? ⟨N, 3, none⟩ = some (.slice b 1 c) := ha.cell rfl
  have hbw : Below w2.heap.size w2 w3 := by rw [← hw3]; exact (Below.refl _ w2).alloc (Nat.le_refl _) _
  have HB3 := Lib.hid (HB.out.trans (hbw.mono HB.out.size))
  clear hr hb hn2 ha hbw HT HB0 HB
  unfold chkV
  go_wp2_with fail
  go_ret
  exact ⟨rfl, HB3.out⟩
/-- a budget that is worked off soon -/
def fitB (B : Int) : Int := if 3000 < B ∧ B ≤ 1000000 then 3000 else B
set_option maxHeartbeats 1000000 in
theorem fit_any (B : Int) (w : World) : Calls Tryd.prog 6 #[.int .i64 B] w fun e w' => e = .returned (.int .i64 (fitB B)) ∧ w' = w := by
  unfold fitB
  by_cases h1 : 3000 < B
  · by_cases h2 : B ≤ 1000000
    · rw [if_pos ⟨h1, h2⟩]
      go_enter Tryd.func6, Tryd.ntmps6
      go_wp2_with fail
      go_ret
      exact ⟨rfl, rfl⟩
    · rw [if_neg (fun h => h2 h.2)]
      go_enter Tryd.func6, Tryd.ntmps6
      go_wp2_with fail
      go_ret
      exact ⟨rfl, rfl⟩
  · rw [if_neg (fun h => h1 h.1)]
    go_enter Tryd.func6, Tryd.ntmps6
    go_wp2_with fail
    go_ret
    exact ⟨rfl, rfl⟩
theorem fitB_small {B : Int} (h : B ≤ 1000000) : fitB B ≤ 3000 := by unfold fitB; split <;> omega
end Go.Proofs.YtjefmfbncjdofaaDoor
