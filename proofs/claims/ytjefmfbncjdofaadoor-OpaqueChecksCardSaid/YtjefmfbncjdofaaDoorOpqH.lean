/- The walk of OpaqueChecks. -/
import Derived.Test.YtjefmfbncjdofaaDoorMg24
import Derived.Test.YtjefmfbncjdofaaDoorOpqG
import Derived.Test.YtjefmfbncjdofaaDoorMg23
import Derived.Test.YtjefmfbncjdofaaDoorMg19
import Derived.BigQuiet
import Derived.Deep.RegionHeld
import Derived.Deep.DeepMust
namespace Go.Proofs.YtjefmfbncjdofaaDoor.WPlain
end Go.Proofs.YtjefmfbncjdofaaDoor.WPlain
namespace Go.Proofs.YtjefmfbncjdofaaDoor.QPlain
end Go.Proofs.YtjefmfbncjdofaaDoor.QPlain
namespace Go.Proofs.YtjefmfbncjdofaaDoor.RPlain
end Go.Proofs.YtjefmfbncjdofaaDoor.RPlain
namespace Go.Proofs.YtjefmfbncjdofaaDoor
open Go.RowKit WPlain QPlain RPlain

set_option maxRecDepth 100000 in
set_option maxHeartbeats 8000000 in
theorem opqChecks_walk (a : Option Addr) (n m c : Nat) (h : List Ev) (B : Int) (v1 t1 c1 s1 : Int) (a1 : Option Addr) (n1 d1 m1 : Nat) (xs : List Int) (v2 t2 c2 s2 : Int) (a2 : Option Addr) (n2 d2 m2 : Nat) (ys : List Int) (w : World) (hK : HasK w)
    (hn : n ≤ c) (hn1 : n1 ≤ d1) (hn2 : n2 ≤ d2) (HAE : Hid ((min (n : Int) 62).toNat = m)) (HA1 : Hid ((min (n1 : Int) 10).toNat = m1)) (HA2 : Hid ((min (n2 : Int) 10).toNat = m2)) (hmn : m ≤ n)
    (hv : Evs w (.slice a m c) h) (hxs : Rd w (.slice a1 m1 d1) (ints xs)) (hys : Rd w (.slice a2 m2 d2) (ints ys)) (h1 : h.length = m) (hm1 : m ≤ 62) (hxl : xs.length ≤ 10) (hyl : ys.length ≤ 10) :
    Calls Tryd.prog 3 #[.slice a n c, .int .i64 B, .agg #[.int .i64 v1, .int .i64 t1, .int .u32 c1, .slice a1 n1 d1, .int .i64 s1], .agg #[.int .i64 v2, .int .i64 t2, .int .u32 c2, .slice a2 n2 d2, .int .i64 s2]] w fun e w' => e = .returned (.bool true) ∧ Below w.heap.size w w' := by
  obtain ⟨N, hN⟩ : ∃ z, w.heap.size = z := ⟨_, rfl⟩
  obtain ⟨w1, hw1⟩ : ∃ z, (w.alloc (.cells #[.int .i64 v1, .int .i64 t1, .int .u32 c1, .slice a1 n1 d1, .int .i64 s1] 26)).alloc (.cells #[.int .i64 v2, .int .i64 t2, .int .u32 c2, .slice a2 n2 d2, .int .i64 s2] 26) = z := ⟨_, rfl⟩
  have ha : At w1 N #[.int .i64 v1, .int .i64 t1, .int .u32 c1, .slice a1 n1 d1, .int .i64 s1] 26 := by
    rw [← hw1, ← hN]; exact (At.new w _ _).alloc _
  have hb : At w1 (N + 1) #[.int .i64 v2, .int .i64 t2, .int .u32 c2, .slice a2 n2 d2, .int .i64 s2] 26 := by
    rw [← hw1, ← hN]
    have := At.new (w.alloc (.cells #[.int .i64 v1, .int .i64 t1, .int .u32 c1, .slice a1 n1 d1, .int .i64 s1] 26)) #[.int .i64 v2, .int .i64 t2, .int .u32 c2, .slice a2 n2 d2, .int .i64 s2] 26
    rwa [World.size_alloc] at this
  have hb1 : Below N w w1 := by
    rw [← hw1, ← hN]; exact ((Below.refl _ w).alloc (Nat.le_refl _) _).alloc (by simp) _
  have p2 : w1.cell? ⟨N, 3, none⟩ = some (.slice a1 n1 d1) := ha.cell rfl
  have q2 : w1.cell? ⟨N + 1, 3, none⟩ = some (.slice a2 n2 d2) := hb.cell rfl
  have pf2 : w1.frozen? ⟨N, 3, none⟩ = false := ha.free 3
  have qf2 : w1.frozen? ⟨N + 1, 3, none⟩ = false := hb.free 3
  have HA := Lib.hid ha
  have HB := Lib.hid hb
  have HB1 := Lib.hid hb1
  have HK := Lib.hid hK
  have HV := Lib.hid hv
  have HXS := Lib.hid hxs
  have HYS := Lib.hid hys
  clear ha hb hb1 hK hv hxs hys
  go_enter Tryd.func3, Tryd.ntmps3
  go_wp2_with fail
  have g0 : (0 : Int) ≤ min (n : Int) 62 := by omega
  have g1 : ¬ (c : Int) < min (n : Int) 62 := by omega
  have g2 : (0 : Int) ≤ min (n1 : Int) 10 := by omega
  have g3 : ¬ (d1 : Int) < min (n1 : Int) 10 := by omega
  have g4 : (0 : Int) ≤ min (n2 : Int) 10 := by omega
  have g5 : ¬ (d2 : Int) < min (n2 : Int) 10 := by omega
  have HT : ∀ k, (fun (k : Nat) (W : World) => (k = 23 → W.cell? ⟨N, 3, none⟩ = some (.slice a1 n1 d1)) ∧ (k = 25 → W.cell? ⟨N + 1, 3, none⟩ = some (.slice a2 n2 d2))) k w1.drew := fun k => ⟨fun _ => p2, fun _ => q2⟩
  have HT1 : (w1.setCell ⟨N, 3, none⟩ (.slice a1 (min (n1 : Int) 10).toNat d1)).drew.cell? ⟨N + 1, 3, none⟩ = some (.slice a2 n2 d2) := (World.cell?_setCell_far _ _ _ _ (by simp)).trans q2
  have HF1 : (w1.setCell ⟨N, 3, none⟩ (.slice a1 (min (n1 : Int) 10).toNat d1)).drew.frozen? ⟨N + 1, 3, none⟩ = false := (HB.out.other (a := ⟨N, 3, none⟩) (by simp) _).free 3
  refine wp_region_upto (fun (k : Nat) (W : World) => (k = 23 → W.cell? ⟨N, 3, none⟩ = some (.slice a1 n1 d1)) ∧ (k = 25 → W.cell? ⟨N + 1, 3, none⟩ = some (.slice a2 n2 d2))) (by kernel_rfl) ?_
  refine wpAnyK_take (i := 0) (v := .slice a n c) 26 rfl (by kernel_rfl) (by kernel_rfl) (by kernel_rfl) (by kernel_rfl) (fun _ _ _ h => h) (fun _ => ⟨fun h => absurd h (by decide), fun h => absurd h (by decide)⟩) (Or.inl ⟨by rfl, fun w' hw' => by go_simp⟩) (fun k _ => HT k) ?_
  simp only [Act.put, List.getElem_toArray, List.getElem_cons_zero, List.setIfInBounds_toArray, List.set_cons_zero, List.set_cons_succ]
  refine wpAnyK_take (i := 1) (v := .slice a n c) 26 rfl (by kernel_rfl) (by kernel_rfl) (by kernel_rfl) (by kernel_rfl) (fun _ _ _ h => h) (fun _ => ⟨fun h => absurd h (by decide), fun h => absurd h (by decide)⟩) (Or.inl ⟨by rfl, fun w' hw' => by go_simp⟩) (fun k _ => HT k) ?_
  simp only [Act.put, List.getElem_toArray, List.getElem_cons_zero, List.getElem_cons_succ, List.setIfInBounds_toArray, List.set_cons_zero, List.set_cons_succ]
  refine wpAnyK_take (i := 2) (v := .int .i64 (n : Int)) 26 rfl (by kernel_rfl) (by kernel_rfl) (by kernel_rfl) (by kernel_rfl) (fun _ _ _ h => h) (fun _ => ⟨fun h => absurd h (by decide), fun h => absurd h (by decide)⟩) (Or.inl ⟨by rfl, fun w' hw' => by go_simp⟩) (fun k _ => HT k) ?_
  simp only [Act.put, List.getElem_toArray, List.getElem_cons_zero, List.getElem_cons_succ, List.setIfInBounds_toArray, List.set_cons_zero, List.set_cons_succ]
  refine wpAnyK_take (i := 3) (v := .int .i64 (min (n : Int) 62)) 26 rfl (by kernel_rfl) (by kernel_rfl) (by kernel_rfl) (by kernel_rfl) (fun _ _ _ h => h) (fun _ => ⟨fun h => absurd h (by decide), fun h => absurd h (by decide)⟩) (Or.inl ⟨by rfl, fun w' hw' => by go_simp⟩) (fun k _ => HT k) ?_
  simp only [Act.put, List.getElem_toArray, List.getElem_cons_zero, List.getElem_cons_succ, List.setIfInBounds_toArray, List.set_cons_zero, List.set_cons_succ]
  refine wpAnyK_take (i := 4) (v := .slice a (min (n : Int) 62).toNat c) 26 rfl (by kernel_rfl) (by kernel_rfl) (by kernel_rfl) (by kernel_rfl) (fun _ _ _ h => h) (fun _ => ⟨fun h => absurd h (by decide), fun h => absurd h (by decide)⟩) (Or.inl ⟨by rfl, fun w' hw' => by go_simp⟩) (fun k _ => HT k) ?_
  simp only [Act.put, List.getElem_toArray, List.getElem_cons_zero, List.getElem_cons_succ, List.setIfInBounds_toArray, List.set_cons_zero, List.set_cons_succ]
  refine wpAnyK_take (i := 5) (v := .pointer (some ⟨N, 3, none⟩)) 26 rfl (by kernel_rfl) (by kernel_rfl) (by kernel_rfl) (by kernel_rfl) (fun _ _ _ h => h) (fun _ => ⟨fun h => absurd h (by decide), fun h => absurd h (by decide)⟩) (Or.inl ⟨by rfl, fun w' hw' => by go_simp⟩) (fun k _ => HT k) ?_
  simp only [Act.put, List.getElem_toArray, List.getElem_cons_zero, List.getElem_cons_succ, List.setIfInBounds_toArray, List.set_cons_zero, List.set_cons_succ]
  refine wpAnyK_take (i := 6) (v := .slice a1 n1 d1) 23 rfl (by kernel_rfl) (by kernel_rfl) (by kernel_rfl) (by kernel_rfl) (fun _ _ _ h => h) (fun _ => ⟨fun h => absurd h (by decide), fun h => absurd h (by decide)⟩) (Or.inl ⟨by rfl, fun w' hw' => by have z := hw'.1 rfl; go_simp⟩) (fun k _ => HT k) ?_
  simp only [Act.put, List.getElem_toArray, List.getElem_cons_zero, List.getElem_cons_succ, List.setIfInBounds_toArray, List.set_cons_zero, List.set_cons_succ]
  refine wpAnyK_take (i := 7) (v := .pointer (some ⟨N, 3, none⟩)) 26 rfl (by kernel_rfl) (by kernel_rfl) (by kernel_rfl) (by kernel_rfl) (fun _ _ _ h => h) (fun _ => ⟨fun h => absurd h (by decide), fun h => absurd h (by decide)⟩) (Or.inl ⟨by rfl, fun w' hw' => by go_simp⟩) (fun k _ => HT k) ?_
  simp only [Act.put, List.getElem_toArray, List.getElem_cons_zero, List.getElem_cons_succ, List.setIfInBounds_toArray, List.set_cons_zero, List.set_cons_succ]
  refine wpAnyK_take (i := 8) (v := .slice a1 n1 d1) 23 rfl (by kernel_rfl) (by kernel_rfl) (by kernel_rfl) (by kernel_rfl) (fun _ _ _ h => h) (fun _ => ⟨fun h => absurd h (by decide), fun h => absurd h (by decide)⟩) (Or.inl ⟨by rfl, fun w' hw' => by have z := hw'.1 rfl; go_simp⟩) (fun k _ => HT k) ?_
  simp only [Act.put, List.getElem_toArray, List.getElem_cons_zero, List.getElem_cons_succ, List.setIfInBounds_toArray, List.set_cons_zero, List.set_cons_succ]
  refine wpAnyK_take (i := 9) (v := .int .i64 (n1 : Int)) 26 rfl (by kernel_rfl) (by kernel_rfl) (by kernel_rfl) (by kernel_rfl) (fun _ _ _ h => h) (fun _ => ⟨fun h => absurd h (by decide), fun h => absurd h (by decide)⟩) (Or.inl ⟨by rfl, fun w' hw' => by go_simp⟩) (fun k _ => HT k) ?_
  simp only [Act.put, List.getElem_toArray, List.getElem_cons_zero, List.getElem_cons_succ, List.setIfInBounds_toArray, List.set_cons_zero, List.set_cons_succ]
  refine wpAnyK_take (i := 10) (v := .int .i64 (min (n1 : Int) 10)) 26 rfl (by kernel_rfl) (by kernel_rfl) (by kernel_rfl) (by kernel_rfl) (fun _ _ _ h => h) (fun _ => ⟨fun h => absurd h (by decide), fun h => absurd h (by decide)⟩) (Or.inl ⟨by rfl, fun w' hw' => by go_simp⟩) (fun k _ => HT k) ?_
  simp only [Act.put, List.getElem_toArray, List.getElem_cons_zero, List.getElem_cons_succ, List.setIfInBounds_toArray, List.set_cons_zero, List.set_cons_succ]
  refine wpAnyK_take (i := 11) (v := .slice a1 (min (n1 : Int) 10).toNat d1) 26 rfl (by kernel_rfl) (by kernel_rfl) (by kernel_rfl) (by kernel_rfl) (fun _ _ _ h => h) (fun _ => ⟨fun h => absurd h (by decide), fun h => absurd h (by decide)⟩) (Or.inl ⟨by rfl, fun w' hw' => by go_simp⟩) (fun k _ => HT k) ?_
  simp only [Act.put, List.getElem_toArray, List.getElem_cons_zero, List.getElem_cons_succ, List.setIfInBounds_toArray, List.set_cons_zero, List.set_cons_succ]
  refine wpAnyK_take (i := 12) (v := .pointer (some ⟨N + 1, 3, none⟩)) 26 rfl (by kernel_rfl) (by kernel_rfl) (by kernel_rfl) (by kernel_rfl) (fun _ _ _ h => h) (fun _ => ⟨fun h => absurd h (by decide), fun h => absurd h (by decide)⟩) (Or.inl ⟨by rfl, fun w' hw' => by go_simp⟩) (fun k _ => HT k) ?_
  simp only [Act.put, List.getElem_toArray, List.getElem_cons_zero, List.getElem_cons_succ, List.setIfInBounds_toArray, List.set_cons_zero, List.set_cons_succ]
  refine wpAnyK_take (i := 13) (v := .slice a2 n2 d2) 25 rfl (by kernel_rfl) (by kernel_rfl) (by kernel_rfl) (by kernel_rfl) (fun _ _ _ h => h) (fun _ => ⟨fun h => absurd h (by decide), fun h => absurd h (by decide)⟩) (Or.inl ⟨by rfl, fun w' hw' => by have z := hw'.2 rfl; go_simp⟩) (fun k _ => HT k) ?_
  simp only [Act.put, List.getElem_toArray, List.getElem_cons_zero, List.getElem_cons_succ, List.setIfInBounds_toArray, List.set_cons_zero, List.set_cons_succ]
  refine wpAnyK_take (i := 14) (v := .pointer (some ⟨N + 1, 3, none⟩)) 26 rfl (by kernel_rfl) (by kernel_rfl) (by kernel_rfl) (by kernel_rfl) (fun _ _ _ h => h) (fun _ => ⟨fun h => absurd h (by decide), fun h => absurd h (by decide)⟩) (Or.inl ⟨by rfl, fun w' hw' => by go_simp⟩) (fun k _ => HT k) ?_
  simp only [Act.put, List.getElem_toArray, List.getElem_cons_zero, List.getElem_cons_succ, List.setIfInBounds_toArray, List.set_cons_zero, List.set_cons_succ]
  refine wpAnyK_take (i := 15) (v := .slice a2 n2 d2) 25 rfl (by kernel_rfl) (by kernel_rfl) (by kernel_rfl) (by kernel_rfl) (fun _ _ _ h => h) (fun _ => ⟨fun h => absurd h (by decide), fun h => absurd h (by decide)⟩) (Or.inl ⟨by rfl, fun w' hw' => by have z := hw'.2 rfl; go_simp⟩) (fun k _ => HT k) ?_
  simp only [Act.put, List.getElem_toArray, List.getElem_cons_zero, List.getElem_cons_succ, List.setIfInBounds_toArray, List.set_cons_zero, List.set_cons_succ]
  refine wpAnyK_take (i := 16) (v := .int .i64 (n2 : Int)) 26 rfl (by kernel_rfl) (by kernel_rfl) (by kernel_rfl) (by kernel_rfl) (fun _ _ _ h => h) (fun _ => ⟨fun h => absurd h (by decide), fun h => absurd h (by decide)⟩) (Or.inl ⟨by rfl, fun w' hw' => by go_simp⟩) (fun k _ => HT k) ?_
  simp only [Act.put, List.getElem_toArray, List.getElem_cons_zero, List.getElem_cons_succ, List.setIfInBounds_toArray, List.set_cons_zero, List.set_cons_succ]
  refine wpAnyK_take (i := 17) (v := .int .i64 (min (n2 : Int) 10)) 26 rfl (by kernel_rfl) (by kernel_rfl) (by kernel_rfl) (by kernel_rfl) (fun _ _ _ h => h) (fun _ => ⟨fun h => absurd h (by decide), fun h => absurd h (by decide)⟩) (Or.inl ⟨by rfl, fun w' hw' => by go_simp⟩) (fun k _ => HT k) ?_
  simp only [Act.put, List.getElem_toArray, List.getElem_cons_zero, List.getElem_cons_succ, List.setIfInBounds_toArray, List.set_cons_zero, List.set_cons_succ]
  refine wpAnyK_take (i := 18) (v := .slice a2 (min (n2 : Int) 10).toNat d2) 26 rfl (by kernel_rfl) (by kernel_rfl) (by kernel_rfl) (by kernel_rfl) (fun _ _ _ h => h) (fun _ => ⟨fun h => absurd h (by decide), fun h => absurd h (by decide)⟩) (Or.inl ⟨by rfl, fun w' hw' => by go_simp⟩) (fun k _ => HT k) ?_
  simp only [Act.put, List.getElem_toArray, List.getElem_cons_zero, List.getElem_cons_succ, List.setIfInBounds_toArray, List.set_cons_zero, List.set_cons_succ]
  refine wpAnyK_take (i := 19) (v := .int .i64 B) 26 rfl (by kernel_rfl) (by kernel_rfl) (by kernel_rfl) (by kernel_rfl) (fun _ _ _ h => h) (fun _ => ⟨fun h => absurd h (by decide), fun h => absurd h (by decide)⟩) (Or.inl ⟨by rfl, fun w' hw' => by go_simp⟩) (fun k _ => HT k) ?_
  simp only [Act.put, List.getElem_toArray, List.getElem_cons_zero, List.getElem_cons_succ, List.setIfInBounds_toArray, List.set_cons_zero, List.set_cons_succ]
  refine wpAnyK_ready (rs := [20]) (by kernel_rfl) (by simp) (AllReadyK.cons rfl (fun K hK => ?_) AllReadyK.nil)
  go_simp
  refine (fit_any B _).mono ?_
  rintro e w' ⟨rfl, rfl⟩
  refine hK.out _ _ (fun k _ => HT k) ?_
  clear hK K
  refine wpAnyK_take (i := 21) (v := .slice a (min (n : Int) 62).toNat c) 23 rfl (by kernel_rfl) (by kernel_rfl) (by kernel_rfl) (by kernel_rfl) (fun _ _ _ h => h) (fun _ => ⟨fun h => absurd h (by decide), fun h => absurd h (by decide)⟩) (Or.inl ⟨by rfl, fun w' hw' => by go_simp⟩) (fun k _ => HT k) ?_
  simp only [Act.put, List.getElem_toArray, List.getElem_cons_zero, List.getElem_cons_succ, List.setIfInBounds_toArray, List.set_cons_zero]
  refine wpAnyK_take (i := 22) (v := .pointer (some ⟨N, 3, none⟩)) 23 rfl (by kernel_rfl) (by kernel_rfl) (by kernel_rfl) (by kernel_rfl) (fun _ _ _ h => h) (fun _ => ⟨fun h => absurd h (by decide), fun h => absurd h (by decide)⟩) (Or.inl ⟨by rfl, fun w' hw' => by go_simp⟩) (fun k _ => HT k) ?_
  simp only [Act.put, List.getElem_toArray, List.getElem_cons_zero, List.getElem_cons_succ, List.setIfInBounds_toArray, List.set_cons_zero, List.set_cons_succ]
  refine wpAnyK_ready (rs := [23]) (by kernel_rfl) (by simp) (AllReadyK.cons rfl (fun K hK => ?_) AllReadyK.nil)
  go_simp
  refine hK.out _ _ (fun k hk => ⟨fun e => by subst e; exact absurd (show true = false from hk) (by decide), fun _ => HT1⟩) ?_
  clear hK K
  refine wpAnyK_take (i := 24) (v := .pointer (some ⟨N + 1, 3, none⟩)) 25 rfl (by kernel_rfl) (by kernel_rfl) (by kernel_rfl) (by kernel_rfl) (fun _ _ _ h => h) (fun _ => ⟨fun h => absurd h (by decide), fun h => absurd h (by decide)⟩) (Or.inl ⟨by rfl, fun w' hw' => by go_simp⟩) (fun k hk => ⟨fun e => by subst e; exact absurd (show true = false from hk) (by decide), fun _ => HT1⟩) ?_
  simp only [Act.put, List.getElem_toArray, List.getElem_cons_zero, List.getElem_cons_succ, List.setIfInBounds_toArray, List.set_cons_zero, List.set_cons_succ]
  refine wpAnyK_ready (rs := [25]) (by kernel_rfl) (by simp) (AllReadyK.cons rfl (fun K hK => ?_) AllReadyK.nil)
  go_simp
  refine hK.out _ _ (fun k hk => ⟨fun e => by subst e; exact absurd (show true = false from hk) (by decide), fun e => by subst e; exact absurd (show true = false from hk) (by decide)⟩) ?_
  clear hK K
  refine wpAnyK_ready (rs := [26]) (by kernel_rfl) (by simp) (AllReadyK.cons rfl (fun K hK => ?_) AllReadyK.nil)
  go_simp
  refine hK.out _ _ (fun k hk => ⟨fun e => by subst e; exact absurd (show true = false from hk) (by decide), fun e => by subst e; exact absurd (show true = false from hk) (by decide)⟩) ?_
  clear hK K
  refine wpAnyK_done (by kernel_rfl) ?_ _
  clear HT HT1 HF1 g0 g1 g2 g3 g4 g5
  rw [HAE.out, HA1.out, HA2.out]
  have HA2' : Hid (At ((w1.setCell ⟨N, 3, none⟩ (.slice a1 m1 d1)).setCell ⟨N + 1, 3, none⟩ (.slice a2 m2 d2)).drew N #[.int .i64 v1, .int .i64 t1, .int .u32 c1, .slice a1 m1 d1, .int .i64 s1] 26) := ((HA.out.set 3 (.slice a1 m1 d1)).other (a := ⟨N + 1, 3, none⟩) (by simp) _).drew
  have HB2' : Hid (At ((w1.setCell ⟨N, 3, none⟩ (.slice a1 m1 d1)).setCell ⟨N + 1, 3, none⟩ (.slice a2 m2 d2)).drew (N + 1) #[.int .i64 v2, .int .i64 t2, .int .u32 c2, .slice a2 m2 d2, .int .i64 s2] 26) := ((HB.out.other (a := ⟨N, 3, none⟩) (by simp) _).set 3 (.slice a2 m2 d2)).drew
  have HBW : Hid (Below N w ((w1.setCell ⟨N, 3, none⟩ (.slice a1 m1 d1)).setCell ⟨N + 1, 3, none⟩ (.slice a2 m2 d2)).drew) := ((HB1.out.setCell (p := ⟨N, 3, none⟩) (Nat.le_refl _) _).setCell (p := ⟨N + 1, 3, none⟩) (Nat.le_succ _) _).drew
  clear p2 q2 pf2 qf2 HA HB HB1 hw1 HA1 HA2
  generalize ((w1.setCell ⟨N, 3, none⟩ (.slice a1 m1 d1)).setCell ⟨N + 1, 3, none⟩ (.slice a2 m2 d2)).drew = w2 at *
  generalize fitB B = B' at *
  have hs := opaque_any a c h B' w2 (HK.out.later HBW.out (by omega)) (by rw [h1]; exact HV.out.below HBW.out (by omega)) (by omega) (by omega)
  rw [h1] at hs
  have HS := Lib.hid hs
  have HH1 := Lib.hid h1
  clear hs h1
  obtain ⟨x, hx⟩ : ∃ x, opqF h B' = x := ⟨_, rfl⟩
  obtain ⟨er, her⟩ : ∃ er, srchE h B' = er := ⟨_, rfl⟩
  have HX := Lib.hid hx
  have HER := Lib.hid her
  rw [hx, her] at HS
  unfold chkV at HS
  clear hx her
  as_aux_lemma =>
    go_wp2_with fail
    refine HS.out.mono ?_
    rintro e w3 ⟨rv, rfl, hr3, -, hb3⟩
    obtain ⟨rb, rc, rfl⟩ := hr3.rd.len
    obtain ⟨rn, hrn⟩ : ∃ z, (nats x.2.2.2.1).length = z := ⟨_, rfl⟩
    rw [hrn] at hr3 ⊢
    obtain ⟨N9, hN9⟩ : ∃ z, w3.heap.size = z := ⟨_, rfl⟩
    obtain ⟨w4, hw4⟩ : ∃ z, w3.alloc (.cells #[.int .i64 (x.1 : Int), .int .i64 (x.2.1 : Int), .int .u32 (x.2.2.1 : Int), .slice rb rn rc, .int .i64 (x.2.2.2.2 : Int)] 26) = z := ⟨_, rfl⟩
    have ha9 : At w4 N9 #[.int .i64 (x.1 : Int), .int .i64 (x.2.1 : Int), .int .u32 (x.2.2.1 : Int), .slice rb rn rc, .int .i64 (x.2.2.2.2 : Int)] 26 := by
      rw [← hw4, ← hN9]; exact At.new w3 _ _
    have hb34 : Below w3.heap.size w3 w4 := by rw [← hw4]; exact (Below.refl _ w3).alloc (Nat.le_refl _) _
    have hb24 := hb3.trans (hb34.mono hb3.size)
    have HB4 : Hid (Below w.heap.size w w4) := by have := HBW.out.trans (hb24.mono (by have := HBW.out.size; omega)); rw [← hN] at this; exact this
    have HA9 := Lib.hid ha9
    have HR4 := Lib.hid (hr3.rd.below hb34 (Nat.le_refl _))
    have HAA := Lib.hid (HA2'.out.below hb24 HA2'.out.lt)
    have HBB := Lib.hid (HB2'.out.below hb24 HB2'.out.lt)
    have HW4 := Lib.hid hw4
    clear hr3 hb3 ha9 hb34 hb24 HS hrn hw4 HA2' HB2' HBW
    go_wp2_with fail
    rw [HW4.out]
    clear HW4
    have hrx : ∀ W, Below w4.heap.size w4 W → Rd W (.slice a1 m1 d1) (ints xs) := fun W hW => (HXS.out.below HB4.out (Nat.le_refl _)).below hW (Nat.le_refl _)
    have hry : ∀ W, Below w4.heap.size w4 W → Rd W (.slice a2 m2 d2) (ints ys) := fun W hW => (HYS.out.below HB4.out (Nat.le_refl _)).below hW (Nat.le_refl _)
    obtain ⟨b1, hb1⟩ : ∃ b1, sameC v1 t1 c1 s1 v2 t2 c2 s2 xs ys = b1 := ⟨_, rfl⟩
    have hb2 := sameC_self v1 t1 c1 s1 xs
    have tb : (b1 != b1) = false := by simp
    have HXR := Lib.hid hrx
    have HYR := Lib.hid hry
    have HLA : Hid (∀ (v t c s : Int) (a : Option Addr) (n d : Nat) (zs : List Int), Hid (∀ W, Below w4.heap.size w4 W → Rd W (.slice a n d) (ints zs)) → zs.length ≤ 10 → ∀ W, Below w4.heap.size w4 W → Calls Tryd.prog 8 #[.agg #[.int .i64 v1, .int .i64 t1, .int .u32 c1, .slice a1 m1 d1, .int .i64 s1], .agg #[.int .i64 v, .int .i64 t, .int .u32 c, .slice a n d, .int .i64 s]] W fun e w' => e = .returned (.bool (sameC v1 t1 c1 s1 v t c s xs zs)) ∧ Below W.heap.size W w') := fun v t c s a n d zs hz hl W hW =>
      likeC_any v1 t1 c1 s1 v t c s _ _ xs zs W (HXR.out W hW) (hz.out W hW) (by omega) (by omega)
    have HSA : Hid (∀ (v t c s : Int) (a : Option Addr) (n d : Nat) (zs : List Int), Hid (∀ W, Below w4.heap.size w4 W → Rd W (.slice a n d) (ints zs)) → zs.length ≤ 10 → ∀ W, Below w4.heap.size w4 W → Calls Tryd.prog 9 #[.agg #[.int .i64 v1, .int .i64 t1, .int .u32 c1, .slice a1 m1 d1, .int .i64 s1], .agg #[.int .i64 v, .int .i64 t, .int .u32 c, .slice a n d, .int .i64 s]] W fun e w' => e = .returned (.bool (sameC v1 t1 c1 s1 v t c s xs zs)) ∧ Below W.heap.size W w') := fun v t c s a n d zs hz hl W hW =>
      refSameC_any v1 t1 c1 s1 v t c s _ _ xs zs W (HXR.out W hW) (hz.out W hW) (by omega)
    have HALV : Hid (∀ W, Below w4.heap.size w4 W → Calls Tryd.prog 10 #[] W fun e w' => e = .returned (.bool true) ∧ Below W.heap.size W w') := fun W hW => aliveO_any W ((HK.out.later HB4.out (Nat.le_refl _)).later hW (Nat.le_refl _))
    have k0 : ∀ p : Ext w4, p.wld.cell? ⟨N, 0, none⟩ = some (.int .i64 v1) := fun p => cell_on p.below (HAA.out.cell rfl)
    have k1 : ∀ p : Ext w4, p.wld.cell? ⟨N, 1, none⟩ = some (.int .i64 t1) := fun p => cell_on p.below (HAA.out.cell rfl)
    have k2 : ∀ p : Ext w4, p.wld.cell? ⟨N, 2, none⟩ = some (.int .u32 c1) := fun p => cell_on p.below (HAA.out.cell rfl)
    have k3 : ∀ p : Ext w4, p.wld.cell? ⟨N, 3, none⟩ = some (.slice a1 m1 d1) := fun p => cell_on p.below (HAA.out.cell rfl)
    have k4 : ∀ p : Ext w4, p.wld.cell? ⟨N, 4, none⟩ = some (.int .i64 s1) := fun p => cell_on p.below (HAA.out.cell rfl)
    have l0 : ∀ p : Ext w4, p.wld.cell? ⟨N + 1, 0, none⟩ = some (.int .i64 v2) := fun p => cell_on p.below (HBB.out.cell rfl)
    have l1 : ∀ p : Ext w4, p.wld.cell? ⟨N + 1, 1, none⟩ = some (.int .i64 t2) := fun p => cell_on p.below (HBB.out.cell rfl)
    have l2 : ∀ p : Ext w4, p.wld.cell? ⟨N + 1, 2, none⟩ = some (.int .u32 c2) := fun p => cell_on p.below (HBB.out.cell rfl)
    have l3 : ∀ p : Ext w4, p.wld.cell? ⟨N + 1, 3, none⟩ = some (.slice a2 m2 d2) := fun p => cell_on p.below (HBB.out.cell rfl)
    have l4 : ∀ p : Ext w4, p.wld.cell? ⟨N + 1, 4, none⟩ = some (.int .i64 s2) := fun p => cell_on p.below (HBB.out.cell rfl)
    have mixed : Tryd.prog.follows .mixedOrders = true := by kernel_rfl
    clear hrx hry HXS HYS HAA HBB
    as_aux_lemma =>
      refine wp_region_ext mixed (by kernel_rfl) ?_
      repeat (go_big_quiet_step (first
        | (go_at_call 8; refine calls_ext (HLA.out _ _ _ _ _ _ _ _ (by assumption) (by assumption)))
        | (go_at_call 9; refine calls_ext (HSA.out _ _ _ _ _ _ _ _ (by assumption) (by assumption)))
        | (go_at_call 10; refine calls_ext HALV.out)))
      refine wpQuiet_nil ?_
      intro w8 hw8
      obtain ⟨⟨wq, hbq⟩, hq⟩ := hw8
      obtain rfl : w8 = wq := hq
      have HZ := Lib.hid hbq
      clear hbq
      have hsz4 := HB4.out.size
      have HBC := Lib.hid (HB4.out.trans (HZ.out.mono hsz4))
      have HA9C := Lib.hid (HA9.out.below HZ.out HA9.out.lt)
      have HRC := Lib.hid (HR4.out.below HZ.out (Nat.le_refl _))
      have HWHY := Lib.hid (refWhyS_any _ h B' w8 (HV.out.below HBC.out (Nat.le_refl _)) (by have := HH1.out; omega) (capE (by omega)))
      rw [HER.out] at HWHY
      clear k0 l0 k1 l1 k2 l2 k3 l3 k4 l4 HLA HSA HALV tb HA9 HR4 HZ hsz4 HB4 hb1 hb2 mixed HXR HYR
      as_aux_lemma =>
        go_wp2_with fail
        refine HWHY.out.mono ?_
        rintro e w5 ⟨rfl, hb5⟩
        have hszc := HBC.out.size
        have HB5 := Lib.hid (HBC.out.trans (hb5.mono hszc))
        have HA5 := Lib.hid (HA9C.out.below hb5 HA9C.out.lt)
        have HR5 := Lib.hid (HRC.out.below hb5 (Nat.le_refl _))
        clear hb5 HWHY HA9C HRC HBC hszc
        by_cases h0 : er = 0
        · as_aux_lemma =>
            subst h0
            obtain ⟨hc0, hB0, hB1⟩ := srchE_zero HER.out
            obtain ⟨BN, rfl⟩ : ∃ BN : Nat, B' = (BN : Int) := ⟨B'.toNat, by omega⟩
            have hsf : opaqueS BN h = x := (opqF_of HER.out).symm.trans HX.out
            have HRL : Hid (x.2.2.2.1.length ≤ 65536) := by
              have := opaque_len hc0 (B := BN)
              rwa [hsf] at this
            have HCK : Hid (∀ W, Below w5.heap.size w5 W → Calls Tryd.prog 12 #[.slice a m c, .int .i64 (BN : Int)] W fun e w' => ∃ sa sn sc, e = .returned (.agg #[.int .i64 (x.1 : Int), .int .i64 (x.2.1 : Int), .int .u32 (x.2.2.1 : Int), .slice sa sn sc, .int .i64 (x.2.2.2.2 : Int)]) ∧ Rd w' (.slice sa sn sc) (nats x.2.2.2.1) ∧ Below W.heap.size W w') := fun W hW => by
              have h2 := refCheckO_any a m c h BN W ((HV.out.below HB5.out (Nat.le_refl _)).below hW (Nat.le_refl _)) HH1.out (by omega) (by omega) HER.out
              rw [hsf] at h2
              refine h2.mono ?_
              rintro e w' ⟨ra, rc, rfl, hr, hb⟩
              exact ⟨ra, _, rc, rfl, hr, hb⟩
            have HSS : Hid (∀ W, Below w5.heap.size w5 W → W.cell? ⟨N9, 0, none⟩ = some (.int .i64 (x.1 : Int)) ∧ W.cell? ⟨N9, 1, none⟩ = some (.int .i64 (x.2.1 : Int)) ∧ W.cell? ⟨N9, 2, none⟩ = some (.int .u32 (x.2.2.1 : Int)) ∧ W.cell? ⟨N9, 3, none⟩ = some (.slice rb rn rc) ∧ W.cell? ⟨N9, 4, none⟩ = some (.int .i64 (x.2.2.2.2 : Int))) := fun W hW =>
              ⟨cell_on hW (HA5.out.cell rfl), cell_on hW (HA5.out.cell rfl), cell_on hW (HA5.out.cell rfl), cell_on hW (HA5.out.cell rfl), cell_on hW (HA5.out.cell rfl)⟩
            clear hsf hc0 HX HER HA5
            go_wp2_with fail
            first
            | go_must (go_region_held (fun W => W.cell? ⟨N9, 0, none⟩ = some (.int .i64 (x.1 : Int)) ∧ W.cell? ⟨N9, 1, none⟩ = some (.int .i64 (x.2.1 : Int)) ∧ W.cell? ⟨N9, 2, none⟩ = some (.int .u32 (x.2.2.1 : Int)) ∧ W.cell? ⟨N9, 3, none⟩ = some (.slice rb rn rc) ∧ W.cell? ⟨N9, 4, none⟩ = some (.int .i64 (x.2.2.2.2 : Int)))
                (first | exact HSS.out _ (belowDrS _) | exact HSS.out _ hz7 | exact HSS.out _ hz8)
                (first
                  | (go_at_call 12; refine (HCK.out _ (belowDrS _)).mono ?_; rintro e w7 ⟨sa, sn, sc, rfl, hr7, hb7⟩; have hz7 := (belowDrS w5).trans hb7; clear hb7)
                  | (go_at_call 9; refine (refSame_sameC x.1 x.2.1 x.2.2.1 x.2.2.2.2 x.2.2.2.1 _ _ w7 (HR5.out.below hz7 (Nat.le_refl _)) hr7 HRL.out).mono ?_; rintro e w8 ⟨rfl, hb8⟩; have hz8 := hz7.trans (hb8.mono hz7.size); clear hb8)))
            | fail
            have HB8 := Lib.hid (HB5.out.trans (hz8.mono HB5.out.size))
            clear hz7 hz8 hr7
            go_wp2_with fail
            go_ret
            exact ⟨rfl, HB8.out⟩
        · as_aux_lemma =>
            have hx0 : x = (0, 0, 0, [], 0) := by
              rw [← HX.out]
              unfold opqF
              rw [HER.out, if_neg h0]
            have te : ((er : Int) != 0) = true := by simp; omega
            have te2 : ((er : Int) == (er : Int)) = true := by simp
            subst hx0
            have q0 : w5.cell? ⟨N9, 0, none⟩ = some (.int .i64 0) := HA5.out.cell rfl
            have q1 : w5.cell? ⟨N9, 1, none⟩ = some (.int .i64 0) := HA5.out.cell rfl
            have q2 : w5.cell? ⟨N9, 2, none⟩ = some (.int .u32 0) := HA5.out.cell rfl
            have q3 : w5.cell? ⟨N9, 3, none⟩ = some (.slice rb rn rc) := HA5.out.cell rfl
            have q4 : w5.cell? ⟨N9, 4, none⟩ = some (.int .i64 0) := HA5.out.cell rfl
            have HSM := Lib.hid (refSame_sameC 0 0 0 0 [] (.slice rb rn rc) (.slice none 0 0) w5 HR5.out (.inl ⟨rfl, _, _, rfl⟩) (by decide))
            clear HX HER HA5 h0
            go_wp2_with fail
            refine HSM.out.mono ?_
            rintro e w6 ⟨rfl, hb6⟩
            have HB6 := Lib.hid (HB5.out.trans (hb6.mono HB5.out.size))
            clear hb6
            go_wp2_with fail
            go_ret
            exact ⟨rfl, HB6.out⟩
theorem opqChecks_any (a : Option Addr) (n c : Nat) (h : List Ev) (B : Int) (v1 t1 c1 s1 : Int) (a1 : Option Addr) (n1 d1 : Nat) (xs : List Int) (v2 t2 c2 s2 : Int) (a2 : Option Addr) (n2 d2 : Nat) (ys : List Int) (w : World) (hK : HasK w)
    (hn : n ≤ c) (hn1 : n1 ≤ d1) (hn2 : n2 ≤ d2) (hv : Evs w (.slice a (min (n : Int) 62).toNat c) h) (hxs : Rd w (.slice a1 (min (n1 : Int) 10).toNat d1) (ints xs)) (hys : Rd w (.slice a2 (min (n2 : Int) 10).toNat d2) (ints ys)) :
    Calls Tryd.prog 3 #[.slice a n c, .int .i64 B, .agg #[.int .i64 v1, .int .i64 t1, .int .u32 c1, .slice a1 n1 d1, .int .i64 s1], .agg #[.int .i64 v2, .int .i64 t2, .int .u32 c2, .slice a2 n2 d2, .int .i64 s2]] w fun e w' => e = .returned (.bool true) ∧ Below w.heap.size w w' := by
  obtain ⟨m, hm⟩ : ∃ m, (min (n : Int) 62).toNat = m := ⟨_, rfl⟩
  obtain ⟨m1, hm1⟩ : ∃ m, (min (n1 : Int) 10).toNat = m := ⟨_, rfl⟩
  obtain ⟨m2, hm2⟩ : ∃ m, (min (n2 : Int) 10).toNat = m := ⟨_, rfl⟩
  rw [hm] at hv
  rw [hm1] at hxs
  rw [hm2] at hys
  have hl1 : xs.length = m1 := by
    obtain ⟨_, _, he⟩ := hxs.len
    simp only [Value.slice.injEq, ints_len] at he
    exact he.2.1.symm
  have hl2 : ys.length = m2 := by
    obtain ⟨_, _, he⟩ := hys.len
    simp only [Value.slice.injEq, ints_len] at he
    exact he.2.1.symm
  exact opqChecks_walk a n m c h B v1 t1 c1 s1 a1 n1 d1 m1 xs v2 t2 c2 s2 a2 n2 d2 m2 ys w hK hn hn1 hn2 hm hm1 hm2 (by omega) hv hxs hys hv.length.symm (by omega) (by omega) (by omega)
end Go.Proofs.YtjefmfbncjdofaaDoor
