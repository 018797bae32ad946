/- The walk of WorldChecks. -/
import Derived.Test.YtpjfhdljagkefaaGreatDoorMg21
import Derived.Test.YtpjfhdljagkefaaGreatDoorMg25
import Derived.Test.YtpjfhdljagkefaaGreatDoorMg28
import Derived.Test.YtpjfhdljagkefaaGreatDoorMg29
import Derived.Test.YtpjfhdljagkefaaGreatDoorMg7
import Derived.BigQuiet
import Derived.Deep.RegionHeld
import Derived.Deep.DeepMust
namespace Go.Proofs.YtpjfhdljagkefaaGreatDoor
open Go.RowKit WPlain QPlain RPlain

theorem row_six {l : List Tx} (h6 : l.length ≤ 6) {r : List Nat} (hd : r.Nodup) (hm : ∀ x ∈ r, x < l.length) : r.length ≤ 6 := by
  have := nodup_le r (List.range l.length) hd fun x hx => List.mem_range.2 (hm x hx)
  rw [List.length_range] at this
  omega
theorem wld_six {h : List Ev} (h0 : (checkS h).2 = 0) {B : Nat} : (worldS B (tableS h)).2.2.1.length ≤ 65536 ∧ Fit ((worldS B (tableS h)).2.2.2.1.map toFd) := by
  have h6 := table_six h0
  obtain ⟨-, -, -, g4, g5, -⟩ := world_tells (B := B) (l := tableS h) (self_table h) (C := 5796) (choicesS (tableS h)) 0 (Nat.zero_le _) (fun c hc => cost_most h6 (choices_lt hc))
  change ((worldS B (tableS h)).1 ≠ 0 → (worldS B (tableS h)).2.1 = 0 ∧ (worldS B (tableS h)).2.2.1 = [] ∧ (worldS B (tableS h)).2.2.2.1 = []) at g4
  by_cases hv : (worldS B (tableS h)).1 = 0
  · obtain ⟨-, -, q3, q4, q5⟩ := g5 hv
    have e1 := row_six h6 q3.nodup fun x hx => ((q3.mem x).1 hx).1
    have e2 := List.length_filter_le (fun t => !(worldG B (tableS h) (choicesS (tableS h)) 0).2.1.testBit t) (List.range (tableS h).length)
    rw [List.length_range] at e2
    refine ⟨?_, ?_, ?_⟩
    · show (worldG B (tableS h) (choicesS (tableS h)) 0).2.2.1.length ≤ 65536
      omega
    · rw [List.length_map]
      show (worldG B (tableS h) (choicesS (tableS h)) 0).2.2.2.1.length ≤ 10
      omega
    · intro f hf
      obtain ⟨y, hy, rfl⟩ := List.mem_map.1 hf
      obtain ⟨j, hj, rfl⟩ := List.getElem_of_mem hy
      have hq := (q5 j hj (by rw [← q4]; exact hj)).1
      obtain ⟨-, -, -, hr⟩ := pairsW_mem.1 hq
      obtain ⟨hd, hm, -⟩ := rowsW_mem.1 hr
      have e3 := row_six h6 hd fun x hx => ((hm x).1 hx).1
      unfold toFd
      rw [List.length_map]
      exact Nat.le_trans e3 (by decide)
  · obtain ⟨-, q2, q3⟩ := g4 hv
    rw [q2, q3]
    exact ⟨Nat.zero_le _, Nat.zero_le _, fun f hf => by cases hf⟩
theorem fit_cut {l : List Fd} {k : Nat} (hl : l.length = k) (hk : k ≤ 10) (h : ∀ f ∈ l, f.r.length ≤ maxLen) : Fit l := ⟨by omega, fun f hf => by have := h f hf; unfold maxLen at this; omega⟩
theorem sameWd_self (v c s : Int) (xs : List Int) (l : List Fd) : sameWd v c s xs l v c s xs l = true := by unfold sameWd; simp
/-- a world, and what is found -/
theorem refSame_sameW (v c s : Nat) (R : List Nat) (l : List Fd) (r1 r2 q1 q2 : Value) (w : World) (h1 : Rd w r1 (nats R)) (h2 : Rd w r2 (nats R)) (k1 : Fds w q1 l) (k2 : Fds w q2 l) (hl : R.length ≤ 65536) (hf : Fit l) :
    Calls Tryz.prog 15 #[.agg #[.int .i64 (v : Int), .int .u32 (c : Int), r1, q1, .int .i64 (s : Int)], .agg #[.int .i64 (v : Int), .int .u32 (c : Int), r2, q2, .int .i64 (s : Int)]] w fun e w' => e = .returned (.bool true) ∧ Below w.heap.size w w' := by
  rw [nats_intsS] at h1 h2
  have h := refSameWd_any v c s v c s r1 r2 q1 q2 _ _ l l w h1 h2 k1 k2 (by rw [List.length_map]; omega) (by rw [List.length_map]; omega) hf hf
  rwa [sameWd_self] at h

set_option maxRecDepth 100000 in
set_option maxHeartbeats 8000000 in
theorem worChk_walk (a : Option Addr) (n m c : Nat) (h : List Ev) (B : Int) (v1 c1 s1 : Int) (a1 : Option Addr) (n1 d1 m1 : Nat) (xs : List Int) (b1 : Option Addr) (o1 e1 k1 : Nat) (l1 : List Fd) (v2 c2 s2 : Int) (a2 : Option Addr) (n2 d2 m2 : Nat) (ys : List Int) (b2 : Option Addr) (o2 e2 k2 : Nat) (l2 : List Fd) (w : World) (hK : HasK w)
    (hn : n ≤ c) (hn1 : n1 ≤ d1) (ho1 : o1 ≤ e1) (hn2 : n2 ≤ d2) (ho2 : o2 ≤ e2) (HAE : Hid ((min (n : Int) 65).toNat = m)) (HA1 : Hid ((min (n1 : Int) 10).toNat = m1)) (HO1 : Hid ((min (o1 : Int) 10).toNat = k1)) (HA2 : Hid ((min (n2 : Int) 10).toNat = m2)) (HO2 : Hid ((min (o2 : Int) 10).toNat = k2)) (hmn : m ≤ n)
    (hv : Evs w (.slice a m c) h) (hxs : Rd w (.slice a1 m1 d1) (ints xs)) (hus : Fds w (.slice b1 k1 e1) l1) (hys : Rd w (.slice a2 m2 d2) (ints ys)) (hvs : Fds w (.slice b2 k2 e2) l2) (h1 : h.length = m) (hm1 : m ≤ 65) (hxl : xs.length ≤ 10) (hyl : ys.length ≤ 10) (hf1 : Fit l1) (hf2 : Fit l2) (hw1' : -9223372036854775808 ≤ B) (hw2' : B < 9223372036854775808) :
    Calls Tryz.prog 4 #[.slice a n c, .int .i64 B, .agg #[.int .i64 v1, .int .u32 c1, .slice a1 n1 d1, .slice b1 o1 e1, .int .i64 s1], .agg #[.int .i64 v2, .int .u32 c2, .slice a2 n2 d2, .slice b2 o2 e2, .int .i64 s2]] w fun e w' => e = .returned (.bool true) ∧ Below w.heap.size w w' := by
  obtain ⟨N, hN⟩ : ∃ z, w.heap.size = z := ⟨_, rfl⟩
  obtain ⟨w1, hw1⟩ : ∃ z, (w.alloc (.cells #[.int .i64 v1, .int .u32 c1, .slice a1 n1 d1, .slice b1 o1 e1, .int .i64 s1] 40)).alloc (.cells #[.int .i64 v2, .int .u32 c2, .slice a2 n2 d2, .slice b2 o2 e2, .int .i64 s2] 40) = z := ⟨_, rfl⟩
  have ha : At w1 N #[.int .i64 v1, .int .u32 c1, .slice a1 n1 d1, .slice b1 o1 e1, .int .i64 s1] 40 := by
    rw [← hw1, ← hN]; exact (At.new w _ _).alloc _
  have hb : At w1 (N + 1) #[.int .i64 v2, .int .u32 c2, .slice a2 n2 d2, .slice b2 o2 e2, .int .i64 s2] 40 := by
    rw [← hw1, ← hN]
    have := At.new (w.alloc (.cells #[.int .i64 v1, .int .u32 c1, .slice a1 n1 d1, .slice b1 o1 e1, .int .i64 s1] 40)) #[.int .i64 v2, .int .u32 c2, .slice a2 n2 d2, .slice b2 o2 e2, .int .i64 s2] 40
    rwa [World.size_alloc] at this
  have hb1 : Below N w w1 := by
    rw [← hw1, ← hN]; exact ((Below.refl _ w).alloc (Nat.le_refl _) _).alloc (by simp) _
  have HA := Lib.hid ha
  have HB := Lib.hid hb
  have HB1 := Lib.hid hb1
  have HK := Lib.hid hK
  have HV := Lib.hid hv
  have HXS := Lib.hid hxs
  have HYS := Lib.hid hys
  have HUS := Lib.hid hus
  have HVS := Lib.hid hvs
  have HF1 := Lib.hid hf1
  have HF2 := Lib.hid hf2
  clear ha hb hb1 hK hv hxs hys hus hvs hf1 hf2
  go_enter Tryz.func4, Tryz.ntmps4
  go_upto_region 2 with fail
  rw [HAE.out]
  have g0 : (0 : Int) ≤ min (n1 : Int) 10 := by omega
  have g1 : ¬ (d1 : Int) < min (n1 : Int) 10 := by omega
  have g2 : (0 : Int) ≤ min (n2 : Int) 10 := by omega
  have g3 : ¬ (d2 : Int) < min (n2 : Int) 10 := by omega
  have g4 : (0 : Int) ≤ min (o1 : Int) 10 := by omega
  have g5 : ¬ (e1 : Int) < min (o1 : Int) 10 := by omega
  have g6 : (0 : Int) ≤ min (o2 : Int) 10 := by omega
  have g7 : ¬ (e2 : Int) < min (o2 : Int) 10 := by omega
  have AA1 := Lib.hid (HA.out.set 2 (.slice a1 (min (n1 : Int) 10).toNat d1))
  have BB1 := Lib.hid (HB.out.other (a := ⟨N, 2, none⟩) (by simp) (.slice a1 (min (n1 : Int) 10).toNat d1))
  have AA2 := Lib.hid (AA1.out.other (a := ⟨N + 1, 2, none⟩) (by simp) (.slice a2 (min (n2 : Int) 10).toNat d2))
  have BB2 := Lib.hid (BB1.out.set 2 (.slice a2 (min (n2 : Int) 10).toNat d2))
  have AA3 := Lib.hid (AA2.out.set 3 (.slice b1 (min (o1 : Int) 10).toNat e1))
  have BB3 := Lib.hid (BB2.out.other (a := ⟨N, 3, none⟩) (by simp) (.slice b1 (min (o1 : Int) 10).toNat e1))
  have HT : ∀ k, (fun (k : Nat) (W : World) => (k = 29 → W.cell? ⟨N, 2, none⟩ = some (.slice a1 n1 d1)) ∧ (k = 31 → W.cell? ⟨N + 1, 2, none⟩ = some (.slice a2 n2 d2)) ∧ (k = 33 → W.cell? ⟨N, 3, none⟩ = some (.slice b1 o1 e1)) ∧ (k = 35 → W.cell? ⟨N + 1, 3, none⟩ = some (.slice b2 o2 e2))) k w1.drew := fun k => ⟨fun _ => HA.out.cell rfl, fun _ => HB.out.cell rfl, fun _ => HA.out.cell rfl, fun _ => HB.out.cell rfl⟩
  have fa : w1.frozen? ⟨N, 2, none⟩ = false := HA.out.free 2
  have ca : w1.cell? ⟨N, 2, none⟩ = some (.slice a1 n1 d1) := HA.out.cell rfl
  have ca1 : (w1.setCell ⟨N, 2, none⟩ (.slice a1 (min (n1 : Int) 10).toNat d1)).drew.cell? ⟨N + 1, 2, none⟩ = some (.slice a2 n2 d2) := BB1.out.cell rfl
  have ca2 : (w1.setCell ⟨N, 2, none⟩ (.slice a1 (min (n1 : Int) 10).toNat d1)).drew.cell? ⟨N, 3, none⟩ = some (.slice b1 o1 e1) := AA1.out.cell rfl
  have ca3 : (w1.setCell ⟨N, 2, none⟩ (.slice a1 (min (n1 : Int) 10).toNat d1)).drew.cell? ⟨N + 1, 3, none⟩ = some (.slice b2 o2 e2) := BB1.out.cell rfl
  have fa1 : (w1.setCell ⟨N, 2, none⟩ (.slice a1 (min (n1 : Int) 10).toNat d1)).drew.frozen? ⟨N + 1, 2, none⟩ = false := BB1.out.free 2
  have cb2 : ((w1.setCell ⟨N, 2, none⟩ (.slice a1 (min (n1 : Int) 10).toNat d1)).setCell ⟨N + 1, 2, none⟩ (.slice a2 (min (n2 : Int) 10).toNat d2)).drew.cell? ⟨N, 3, none⟩ = some (.slice b1 o1 e1) := AA2.out.cell rfl
  have cb3 : ((w1.setCell ⟨N, 2, none⟩ (.slice a1 (min (n1 : Int) 10).toNat d1)).setCell ⟨N + 1, 2, none⟩ (.slice a2 (min (n2 : Int) 10).toNat d2)).drew.cell? ⟨N + 1, 3, none⟩ = some (.slice b2 o2 e2) := BB2.out.cell rfl
  have fb2 : ((w1.setCell ⟨N, 2, none⟩ (.slice a1 (min (n1 : Int) 10).toNat d1)).setCell ⟨N + 1, 2, none⟩ (.slice a2 (min (n2 : Int) 10).toNat d2)).drew.frozen? ⟨N, 3, none⟩ = false := AA2.out.free 3
  have cc3 : (((w1.setCell ⟨N, 2, none⟩ (.slice a1 (min (n1 : Int) 10).toNat d1)).setCell ⟨N + 1, 2, none⟩ (.slice a2 (min (n2 : Int) 10).toNat d2)).setCell ⟨N, 3, none⟩ (.slice b1 (min (o1 : Int) 10).toNat e1)).drew.cell? ⟨N + 1, 3, none⟩ = some (.slice b2 o2 e2) := BB3.out.cell rfl
  have fc3 : (((w1.setCell ⟨N, 2, none⟩ (.slice a1 (min (n1 : Int) 10).toNat d1)).setCell ⟨N + 1, 2, none⟩ (.slice a2 (min (n2 : Int) 10).toNat d2)).setCell ⟨N, 3, none⟩ (.slice b1 (min (o1 : Int) 10).toNat e1)).drew.frozen? ⟨N + 1, 3, none⟩ = false := BB3.out.free 3
  refine wp_region_upto (fun (k : Nat) (W : World) => (k = 29 → W.cell? ⟨N, 2, none⟩ = some (.slice a1 n1 d1)) ∧ (k = 31 → W.cell? ⟨N + 1, 2, none⟩ = some (.slice a2 n2 d2)) ∧ (k = 33 → W.cell? ⟨N, 3, none⟩ = some (.slice b1 o1 e1)) ∧ (k = 35 → W.cell? ⟨N + 1, 3, none⟩ = some (.slice b2 o2 e2))) (by kernel_rfl) ?_
  refine wpAnyK_take (i := 0) (v := .pointer (some ⟨N, 2, none⟩)) 35 rfl (by kernel_rfl) (by kernel_rfl) (by kernel_rfl) (by kernel_rfl) (fun _ _ _ h => h) (fun _ => ⟨fun h => absurd h (by decide), fun h => absurd h (by decide), fun h => absurd h (by decide), fun h => absurd h (by decide)⟩) (Or.inl ⟨by rfl, fun w' hw' => by go_simp⟩) (fun k _ => HT k) ?_
  simp only [Act.put, List.getElem_toArray, List.getElem_cons_zero, List.setIfInBounds_toArray, List.set_cons_zero, List.set_cons_succ]
  refine wpAnyK_take (i := 1) (v := .slice a1 n1 d1) 29 rfl (by kernel_rfl) (by kernel_rfl) (by kernel_rfl) (by kernel_rfl) (fun _ _ _ h => h) (fun _ => ⟨fun h => absurd h (by decide), fun h => absurd h (by decide), fun h => absurd h (by decide), fun h => absurd h (by decide)⟩) (Or.inl ⟨by rfl, fun w' hw' => by have z := hw'.1 rfl; go_simp⟩) (fun k _ => HT k) ?_
  simp only [Act.put, List.getElem_toArray, List.getElem_cons_zero, List.getElem_cons_succ, List.setIfInBounds_toArray, List.set_cons_zero, List.set_cons_succ]
  refine wpAnyK_take (i := 2) (v := .pointer (some ⟨N, 2, none⟩)) 35 rfl (by kernel_rfl) (by kernel_rfl) (by kernel_rfl) (by kernel_rfl) (fun _ _ _ h => h) (fun _ => ⟨fun h => absurd h (by decide), fun h => absurd h (by decide), fun h => absurd h (by decide), fun h => absurd h (by decide)⟩) (Or.inl ⟨by rfl, fun w' hw' => by go_simp⟩) (fun k _ => HT k) ?_
  simp only [Act.put, List.getElem_toArray, List.getElem_cons_zero, List.getElem_cons_succ, List.setIfInBounds_toArray, List.set_cons_zero, List.set_cons_succ]
  refine wpAnyK_take (i := 3) (v := .slice a1 n1 d1) 29 rfl (by kernel_rfl) (by kernel_rfl) (by kernel_rfl) (by kernel_rfl) (fun _ _ _ h => h) (fun _ => ⟨fun h => absurd h (by decide), fun h => absurd h (by decide), fun h => absurd h (by decide), fun h => absurd h (by decide)⟩) (Or.inl ⟨by rfl, fun w' hw' => by have z := hw'.1 rfl; go_simp⟩) (fun k _ => HT k) ?_
  simp only [Act.put, List.getElem_toArray, List.getElem_cons_zero, List.getElem_cons_succ, List.setIfInBounds_toArray, List.set_cons_zero, List.set_cons_succ]
  refine wpAnyK_take (i := 4) (v := .int .i64 (n1 : Int)) 35 rfl (by kernel_rfl) (by kernel_rfl) (by kernel_rfl) (by kernel_rfl) (fun _ _ _ h => h) (fun _ => ⟨fun h => absurd h (by decide), fun h => absurd h (by decide), fun h => absurd h (by decide), fun h => absurd h (by decide)⟩) (Or.inl ⟨by rfl, fun w' hw' => by go_simp⟩) (fun k _ => HT k) ?_
  simp only [Act.put, List.getElem_toArray, List.getElem_cons_zero, List.getElem_cons_succ, List.setIfInBounds_toArray, List.set_cons_zero, List.set_cons_succ]
  refine wpAnyK_take (i := 5) (v := .int .i64 (min (n1 : Int) 10)) 35 rfl (by kernel_rfl) (by kernel_rfl) (by kernel_rfl) (by kernel_rfl) (fun _ _ _ h => h) (fun _ => ⟨fun h => absurd h (by decide), fun h => absurd h (by decide), fun h => absurd h (by decide), fun h => absurd h (by decide)⟩) (Or.inl ⟨by rfl, fun w' hw' => by go_simp⟩) (fun k _ => HT k) ?_
  simp only [Act.put, List.getElem_toArray, List.getElem_cons_zero, List.getElem_cons_succ, List.setIfInBounds_toArray, List.set_cons_zero, List.set_cons_succ]
  refine wpAnyK_take (i := 6) (v := .slice a1 (min (n1 : Int) 10).toNat d1) 35 rfl (by kernel_rfl) (by kernel_rfl) (by kernel_rfl) (by kernel_rfl) (fun _ _ _ h => h) (fun _ => ⟨fun h => absurd h (by decide), fun h => absurd h (by decide), fun h => absurd h (by decide), fun h => absurd h (by decide)⟩) (Or.inl ⟨by rfl, fun w' hw' => by go_simp⟩) (fun k _ => HT k) ?_
  simp only [Act.put, List.getElem_toArray, List.getElem_cons_zero, List.getElem_cons_succ, List.setIfInBounds_toArray, List.set_cons_zero, List.set_cons_succ]
  refine wpAnyK_take (i := 7) (v := .pointer (some ⟨N + 1, 2, none⟩)) 35 rfl (by kernel_rfl) (by kernel_rfl) (by kernel_rfl) (by kernel_rfl) (fun _ _ _ h => h) (fun _ => ⟨fun h => absurd h (by decide), fun h => absurd h (by decide), fun h => absurd h (by decide), fun h => absurd h (by decide)⟩) (Or.inl ⟨by rfl, fun w' hw' => by go_simp⟩) (fun k _ => HT k) ?_
  simp only [Act.put, List.getElem_toArray, List.getElem_cons_zero, List.getElem_cons_succ, List.setIfInBounds_toArray, List.set_cons_zero, List.set_cons_succ]
  refine wpAnyK_take (i := 8) (v := .slice a2 n2 d2) 31 rfl (by kernel_rfl) (by kernel_rfl) (by kernel_rfl) (by kernel_rfl) (fun _ _ _ h => h) (fun _ => ⟨fun h => absurd h (by decide), fun h => absurd h (by decide), fun h => absurd h (by decide), fun h => absurd h (by decide)⟩) (Or.inl ⟨by rfl, fun w' hw' => by have z := hw'.2.1 rfl; go_simp⟩) (fun k _ => HT k) ?_
  simp only [Act.put, List.getElem_toArray, List.getElem_cons_zero, List.getElem_cons_succ, List.setIfInBounds_toArray, List.set_cons_zero, List.set_cons_succ]
  refine wpAnyK_take (i := 9) (v := .pointer (some ⟨N + 1, 2, none⟩)) 35 rfl (by kernel_rfl) (by kernel_rfl) (by kernel_rfl) (by kernel_rfl) (fun _ _ _ h => h) (fun _ => ⟨fun h => absurd h (by decide), fun h => absurd h (by decide), fun h => absurd h (by decide), fun h => absurd h (by decide)⟩) (Or.inl ⟨by rfl, fun w' hw' => by go_simp⟩) (fun k _ => HT k) ?_
  simp only [Act.put, List.getElem_toArray, List.getElem_cons_zero, List.getElem_cons_succ, List.setIfInBounds_toArray, List.set_cons_zero, List.set_cons_succ]
  refine wpAnyK_take (i := 10) (v := .slice a2 n2 d2) 31 rfl (by kernel_rfl) (by kernel_rfl) (by kernel_rfl) (by kernel_rfl) (fun _ _ _ h => h) (fun _ => ⟨fun h => absurd h (by decide), fun h => absurd h (by decide), fun h => absurd h (by decide), fun h => absurd h (by decide)⟩) (Or.inl ⟨by rfl, fun w' hw' => by have z := hw'.2.1 rfl; go_simp⟩) (fun k _ => HT k) ?_
  simp only [Act.put, List.getElem_toArray, List.getElem_cons_zero, List.getElem_cons_succ, List.setIfInBounds_toArray, List.set_cons_zero, List.set_cons_succ]
  refine wpAnyK_take (i := 11) (v := .int .i64 (n2 : Int)) 35 rfl (by kernel_rfl) (by kernel_rfl) (by kernel_rfl) (by kernel_rfl) (fun _ _ _ h => h) (fun _ => ⟨fun h => absurd h (by decide), fun h => absurd h (by decide), fun h => absurd h (by decide), fun h => absurd h (by decide)⟩) (Or.inl ⟨by rfl, fun w' hw' => by go_simp⟩) (fun k _ => HT k) ?_
  simp only [Act.put, List.getElem_toArray, List.getElem_cons_zero, List.getElem_cons_succ, List.setIfInBounds_toArray, List.set_cons_zero, List.set_cons_succ]
  refine wpAnyK_take (i := 12) (v := .int .i64 (min (n2 : Int) 10)) 35 rfl (by kernel_rfl) (by kernel_rfl) (by kernel_rfl) (by kernel_rfl) (fun _ _ _ h => h) (fun _ => ⟨fun h => absurd h (by decide), fun h => absurd h (by decide), fun h => absurd h (by decide), fun h => absurd h (by decide)⟩) (Or.inl ⟨by rfl, fun w' hw' => by go_simp⟩) (fun k _ => HT k) ?_
  simp only [Act.put, List.getElem_toArray, List.getElem_cons_zero, List.getElem_cons_succ, List.setIfInBounds_toArray, List.set_cons_zero, List.set_cons_succ]
  refine wpAnyK_take (i := 13) (v := .slice a2 (min (n2 : Int) 10).toNat d2) 35 rfl (by kernel_rfl) (by kernel_rfl) (by kernel_rfl) (by kernel_rfl) (fun _ _ _ h => h) (fun _ => ⟨fun h => absurd h (by decide), fun h => absurd h (by decide), fun h => absurd h (by decide), fun h => absurd h (by decide)⟩) (Or.inl ⟨by rfl, fun w' hw' => by go_simp⟩) (fun k _ => HT k) ?_
  simp only [Act.put, List.getElem_toArray, List.getElem_cons_zero, List.getElem_cons_succ, List.setIfInBounds_toArray, List.set_cons_zero, List.set_cons_succ]
  refine wpAnyK_take (i := 14) (v := .pointer (some ⟨N, 3, none⟩)) 35 rfl (by kernel_rfl) (by kernel_rfl) (by kernel_rfl) (by kernel_rfl) (fun _ _ _ h => h) (fun _ => ⟨fun h => absurd h (by decide), fun h => absurd h (by decide), fun h => absurd h (by decide), fun h => absurd h (by decide)⟩) (Or.inl ⟨by rfl, fun w' hw' => by go_simp⟩) (fun k _ => HT k) ?_
  simp only [Act.put, List.getElem_toArray, List.getElem_cons_zero, List.getElem_cons_succ, List.setIfInBounds_toArray, List.set_cons_zero, List.set_cons_succ]
  refine wpAnyK_take (i := 15) (v := .slice b1 o1 e1) 33 rfl (by kernel_rfl) (by kernel_rfl) (by kernel_rfl) (by kernel_rfl) (fun _ _ _ h => h) (fun _ => ⟨fun h => absurd h (by decide), fun h => absurd h (by decide), fun h => absurd h (by decide), fun h => absurd h (by decide)⟩) (Or.inl ⟨by rfl, fun w' hw' => by have z := hw'.2.2.1 rfl; go_simp⟩) (fun k _ => HT k) ?_
  simp only [Act.put, List.getElem_toArray, List.getElem_cons_zero, List.getElem_cons_succ, List.setIfInBounds_toArray, List.set_cons_zero, List.set_cons_succ]
  refine wpAnyK_take (i := 16) (v := .pointer (some ⟨N, 3, none⟩)) 35 rfl (by kernel_rfl) (by kernel_rfl) (by kernel_rfl) (by kernel_rfl) (fun _ _ _ h => h) (fun _ => ⟨fun h => absurd h (by decide), fun h => absurd h (by decide), fun h => absurd h (by decide), fun h => absurd h (by decide)⟩) (Or.inl ⟨by rfl, fun w' hw' => by go_simp⟩) (fun k _ => HT k) ?_
  simp only [Act.put, List.getElem_toArray, List.getElem_cons_zero, List.getElem_cons_succ, List.setIfInBounds_toArray, List.set_cons_zero, List.set_cons_succ]
  refine wpAnyK_take (i := 17) (v := .slice b1 o1 e1) 33 rfl (by kernel_rfl) (by kernel_rfl) (by kernel_rfl) (by kernel_rfl) (fun _ _ _ h => h) (fun _ => ⟨fun h => absurd h (by decide), fun h => absurd h (by decide), fun h => absurd h (by decide), fun h => absurd h (by decide)⟩) (Or.inl ⟨by rfl, fun w' hw' => by have z := hw'.2.2.1 rfl; go_simp⟩) (fun k _ => HT k) ?_
  simp only [Act.put, List.getElem_toArray, List.getElem_cons_zero, List.getElem_cons_succ, List.setIfInBounds_toArray, List.set_cons_zero, List.set_cons_succ]
  refine wpAnyK_take (i := 18) (v := .int .i64 (o1 : Int)) 35 rfl (by kernel_rfl) (by kernel_rfl) (by kernel_rfl) (by kernel_rfl) (fun _ _ _ h => h) (fun _ => ⟨fun h => absurd h (by decide), fun h => absurd h (by decide), fun h => absurd h (by decide), fun h => absurd h (by decide)⟩) (Or.inl ⟨by rfl, fun w' hw' => by go_simp⟩) (fun k _ => HT k) ?_
  simp only [Act.put, List.getElem_toArray, List.getElem_cons_zero, List.getElem_cons_succ, List.setIfInBounds_toArray, List.set_cons_zero, List.set_cons_succ]
  refine wpAnyK_take (i := 19) (v := .int .i64 (min (o1 : Int) 10)) 35 rfl (by kernel_rfl) (by kernel_rfl) (by kernel_rfl) (by kernel_rfl) (fun _ _ _ h => h) (fun _ => ⟨fun h => absurd h (by decide), fun h => absurd h (by decide), fun h => absurd h (by decide), fun h => absurd h (by decide)⟩) (Or.inl ⟨by rfl, fun w' hw' => by go_simp⟩) (fun k _ => HT k) ?_
  simp only [Act.put, List.getElem_toArray, List.getElem_cons_zero, List.getElem_cons_succ, List.setIfInBounds_toArray, List.set_cons_zero, List.set_cons_succ]
  refine wpAnyK_take (i := 20) (v := .slice b1 (min (o1 : Int) 10).toNat e1) 35 rfl (by kernel_rfl) (by kernel_rfl) (by kernel_rfl) (by kernel_rfl) (fun _ _ _ h => h) (fun _ => ⟨fun h => absurd h (by decide), fun h => absurd h (by decide), fun h => absurd h (by decide), fun h => absurd h (by decide)⟩) (Or.inl ⟨by rfl, fun w' hw' => by go_simp⟩) (fun k _ => HT k) ?_
  simp only [Act.put, List.getElem_toArray, List.getElem_cons_zero, List.getElem_cons_succ, List.setIfInBounds_toArray, List.set_cons_zero, List.set_cons_succ]
  refine wpAnyK_take (i := 21) (v := .pointer (some ⟨N + 1, 3, none⟩)) 35 rfl (by kernel_rfl) (by kernel_rfl) (by kernel_rfl) (by kernel_rfl) (fun _ _ _ h => h) (fun _ => ⟨fun h => absurd h (by decide), fun h => absurd h (by decide), fun h => absurd h (by decide), fun h => absurd h (by decide)⟩) (Or.inl ⟨by rfl, fun w' hw' => by go_simp⟩) (fun k _ => HT k) ?_
  simp only [Act.put, List.getElem_toArray, List.getElem_cons_zero, List.getElem_cons_succ, List.setIfInBounds_toArray, List.set_cons_zero, List.set_cons_succ]
  refine wpAnyK_take (i := 22) (v := .slice b2 o2 e2) 35 rfl (by kernel_rfl) (by kernel_rfl) (by kernel_rfl) (by kernel_rfl) (fun _ _ _ h => h) (fun _ => ⟨fun h => absurd h (by decide), fun h => absurd h (by decide), fun h => absurd h (by decide), fun h => absurd h (by decide)⟩) (Or.inl ⟨by rfl, fun w' hw' => by have z := hw'.2.2.2 rfl; go_simp⟩) (fun k _ => HT k) ?_
  simp only [Act.put, List.getElem_toArray, List.getElem_cons_zero, List.getElem_cons_succ, List.setIfInBounds_toArray, List.set_cons_zero, List.set_cons_succ]
  refine wpAnyK_take (i := 23) (v := .pointer (some ⟨N + 1, 3, none⟩)) 35 rfl (by kernel_rfl) (by kernel_rfl) (by kernel_rfl) (by kernel_rfl) (fun _ _ _ h => h) (fun _ => ⟨fun h => absurd h (by decide), fun h => absurd h (by decide), fun h => absurd h (by decide), fun h => absurd h (by decide)⟩) (Or.inl ⟨by rfl, fun w' hw' => by go_simp⟩) (fun k _ => HT k) ?_
  simp only [Act.put, List.getElem_toArray, List.getElem_cons_zero, List.getElem_cons_succ, List.setIfInBounds_toArray, List.set_cons_zero, List.set_cons_succ]
  refine wpAnyK_take (i := 24) (v := .slice b2 o2 e2) 35 rfl (by kernel_rfl) (by kernel_rfl) (by kernel_rfl) (by kernel_rfl) (fun _ _ _ h => h) (fun _ => ⟨fun h => absurd h (by decide), fun h => absurd h (by decide), fun h => absurd h (by decide), fun h => absurd h (by decide)⟩) (Or.inl ⟨by rfl, fun w' hw' => by have z := hw'.2.2.2 rfl; go_simp⟩) (fun k _ => HT k) ?_
  simp only [Act.put, List.getElem_toArray, List.getElem_cons_zero, List.getElem_cons_succ, List.setIfInBounds_toArray, List.set_cons_zero, List.set_cons_succ]
  refine wpAnyK_take (i := 25) (v := .int .i64 (o2 : Int)) 35 rfl (by kernel_rfl) (by kernel_rfl) (by kernel_rfl) (by kernel_rfl) (fun _ _ _ h => h) (fun _ => ⟨fun h => absurd h (by decide), fun h => absurd h (by decide), fun h => absurd h (by decide), fun h => absurd h (by decide)⟩) (Or.inl ⟨by rfl, fun w' hw' => by go_simp⟩) (fun k _ => HT k) ?_
  simp only [Act.put, List.getElem_toArray, List.getElem_cons_zero, List.getElem_cons_succ, List.setIfInBounds_toArray, List.set_cons_zero, List.set_cons_succ]
  refine wpAnyK_take (i := 26) (v := .int .i64 (min (o2 : Int) 10)) 35 rfl (by kernel_rfl) (by kernel_rfl) (by kernel_rfl) (by kernel_rfl) (fun _ _ _ h => h) (fun _ => ⟨fun h => absurd h (by decide), fun h => absurd h (by decide), fun h => absurd h (by decide), fun h => absurd h (by decide)⟩) (Or.inl ⟨by rfl, fun w' hw' => by go_simp⟩) (fun k _ => HT k) ?_
  simp only [Act.put, List.getElem_toArray, List.getElem_cons_zero, List.getElem_cons_succ, List.setIfInBounds_toArray, List.set_cons_zero, List.set_cons_succ]
  refine wpAnyK_take (i := 27) (v := .slice b2 (min (o2 : Int) 10).toNat e2) 35 rfl (by kernel_rfl) (by kernel_rfl) (by kernel_rfl) (by kernel_rfl) (fun _ _ _ h => h) (fun _ => ⟨fun h => absurd h (by decide), fun h => absurd h (by decide), fun h => absurd h (by decide), fun h => absurd h (by decide)⟩) (Or.inl ⟨by rfl, fun w' hw' => by go_simp⟩) (fun k _ => HT k) ?_
  simp only [Act.put, List.getElem_toArray, List.getElem_cons_zero, List.getElem_cons_succ, List.setIfInBounds_toArray, List.set_cons_zero, List.set_cons_succ]
  refine wpAnyK_take (i := 28) (v := .pointer (some ⟨N, 2, none⟩)) 29 rfl (by kernel_rfl) (by kernel_rfl) (by kernel_rfl) (by kernel_rfl) (fun _ _ _ h => h) (fun _ => ⟨fun h => absurd h (by decide), fun h => absurd h (by decide), fun h => absurd h (by decide), fun h => absurd h (by decide)⟩) (Or.inl ⟨by rfl, fun w' hw' => by go_simp⟩) (fun k _ => HT k) ?_
  simp only [Act.put, List.getElem_toArray, List.getElem_cons_zero, List.getElem_cons_succ, List.setIfInBounds_toArray, List.set_cons_zero, List.set_cons_succ]
  refine wpAnyK_ready (rs := [29]) (by kernel_rfl) (by simp) (AllReadyK.cons rfl (fun K hK => ?_) AllReadyK.nil)
  go_simp
  refine hK.out _ _ (fun k hk => ⟨fun e => by subst e; exact absurd (show true = false from hk) (by decide), fun _ => ca1, fun _ => ca2, fun _ => ca3⟩) ?_
  clear hK K
  refine wpAnyK_take (i := 30) (v := .pointer (some ⟨N + 1, 2, none⟩)) 31 rfl (by kernel_rfl) (by kernel_rfl) (by kernel_rfl) (by kernel_rfl) (fun _ _ _ h => h) (fun _ => ⟨fun h => absurd h (by decide), fun h => absurd h (by decide), fun h => absurd h (by decide), fun h => absurd h (by decide)⟩) (Or.inl ⟨by rfl, fun w' hw' => by go_simp⟩) (fun k hk => ⟨fun e => by subst e; exact absurd (show true = false from hk) (by decide), fun _ => ca1, fun _ => ca2, fun _ => ca3⟩) ?_
  simp only [Act.put, List.getElem_toArray, List.getElem_cons_zero, List.getElem_cons_succ, List.setIfInBounds_toArray, List.set_cons_zero, List.set_cons_succ]
  refine wpAnyK_ready (rs := [31]) (by kernel_rfl) (by simp) (AllReadyK.cons rfl (fun K hK => ?_) AllReadyK.nil)
  go_simp
  refine hK.out _ _ (fun k hk => ⟨fun e => by subst e; exact absurd (show true = false from hk) (by decide), fun e => by subst e; exact absurd (show true = false from hk) (by decide), fun _ => cb2, fun _ => cb3⟩) ?_
  clear hK K
  refine wpAnyK_take (i := 32) (v := .pointer (some ⟨N, 3, none⟩)) 33 rfl (by kernel_rfl) (by kernel_rfl) (by kernel_rfl) (by kernel_rfl) (fun _ _ _ h => h) (fun _ => ⟨fun h => absurd h (by decide), fun h => absurd h (by decide), fun h => absurd h (by decide), fun h => absurd h (by decide)⟩) (Or.inl ⟨by rfl, fun w' hw' => by go_simp⟩) (fun k hk => ⟨fun e => by subst e; exact absurd (show true = false from hk) (by decide), fun e => by subst e; exact absurd (show true = false from hk) (by decide), fun _ => cb2, fun _ => cb3⟩) ?_
  simp only [Act.put, List.getElem_toArray, List.getElem_cons_zero, List.getElem_cons_succ, List.setIfInBounds_toArray, List.set_cons_zero, List.set_cons_succ]
  refine wpAnyK_ready (rs := [33]) (by kernel_rfl) (by simp) (AllReadyK.cons rfl (fun K hK => ?_) AllReadyK.nil)
  go_simp
  refine hK.out _ _ (fun k hk => ⟨fun e => by subst e; exact absurd (show true = false from hk) (by decide), fun e => by subst e; exact absurd (show true = false from hk) (by decide), fun e => by subst e; exact absurd (show true = false from hk) (by decide), fun _ => cc3⟩) ?_
  clear hK K
  refine wpAnyK_take (i := 34) (v := .pointer (some ⟨N + 1, 3, none⟩)) 35 rfl (by kernel_rfl) (by kernel_rfl) (by kernel_rfl) (by kernel_rfl) (fun _ _ _ h => h) (fun _ => ⟨fun h => absurd h (by decide), fun h => absurd h (by decide), fun h => absurd h (by decide), fun h => absurd h (by decide)⟩) (Or.inl ⟨by rfl, fun w' hw' => by go_simp⟩) (fun k hk => ⟨fun e => by subst e; exact absurd (show true = false from hk) (by decide), fun e => by subst e; exact absurd (show true = false from hk) (by decide), fun e => by subst e; exact absurd (show true = false from hk) (by decide), fun _ => cc3⟩) ?_
  simp only [Act.put, List.getElem_toArray, List.getElem_cons_zero, List.getElem_cons_succ, List.setIfInBounds_toArray, List.set_cons_zero, List.set_cons_succ]
  refine wpAnyK_ready (rs := [35]) (by kernel_rfl) (by simp) (AllReadyK.cons rfl (fun K hK => ?_) AllReadyK.nil)
  go_simp
  refine hK.out _ _ (fun k hk => ⟨fun e => by subst e; exact absurd (show true = false from hk) (by decide), fun e => by subst e; exact absurd (show true = false from hk) (by decide), fun e => by subst e; exact absurd (show true = false from hk) (by decide), fun e => by subst e; exact absurd (show true = false from hk) (by decide)⟩) ?_
  clear hK K
  refine wpAnyK_done (by kernel_rfl) ?_ _
  clear HT fa ca ca1 ca2 ca3 fa1 cb2 cb3 fb2 cc3 fc3 g0 g1 g2 g3 g4 g5 g6 g7
  rw [HA1.out, HA2.out, HO1.out, HO2.out]
  rw [HA1.out] at AA1 BB1 AA2 BB2 AA3 BB3
  rw [HA2.out] at AA2 BB2 AA3 BB3
  rw [HO1.out] at AA3 BB3
  have HA2' : Hid (At ((((w1.setCell ⟨N, 2, none⟩ (.slice a1 m1 d1)).setCell ⟨N + 1, 2, none⟩ (.slice a2 m2 d2)).setCell ⟨N, 3, none⟩ (.slice b1 k1 e1)).setCell ⟨N + 1, 3, none⟩ (.slice b2 k2 e2)).drew N #[.int .i64 v1, .int .u32 c1, .slice a1 m1 d1, .slice b1 k1 e1, .int .i64 s1] 40) := (AA3.out.other (a := ⟨N + 1, 3, none⟩) (by simp) (.slice b2 k2 e2)).drew
  have HB2' : Hid (At ((((w1.setCell ⟨N, 2, none⟩ (.slice a1 m1 d1)).setCell ⟨N + 1, 2, none⟩ (.slice a2 m2 d2)).setCell ⟨N, 3, none⟩ (.slice b1 k1 e1)).setCell ⟨N + 1, 3, none⟩ (.slice b2 k2 e2)).drew (N + 1) #[.int .i64 v2, .int .u32 c2, .slice a2 m2 d2, .slice b2 k2 e2, .int .i64 s2] 40) := (BB3.out.set 3 (.slice b2 k2 e2)).drew
  have HBW : Hid (Below N w ((((w1.setCell ⟨N, 2, none⟩ (.slice a1 m1 d1)).setCell ⟨N + 1, 2, none⟩ (.slice a2 m2 d2)).setCell ⟨N, 3, none⟩ (.slice b1 k1 e1)).setCell ⟨N + 1, 3, none⟩ (.slice b2 k2 e2)).drew) := ((((HB1.out.setCell (p := ⟨N, 2, none⟩) (Nat.le_refl _) _).setCell (p := ⟨N + 1, 2, none⟩) (Nat.le_succ _) _).setCell (p := ⟨N, 3, none⟩) (Nat.le_refl _) _).setCell (p := ⟨N + 1, 3, none⟩) (Nat.le_succ _) _).drew
  clear AA1 BB1 AA2 BB2 AA3 BB3 HA HB HB1 hw1 HA1 HA2 HO1 HO2
  generalize ((((w1.setCell ⟨N, 2, none⟩ (.slice a1 m1 d1)).setCell ⟨N + 1, 2, none⟩ (.slice a2 m2 d2)).setCell ⟨N, 3, none⟩ (.slice b1 k1 e1)).setCell ⟨N + 1, 3, none⟩ (.slice b2 k2 e2)).drew = w2 at *
  have hs := checkW_any _ h B w2 (HK.out.later HBW.out (by omega)) (HV.out.below HBW.out (by omega)) (by omega) hw1' hw2'
  have HS := Lib.hid hs
  have HH1 := Lib.hid h1
  clear hs h1
  obtain ⟨x, hx⟩ : ∃ x, wldF h B = x := ⟨_, rfl⟩
  obtain ⟨er, her⟩ : ∃ er, srchE h B = er := ⟨_, rfl⟩
  have HX := Lib.hid hx
  have HER := Lib.hid her
  rw [hx, her] at HS
  unfold wldV at HS
  clear hx her
  as_aux_lemma =>
    go_wp2_with fail
    refine HS.out.mono ?_
    rintro e w3 ⟨rv, ov, rfl, hr3, -, hf3, hb3⟩
    have hr3 := hr3.rd
    have hf3 := hf3.fds
    obtain ⟨rb, rc, rfl⟩ := hr3.len
    obtain ⟨ob, oc, rfl⟩ := hf3.len
    obtain ⟨rn, hrn⟩ : ∃ z, (nats x.2.2.1).length = z := ⟨_, rfl⟩
    obtain ⟨on, hon⟩ : ∃ z, (x.2.2.2.1.map toFd).length = z := ⟨_, rfl⟩
    rw [hrn] at hr3 ⊢
    rw [hon] at hf3 ⊢
    obtain ⟨N9, hN9⟩ : ∃ z, w3.heap.size = z := ⟨_, rfl⟩
    obtain ⟨w4, hw4⟩ : ∃ z, w3.alloc (.cells #[.int .i64 (x.1 : Int), .int .u32 (x.2.1 : Int), .slice rb rn rc, .slice ob on oc, .int .i64 (x.2.2.2.2 : Int)] 40) = z := ⟨_, rfl⟩
    have ha9 : At w4 N9 #[.int .i64 (x.1 : Int), .int .u32 (x.2.1 : Int), .slice rb rn rc, .slice ob on oc, .int .i64 (x.2.2.2.2 : Int)] 40 := by
      rw [← hw4, ← hN9]; exact At.new w3 _ _
    have hb34 : Below w3.heap.size w3 w4 := by rw [← hw4]; exact (Below.refl _ w3).alloc (Nat.le_refl _) _
    have hb24 := hb3.trans (hb34.mono hb3.size)
    have HB4 : Hid (Below w.heap.size w w4) := by have := HBW.out.trans (hb24.mono (by have := HBW.out.size; omega)); rw [← hN] at this; exact this
    have HA9 := Lib.hid ha9
    have HR4 := Lib.hid (hr3.below hb34 (Nat.le_refl _))
    have HF4 := Lib.hid (hf3.below hb34 (Nat.le_refl _))
    have HAA := Lib.hid (HA2'.out.below hb24 HA2'.out.lt)
    have HBB := Lib.hid (HB2'.out.below hb24 HB2'.out.lt)
    have HW4 := Lib.hid hw4
    clear hr3 hf3 hb3 ha9 hb34 hb24 HS hrn hon hw4 HA2' HB2' HBW
    go_wp2_with fail
    rw [HW4.out]
    clear HW4
    have HXR : Hid (∀ W, Below w4.heap.size w4 W → Rd W (.slice a1 m1 d1) (ints xs)) := fun W hW => (HXS.out.below HB4.out (Nat.le_refl _)).below hW (Nat.le_refl _)
    have HYR : Hid (∀ W, Below w4.heap.size w4 W → Rd W (.slice a2 m2 d2) (ints ys)) := fun W hW => (HYS.out.below HB4.out (Nat.le_refl _)).below hW (Nat.le_refl _)
    have HUR : Hid (∀ W, Below w4.heap.size w4 W → Fds W (.slice b1 k1 e1) l1) := fun W hW => (HUS.out.below HB4.out (Nat.le_refl _)).below hW (Nat.le_refl _)
    have HVR : Hid (∀ W, Below w4.heap.size w4 W → Fds W (.slice b2 k2 e2) l2) := fun W hW => (HVS.out.below HB4.out (Nat.le_refl _)).below hW (Nat.le_refl _)
    obtain ⟨b1', hb1⟩ : ∃ b1', sameWd v1 c1 s1 xs l1 v2 c2 s2 ys l2 = b1' := ⟨_, rfl⟩
    have hb2 := sameWd_self v1 c1 s1 xs l1
    have tb : (b1' != b1') = false := by simp
    have HLA : Hid (∀ (v c s : Int) (a : Option Addr) (n d : Nat) (zs : List Int) (b : Option Addr) (o e : Nat) (l : List Fd), Hid (∀ W, Below w4.heap.size w4 W → Rd W (.slice a n d) (ints zs)) → zs.length ≤ 10 → Hid (∀ W, Below w4.heap.size w4 W → Fds W (.slice b o e) l) → Hid (Fit l) → ∀ W, Below w4.heap.size w4 W → Calls Tryz.prog 14 #[.agg #[.int .i64 v1, .int .u32 c1, .slice a1 m1 d1, .slice b1 k1 e1, .int .i64 s1], .agg #[.int .i64 v, .int .u32 c, .slice a n d, .slice b o e, .int .i64 s]] W fun e w' => e = .returned (.bool (sameWd v1 c1 s1 xs l1 v c s zs l)) ∧ Below W.heap.size W w') := fun v c s a n d zs b o e l hz hl hq hf W hW =>
      likeW_any v1 c1 s1 v c s _ _ _ _ xs zs l1 l W (HXR.out W hW) (hz.out W hW) (HUR.out W hW) (hq.out W hW) (by omega) (by omega) HF1.out hf.out
    have HSA : Hid (∀ (v c s : Int) (a : Option Addr) (n d : Nat) (zs : List Int) (b : Option Addr) (o e : Nat) (l : List Fd), Hid (∀ W, Below w4.heap.size w4 W → Rd W (.slice a n d) (ints zs)) → zs.length ≤ 10 → Hid (∀ W, Below w4.heap.size w4 W → Fds W (.slice b o e) l) → Hid (Fit l) → ∀ W, Below w4.heap.size w4 W → Calls Tryz.prog 15 #[.agg #[.int .i64 v1, .int .u32 c1, .slice a1 m1 d1, .slice b1 k1 e1, .int .i64 s1], .agg #[.int .i64 v, .int .u32 c, .slice a n d, .slice b o e, .int .i64 s]] W fun e w' => e = .returned (.bool (sameWd v1 c1 s1 xs l1 v c s zs l)) ∧ Below W.heap.size W w') := fun v c s a n d zs b o e l hz hl hq hf W hW =>
      refSameWd_any v1 c1 s1 v c s _ _ _ _ xs zs l1 l W (HXR.out W hW) (hz.out W hW) (HUR.out W hW) (hq.out W hW) (by omega) (by omega) HF1.out hf.out
    have HALV : Hid (∀ W, Below w4.heap.size w4 W → Calls Tryz.prog 10 #[] W fun e w' => e = .returned (.bool true) ∧ Below W.heap.size W w') := fun W hW => aliveW_any W ((HK.out.later HB4.out (Nat.le_refl _)).later hW (Nat.le_refl _))
    have kx0 : ∀ p : Ext w4, p.wld.cell? ⟨N, 0, none⟩ = some (.int .i64 v1) := fun p => cell_on p.below (HAA.out.cell rfl)
    have kx1 : ∀ p : Ext w4, p.wld.cell? ⟨N, 1, none⟩ = some (.int .u32 c1) := fun p => cell_on p.below (HAA.out.cell rfl)
    have kx2 : ∀ p : Ext w4, p.wld.cell? ⟨N, 2, none⟩ = some (.slice a1 m1 d1) := fun p => cell_on p.below (HAA.out.cell rfl)
    have kx3 : ∀ p : Ext w4, p.wld.cell? ⟨N, 3, none⟩ = some (.slice b1 k1 e1) := fun p => cell_on p.below (HAA.out.cell rfl)
    have kx4 : ∀ p : Ext w4, p.wld.cell? ⟨N, 4, none⟩ = some (.int .i64 s1) := fun p => cell_on p.below (HAA.out.cell rfl)
    have lx0 : ∀ p : Ext w4, p.wld.cell? ⟨N + 1, 0, none⟩ = some (.int .i64 v2) := fun p => cell_on p.below (HBB.out.cell rfl)
    have lx1 : ∀ p : Ext w4, p.wld.cell? ⟨N + 1, 1, none⟩ = some (.int .u32 c2) := fun p => cell_on p.below (HBB.out.cell rfl)
    have lx2 : ∀ p : Ext w4, p.wld.cell? ⟨N + 1, 2, none⟩ = some (.slice a2 m2 d2) := fun p => cell_on p.below (HBB.out.cell rfl)
    have lx3 : ∀ p : Ext w4, p.wld.cell? ⟨N + 1, 3, none⟩ = some (.slice b2 k2 e2) := fun p => cell_on p.below (HBB.out.cell rfl)
    have lx4 : ∀ p : Ext w4, p.wld.cell? ⟨N + 1, 4, none⟩ = some (.int .i64 s2) := fun p => cell_on p.below (HBB.out.cell rfl)
    have mixed : Tryz.prog.follows .mixedOrders = true := by kernel_rfl
    clear HXS HYS HUS HVS HAA HBB
    as_aux_lemma =>
      refine wp_region_ext mixed (by kernel_rfl) ?_
      repeat (go_big_quiet_step (first
        | (go_at_call 14; refine calls_ext (HLA.out _ _ _ _ _ _ _ _ _ _ _ (by assumption) (by assumption) (by assumption) (by assumption)))
        | (go_at_call 15; refine calls_ext (HSA.out _ _ _ _ _ _ _ _ _ _ _ (by assumption) (by assumption) (by assumption) (by assumption)))
        | (go_at_call 10; refine calls_ext HALV.out)))
      refine wpQuiet_nil ?_
      intro w8 hw8
      obtain ⟨⟨wq, hbq⟩, hq⟩ := hw8
      obtain rfl : w8 = wq := hq
      have HZ := Lib.hid hbq
      clear hbq
      have hsz4 := HB4.out.size
      have HBC := Lib.hid (HB4.out.trans (HZ.out.mono hsz4))
      have HA9C := Lib.hid (HA9.out.below HZ.out HA9.out.lt)
      have HRC := Lib.hid (HR4.out.below HZ.out (Nat.le_refl _))
      have HFC := Lib.hid (HF4.out.below HZ.out (Nat.le_refl _))
      have HWHY := Lib.hid (refWhyS_any _ h B w8 (HV.out.below HBC.out (Nat.le_refl _)) (by have := HH1.out; omega) (capE (by omega)))
      rw [HER.out] at HWHY
      clear kx0 lx0 kx1 lx1 kx2 lx2 kx3 lx3 kx4 lx4 HLA HSA HALV tb HA9 HR4 HF4 HZ hsz4 HB4 hb1 hb2 mixed HXR HYR HUR HVR HF1 HF2
      as_aux_lemma =>
        go_wp2_with fail
        refine HWHY.out.mono ?_
        rintro e w5 ⟨rfl, hb5⟩
        have hszc := HBC.out.size
        have HB5 := Lib.hid (HBC.out.trans (hb5.mono hszc))
        have HA5 := Lib.hid (HA9C.out.below hb5 HA9C.out.lt)
        have HR5 := Lib.hid (HRC.out.below hb5 (Nat.le_refl _))
        have HF5 := Lib.hid (HFC.out.below hb5 (Nat.le_refl _))
        clear hb5 HWHY HA9C HRC HFC HBC hszc
        by_cases h0 : er = 0
        · as_aux_lemma =>
            subst h0
            obtain ⟨hc0, hB0, hB1⟩ := srchE_zero HER.out
            obtain ⟨BN, rfl⟩ : ∃ BN : Nat, B = (BN : Int) := ⟨B.toNat, by omega⟩
            have hsf : worldS BN (tableS h) = x := by
              rw [← HX.out]
              unfold wldF
              rw [if_pos HER.out]
              rfl
            obtain ⟨hl6, hfit⟩ := wld_six hc0 (B := BN)
            rw [hsf] at hl6 hfit
            have HRL : Hid (x.2.2.1.length ≤ 65536) := hl6
            have HFT : Hid (Fit (x.2.2.2.1.map toFd)) := hfit
            have HOF : Hid (∀ W, Below w.heap.size w W → Calls Tryz.prog 7 #[.slice a m c] W fun e w' => ∃ la ln lc, e = .returned (.slice la ln lc) ∧ Txs w' (.slice la ln lc) (tableS h) ∧ Below W.heap.size W w') := fun W hW => (refOfS_any _ h W (HV.out.below hW (Nat.le_refl _)) (by have := HH1.out; omega) (capE (by omega))).mono fun e w' he => by
              obtain ⟨lv, rfl, ht, hb⟩ := he
              obtain ⟨la, lc, rfl⟩ := ht.len
              exact ⟨la, _, lc, rfl, ht, hb⟩
            have HCK : Hid (∀ (lv : Value) (W : World) (_ : Txs W lv (tableS h)), Calls Tryz.prog 16 #[lv, .int .i64 (BN : Int)] W fun e w' => ∃ sa sn sc qa qn qc, e = .returned (.agg #[.int .i64 (x.1 : Int), .int .u32 (x.2.1 : Int), .slice sa sn sc, .slice qa qn qc, .int .i64 (x.2.2.2.2 : Int)]) ∧ Rd w' (.slice sa sn sc) (nats x.2.2.1) ∧ Fds w' (.slice qa qn qc) (x.2.2.2.1.map toFd) ∧ Below W.heap.size W w') := fun lv W ht => by
              have h2 := refCheckW_any h hc0 lv BN W ht (ops_sixty hc0) (by omega)
              rw [hsf] at h2
              refine h2.mono fun e w' he => ?_
              obtain ⟨sv, qv, rfl, hr, hf, hb⟩ := he
              obtain ⟨sa, sc, rfl⟩ := hr.len
              obtain ⟨qa, qc, rfl⟩ := hf.len
              exact ⟨sa, _, sc, qa, _, qc, rfl, hr, hf, hb⟩
            have HSS : Hid (∀ W, Below w5.heap.size w5 W → W.cell? ⟨N9, 0, none⟩ = some (.int .i64 (x.1 : Int)) ∧ W.cell? ⟨N9, 1, none⟩ = some (.int .u32 (x.2.1 : Int)) ∧ W.cell? ⟨N9, 2, none⟩ = some (.slice rb rn rc) ∧ W.cell? ⟨N9, 3, none⟩ = some (.slice ob on oc) ∧ W.cell? ⟨N9, 4, none⟩ = some (.int .i64 (x.2.2.2.2 : Int))) := fun W hW =>
              ⟨cell_on hW (HA5.out.cell rfl), cell_on hW (HA5.out.cell rfl), cell_on hW (HA5.out.cell rfl), cell_on hW (HA5.out.cell rfl), cell_on hW (HA5.out.cell rfl)⟩
            clear hsf hc0 HX HER HA5 hl6 hfit
            go_wp2_with fail
            first
            | go_must (go_region_held (fun W => W.cell? ⟨N9, 0, none⟩ = some (.int .i64 (x.1 : Int)) ∧ W.cell? ⟨N9, 1, none⟩ = some (.int .u32 (x.2.1 : Int)) ∧ W.cell? ⟨N9, 2, none⟩ = some (.slice rb rn rc) ∧ W.cell? ⟨N9, 3, none⟩ = some (.slice ob on oc) ∧ W.cell? ⟨N9, 4, none⟩ = some (.int .i64 (x.2.2.2.2 : Int)))
                (first | exact HSS.out _ (belowDrS _) | exact HSS.out _ hz6 | exact HSS.out _ hz7 | exact HSS.out _ hz8)
                (first
                  | (go_at_call 7; refine (HOF.out _ (HB5.out.drew)).mono ?_; rintro e w6 ⟨la, ln, lc, rfl, ht6, hb6⟩; have hz6 := (belowDrS w5).trans hb6; clear hb6)
                  | (go_at_call 16; refine (HCK.out _ w6 ht6).mono ?_; rintro e w7 ⟨sa, sn, sc, qa, qn, qc, rfl, hr7, hf7, hb7⟩; have hz7 := hz6.trans (hb7.mono hz6.size); clear hb7)
                  | (go_at_call 15; refine (refSame_sameW x.1 x.2.1 x.2.2.2.2 x.2.2.1 _ _ _ _ _ w7 (HR5.out.below hz7 (Nat.le_refl _)) hr7 (HF5.out.below hz7 (Nat.le_refl _)) hf7 HRL.out HFT.out).mono ?_; rintro e w8 ⟨rfl, hb8⟩; have hz8 := hz7.trans (hb8.mono hz7.size); clear hb8)))
            | fail
            have HB8 := Lib.hid (HB5.out.trans (hz8.mono HB5.out.size))
            clear hz6 hz7 hz8 hr7 hf7 ht6
            go_wp2_with fail
            go_ret
            exact ⟨rfl, HB8.out⟩
        · as_aux_lemma =>
            have hx0 : x = (0, 0, [], [], 0) := by
              rw [← HX.out]
              unfold wldF
              rw [HER.out, if_neg h0]
            have te : ((er : Int) != 0) = true := by simp; omega
            have te2 : ((er : Int) == (er : Int)) = true := by simp
            subst hx0
            have q0 : w5.cell? ⟨N9, 0, none⟩ = some (.int .i64 0) := HA5.out.cell rfl
            have q1 : w5.cell? ⟨N9, 1, none⟩ = some (.int .u32 0) := HA5.out.cell rfl
            have q2 : w5.cell? ⟨N9, 2, none⟩ = some (.slice rb rn rc) := HA5.out.cell rfl
            have q3 : w5.cell? ⟨N9, 3, none⟩ = some (.slice ob on oc) := HA5.out.cell rfl
            have q4 : w5.cell? ⟨N9, 4, none⟩ = some (.int .i64 0) := HA5.out.cell rfl
            have HSM := Lib.hid (refSame_sameW 0 0 0 [] [] (.slice rb rn rc) (.slice none 0 0) (.slice ob on oc) (.slice none 0 0) w5 HR5.out (.inl ⟨rfl, _, _, rfl⟩) HF5.out (FOwnS.nil0 (fun _ => False) 0 w5).fds (by decide) ⟨by decide, fun f hf => by cases hf⟩)
            clear HX HER HA5 h0
            go_wp2_with fail
            refine HSM.out.mono ?_
            rintro e w6 ⟨rfl, hb6⟩
            have HB6 := Lib.hid (HB5.out.trans (hb6.mono HB5.out.size))
            clear hb6
            go_wp2_with fail
            go_ret
            exact ⟨rfl, HB6.out⟩
theorem i64_wfW {x : Int} (hx : (Lit.int .i64 x).wf = true) : -9223372036854775808 ≤ x ∧ x < 9223372036854775808 := by
  have h1 : (decide ((-9223372036854775808 : Int) ≤ x) && decide (x ≤ 9223372036854775807)) = true := hx
  rw [Bool.and_eq_true, decide_eq_true_eq, decide_eq_true_eq] at h1
  omega
theorem rd_lenW {w : World} {a : Option Addr} {m d : Nat} {xs : List Int} (h : Rd w (.slice a m d) (ints xs)) : xs.length = m := by
  obtain ⟨_, _, he⟩ := h.len
  simp only [Value.slice.injEq, ints_len] at he
  exact he.2.1.symm
theorem fds_lenW {w : World} {a : Option Addr} {m d : Nat} {l : List Fd} (h : Fds w (.slice a m d) l) : l.length = m := by
  obtain ⟨_, _, he⟩ := h.len
  simp only [Value.slice.injEq] at he
  exact he.2.1.symm
theorem worChk_any (a : Option Addr) (n c : Nat) (h : List Ev) (B : Int) (v1 c1 s1 : Int) (a1 : Option Addr) (n1 d1 : Nat) (xs : List Int) (b1 : Option Addr) (o1 e1 : Nat) (l1 : List Fd) (v2 c2 s2 : Int) (a2 : Option Addr) (n2 d2 : Nat) (ys : List Int) (b2 : Option Addr) (o2 e2 : Nat) (l2 : List Fd) (w : World) (hK : HasK w)
    (hn : n ≤ c) (hn1 : n1 ≤ d1) (ho1 : o1 ≤ e1) (hn2 : n2 ≤ d2) (ho2 : o2 ≤ e2) (hv : Evs w (.slice a (min (n : Int) 65).toNat c) h) (hxs : Rd w (.slice a1 (min (n1 : Int) 10).toNat d1) (ints xs)) (hus : Fds w (.slice b1 (min (o1 : Int) 10).toNat e1) l1) (hl1 : ∀ f ∈ l1, f.r.length ≤ maxLen) (hys : Rd w (.slice a2 (min (n2 : Int) 10).toNat d2) (ints ys)) (hvs : Fds w (.slice b2 (min (o2 : Int) 10).toNat e2) l2) (hl2 : ∀ f ∈ l2, f.r.length ≤ maxLen) (hw : (Lit.int .i64 B).wf = true) :
    Calls Tryz.prog 4 #[.slice a n c, .int .i64 B, .agg #[.int .i64 v1, .int .u32 c1, .slice a1 n1 d1, .slice b1 o1 e1, .int .i64 s1], .agg #[.int .i64 v2, .int .u32 c2, .slice a2 n2 d2, .slice b2 o2 e2, .int .i64 s2]] w fun e w' => e = .returned (.bool true) ∧ Below w.heap.size w w' := by
  obtain ⟨m, hm⟩ : ∃ m, (min (n : Int) 65).toNat = m := ⟨_, rfl⟩
  obtain ⟨m1, hm1⟩ : ∃ m, (min (n1 : Int) 10).toNat = m := ⟨_, rfl⟩
  obtain ⟨m2, hm2⟩ : ∃ m, (min (n2 : Int) 10).toNat = m := ⟨_, rfl⟩
  obtain ⟨k1, hk1⟩ : ∃ m, (min (o1 : Int) 10).toNat = m := ⟨_, rfl⟩
  obtain ⟨k2, hk2⟩ : ∃ m, (min (o2 : Int) 10).toNat = m := ⟨_, rfl⟩
  rw [hm] at hv
  rw [hm1] at hxs
  rw [hm2] at hys
  rw [hk1] at hus
  rw [hk2] at hvs
  have z1 := rd_lenW hxs
  have z2 := rd_lenW hys
  have z3 := fds_lenW hus
  have z4 := fds_lenW hvs
  obtain ⟨i1, i2⟩ := i64_wfW hw
  exact worChk_walk a n m c h B v1 c1 s1 a1 n1 d1 m1 xs b1 o1 e1 k1 l1 v2 c2 s2 a2 n2 d2 m2 ys b2 o2 e2 k2 l2 w hK hn hn1 ho1 hn2 ho2 hm hm1 hk1 hm2 hk2 (by omega) hv hxs hus hys hvs hv.length.symm (by omega) (by omega) (by omega) (fit_cut z3 (by omega) hl1) (fit_cut z4 (by omega) hl2) i1 i2
end Go.Proofs.YtpjfhdljagkefaaGreatDoor
