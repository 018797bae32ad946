/- The walks of package cycle's bit, leads, last, with, mayGoTo and leadsBack. -/
import Derived.Test.YtclhbnfnmpabbaaCycB
import Derived.Test.YtclhbnfnmpabbaaExtP
import Derived.Test.YtclhbnfnmpabbaaExtW
import Derived.Deep.QuietTactic
import Derived.BigQuiet
namespace Go.Proofs.Ytclhbnfnmpabbaa.RPlain
end Go.Proofs.Ytclhbnfnmpabbaa.RPlain
namespace Go.Proofs.Ytclhbnfnmpabbaa
open Go.RowKit RPlain

/-- a way's cells: six places, those behind the row 0, and how many there are -/
def wayA (row : List Nat) : Array Value := #[.int .i64 (row.getD 0 0 : Nat), .int .i64 (row.getD 1 0 : Nat), .int .i64 (row.getD 2 0 : Nat), .int .i64 (row.getD 3 0 : Nat), .int .i64 (row.getD 4 0 : Nat), .int .i64 (row.getD 5 0 : Nat), .int .i64 (row.length : Nat)]
theorem wayA_get (row : List Nat) : ∀ i, i < 6 → (wayA row)[i]? = some (.int .i64 (row.getD i 0 : Nat))
  | 0, _ | 1, _ | 2, _ | 3, _ | 4, _ | 5, _ => rfl
  | n + 6, h => by omega
theorem bitCy_any (k : Nat) (hk : k < 32) (w : World) : Calls Try.prog 36 #[.int .i64 (k : Int)] w fun e w' => e = .returned (.int .u32 ((2 ^ k : Nat) : Int)) ∧ w' = w := by
  go_enter Try.func36, Try.ntmps36
  go_wp2
  go_ret
  exact ⟨by rw [pow_u32 hk]; rfl, rfl⟩
theorem bitCy_all (k : Nat) (hk : k < 32) : Hid (∀ w, Calls Try.prog 36 #[.int .i64 (k : Int)] w fun e w' => e = .returned (.int .u32 ((2 ^ k : Nat) : Int)) ∧ w' = w) := fun w => bitCy_any k hk w
theorem aft_at {A : List Nat} {i k : Nat} (hi : i < A.length) : aft A i k = A[i].testBit k := by
  unfold aft
  rw [List.getD_eq_getElem?_getD, List.getElem?_eq_getElem hi, Option.getD_some]
set_option maxRecDepth 100000 in
theorem leadsC_any (v : Value) (A : List Nat) (i k : Nat) (w : World) (hv : Rd w v (u32s A)) (hA : ∀ x ∈ A, x < 4294967296) (hl : A.length ≤ 65536) (hi : i < A.length) (hk : k < 32) :
    Calls Try.prog 38 #[v, .int .i64 (i : Int), .int .i64 (k : Int)] w fun e w' => e = .returned (.bool (aft A i k)) ∧ Below w.heap.size w w' := by
  obtain ⟨b, o, c, rfl, hb, hc⟩ := hv.opened (by rw [u32s_len]; omega)
  rw [u32s_len]
  have hci := hc i _ (u32s_get hi)
  have hai := hA _ (List.getElem_mem hi)
  rw [aft_at hi]
  have HBT := bitCy_all k hk
  have hlt3 : 2 ^ k < 4294967296 := Nat.pow_lt_pow_right (a := 2) (m := k) (n := 32) (by decide) hk
  have hand := u32_and_nat A[i] (2 ^ k) hai hlt3
  have hap := and_pow2 A[i] k
  have hpos : 0 < 2 ^ k := Nat.two_pow_pos k
  generalize A[i] = cm at *
  obtain ⟨pw, hpw⟩ : ∃ pw, 2 ^ k = pw := ⟨_, rfl⟩
  rw [hpw] at HBT hand hap hpos
  have hil : (i : Int) < (A.length : Int) := by omega
  clear hpw hlt3 hc hv hA hb
  generalize cm &&& pw = za at *
  have HZ : Hid (((za : Int) != 0) = cm.testBit k) := by
    unfold Hid
    rw [hap]
    cases cm.testBit k with
    | false => rfl
    | true => rw [if_pos rfl]; simp; omega
  clear hap hpos
  go_enter Try.func38, Try.ntmps38
  go_upto_region 1 with fail
  go_quiet ((go_at_call 36; exact Calls.quiet_of_same (HBT.out _)))
  go_wp2
  go_ret
  exact ⟨ret_bool HZ.out, belowDrewN⟩
theorem way_six {P : List Nat → Prop} (row : List Nat) (h : row.length ≤ 6) (h0 : P []) (h1 : ∀ a, P [a]) (h2 : ∀ a b, P [a, b]) (h3 : ∀ a b c, P [a, b, c]) (h4 : ∀ a b c d, P [a, b, c, d]) (h5 : ∀ a b c d e, P [a, b, c, d, e]) (h6 : ∀ a b c d e f, P [a, b, c, d, e, f]) : P row := by
  rcases row with _ | ⟨a, _ | ⟨b, _ | ⟨c, _ | ⟨d, _ | ⟨e, _ | ⟨f, _ | ⟨g, r⟩⟩⟩⟩⟩⟩⟩
  · exact h0
  · exact h1 a
  · exact h2 a b
  · exact h3 a b c
  · exact h4 a b c d
  · exact h5 a b c d e
  · exact h6 a b c d e f
  · simp at h
set_option maxRecDepth 100000 in
theorem lastC_any (row : List Nat) (w : World) (h6 : row.length ≤ 6) (h0 : 0 < row.length) :
    Calls Try.prog 39 #[.agg (wayA row)] w fun e w' => e = .returned (.int .i64 (lastB row : Nat)) ∧ Below w.heap.size w w' := by
  obtain ⟨n, hn⟩ : ∃ n, row.length = n + 1 := ⟨row.length - 1, by omega⟩
  have hA := At.new w (wayA row) 45
  have hB := (Below.refl w.heap.size w).alloc (Nat.le_refl _) (.cells (wayA row) 45)
  have hcl : (w.alloc (.cells (wayA row) 45)).cell? ⟨w.heap.size, n, none⟩ = some (.int .i64 (lastB row : Nat)) := hA.cell (by rw [wayA_get row n (by omega)]; unfold lastB; rw [hn]; rfl)
  have hce : (w.alloc (.cells (wayA row) 45)).cell? ⟨w.heap.size, 6, none⟩ = some (.int .i64 ((n : Int) + 1)) := hA.cell (by show some (Value.int .i64 (row.length : Nat)) = _; rw [hn]; rfl)
  have hn5 : n ≤ 5 := by omega
  have hsub : ((n : Int) + 1 - 1) = (n : Int) := by omega
  have HB := Lib.hid hB
  unfold wayA at *
  generalize lastB row = y at *
  clear hA hB h0 hn h6
  generalize row.getD 0 0 = p0 at *
  generalize row.getD 1 0 = p1 at *
  generalize row.getD 2 0 = p2 at *
  generalize row.getD 3 0 = p3 at *
  generalize row.getD 4 0 = p4 at *
  generalize row.getD 5 0 = p5 at *
  generalize row.length = p6 at *
  go_enter Try.func39, Try.ntmps39
  go_upto_region 1 with fail
  generalize w.alloc (.cells #[.int .i64 (p0 : Int), .int .i64 (p1 : Int), .int .i64 (p2 : Int), .int .i64 (p3 : Int), .int .i64 (p4 : Int), .int .i64 (p5 : Int), .int .i64 (p6 : Int)] 45) = w2 at *
  go_wp2
  go_ret
  exact ⟨rfl, HB.out⟩
set_option maxRecDepth 100000 in
set_option maxHeartbeats 1000000 in
theorem withC_any (row : List Nat) (k : Nat) (w : World) (h5 : row.length ≤ 5) :
    Calls Try.prog 23 #[.agg (wayA row), .int .i64 (k : Int)] w fun e w' => e = .returned (.agg (wayA (row ++ [k]))) ∧ Below w.heap.size w w' := by
  unfold wayA
  rcases row with _ | ⟨a, _ | ⟨b, _ | ⟨c, _ | ⟨d, _ | ⟨e, _ | ⟨f, r⟩⟩⟩⟩⟩⟩
  case cons.cons.cons.cons.cons.cons => simp at h5
  all_goals
    clear h5
    simp only [List.getD_cons_succ, List.getD_cons_zero, List.getD_nil, List.length_cons, List.length_nil, Nat.zero_add, Nat.reduceAdd, List.cons_append, List.nil_append]
    go_enter Try.func23, Try.ntmps23
    go_wp2
    refine bodyPost_ret ?_ rfl ⟨rfl, ((Below.refl _ _).alloc (Nat.le_refl _) _).alloc (by simp) _⟩
    simp [results, Try.results23, go_sem]
theorem containsCy_any (row : List Nat) (N k : Nat) (w : World) (hA : At w N (wayA row) 45) (h6 : row.length ≤ 6) :
    Calls Try.prog 17 #[.slice (some ⟨N, 0, none⟩) row.length 6, .int .i64 (k : Int)] w fun e w' => e = .returned (.bool (row.contains k)) ∧ w' = w := by
  have hz : ∀ i, i < 6 → ((List.range 6).map fun i => ((row.getD i 0 : Nat) : Int)).getD i 0 = ((row.getD i 0 : Nat) : Int) := fun i hi => by
    rw [List.getD_eq_getElem?_getD, List.getElem?_map, List.getElem?_range hi]; rfl
  have hc := Try.slices_Contains_int N 0 row.length 6 ((List.range 6).map fun i => ((row.getD i 0 : Nat) : Int)) (k : Int) w (by simp; omega) (by omega) (fun j hj => by
    have hj6 : j < 6 := by simpa using hj
    rw [Nat.zero_add, hz j hj6]
    exact hA.cell (wayA_get row j hj6))
  have he : ((((List.range 6).map fun i => ((row.getD i 0 : Nat) : Int))).take row.length).contains (k : Int) = row.contains k := by
    have h1 : (((List.range 6).map fun i => ((row.getD i 0 : Nat) : Int))).take row.length = row.map fun (x : Nat) => (x : Int) := by
      refine List.ext_getElem (by simp; omega) fun i h1 h2 => ?_
      have hi : i < row.length := by simpa using h2
      rw [List.getElem_take, List.getElem_map, List.getElem_map, List.getElem_range, getD_get hi]
    rw [h1, Bool.eq_iff_iff, List.contains_eq_mem, List.contains_eq_mem, decide_eq_true_eq, decide_eq_true_eq, List.mem_map]
    exact ⟨fun ⟨a, h2, h3⟩ => by rw [← show a = k from by omega]; exact h2, fun h => ⟨k, h, rfl⟩⟩
  rw [he] at hc
  exact hc
/-- a.b[:n] of an array within a block -/
theorem run_sliceArr {P : Program} (w : World) (t e : TypeId) (N : Nat) (ht : P.underlying t = some (.array N e)) (hs : (P.info? e).map (·.size) = some 1) (b o n : Nat) (hn : n ≤ N) :
    (Instr.sliceAt t (.pointer (some ⟨b, o, none⟩)) none (some (.int .i64 (n : Int))) none).run P w = .ok (.slice (some ⟨b, o, none⟩) n N) w := by
  have hadd : (⟨b, o, none⟩ : Addr).add 0 = ⟨b, o, none⟩ := by unfold Addr.add; split <;> simp_all
  have h1 : (n : Int) ≤ (N : Int) := by omega
  have hi : (asIntOf (.int .i64 (n : Int))).run P w = .ok (.i64, (n : Int)) w := rfl
  cases hq : P.info? e with
  | none => simp [hq] at hs
  | some i =>
    have hs' : i.size = 1 := by simpa [hq] using hs
    simp [Instr.sliceAt, Instr.sliceBounds, Instr.sliceBound, hi, Sem.run_bind, run_underlying ht, sizeOf, typeInfo, hq, h1, hadd, Instr.sureAddr]
set_option maxRecDepth 100000 in
set_option maxHeartbeats 1000000 in
theorem mayGoTo_any (v : Value) (A row : List Nat) (k : Nat) (w : World) (hv : Rd w v (u32s A)) (hA : ∀ x ∈ A, x < 4294967296) (hl : A.length ≤ 65536) (h6 : row.length ≤ 6) (hr : ∀ x ∈ row, x < A.length) (hk : k < 32) :
    Calls Try.prog 22 #[.agg (wayA row), v, .int .i64 (k : Int)] w fun e w' => e = .returned (.bool (goB A row k)) ∧ Below w.heap.size w w' := by
  have HB := Lib.hid ((Below.refl w.heap.size w).alloc (Nat.le_refl _) (.cells (wayA row) 45))
  have HAT := Lib.hid (At.new w (wayA row) 45)
  obtain ⟨va, vc, rfl⟩ := hv.len
  rw [u32s_len] at hv ⊢
  by_cases h0 : row.length = 0
  · obtain rfl : row = [] := List.length_eq_zero_iff.1 h0
    clear hv
    go_enter Try.func22, Try.ntmps22
    unfold wayA
    go_wp2
    go_ret
    exact ⟨rfl, HB.out⟩
  · have hlt := hr (lastB row) (by
      unfold lastB
      rw [getD_get (show row.length - 1 < row.length by omega)]
      exact List.getElem_mem _)
    have HLA := Lib.hid (fun (W : World) => lastC_any row W h6 (by omega))
    have HLE := Lib.hid (fun (W : World) (hW : Below w.heap.size w W) => leadsC_any _ A (lastB row) k W (hv.below hW (Nat.le_refl _)) hA hl hlt hk)
    have HCO := Lib.hid (fun (W : World) (hW : At W w.heap.size (wayA row) 45) => containsCy_any row w.heap.size k W hW h6)
    have hgo : goB A row k = (aft A (lastB row) k && !row.contains k) := by
      unfold goB
      cases row with
      | nil => simp at h0
      | cons x r => rfl
    rw [hgo]
    clear hgo hlt hv hr hA
    have hz : ∃ p0 p1 p2 p3 p4 p5 : Nat, wayA row = #[.int .i64 (p0 : Int), .int .i64 (p1 : Int), .int .i64 (p2 : Int), .int .i64 (p3 : Int), .int .i64 (p4 : Int), .int .i64 (p5 : Int), .int .i64 (row.length : Int)] := ⟨_, _, _, _, _, _, rfl⟩
    obtain ⟨p0, p1, p2, p3, p4, p5, hz⟩ := hz
    rw [hz] at HAT HB HLA HCO ⊢
    clear hz
    generalize lastB row = y at *
    generalize aft A y k = b1 at *
    generalize row.contains k = b2 at *
    have hn0 : ((row.length : Int) == 0) = false := by rw [beq_eq_false_iff_ne]; omega
    clear h0
    generalize row.length = n at *
    go_enter Try.func22, Try.ntmps22
    have e0 := HAT.out.cell (i := 0) rfl
    have e1 := HAT.out.cell (i := 1) rfl
    have e2 := HAT.out.cell (i := 2) rfl
    have e3 := HAT.out.cell (i := 3) rfl
    have e4 := HAT.out.cell (i := 4) rfl
    have e5 := HAT.out.cell (i := 5) rfl
    have e6 := HAT.out.cell (i := 6) rfl
    have hsl := fun (W : World) => run_sliceArr (P := Try.prog) W 43 3 6 Try.underlying43 (by kernel_rfl) w.heap.size 0 n h6
    generalize hw2 : w.alloc (.cells #[.int .i64 (p0 : Int), .int .i64 (p1 : Int), .int .i64 (p2 : Int), .int .i64 (p3 : Int), .int .i64 (p4 : Int), .int .i64 (p5 : Int), .int .i64 (n : Int)] 45) = w2 at HAT HB e0 e1 e2 e3 e4 e5 e6
    go_upto_region 1 with fail
    clear hw2
    cases b1 with
    | true =>
      go_wp2_with (first
        | (go_at_call 39; refine (HLA.out _).mono ?_; rintro e w3 ⟨rfl, hb3⟩; have HB3 := Lib.hid (HB.out.trans (hb3.mono HB.out.size)); have HAT3 := Lib.hid (HAT.out.below hb3 HAT.out.lt); clear hb3)
        | (go_at_call 38; refine (HLE.out _ HB3.out).mono ?_; rintro e w4 ⟨rfl, hb4⟩; have HB4 := Lib.hid (HB3.out.trans (hb4.mono HB3.out.size)); have HAT4 := Lib.hid (HAT3.out.below hb4 HAT3.out.lt); have f6 := HAT4.out.cell (i := 6) rfl; clear hb4)
        | (go_at_call 17; refine (HCO.out _ HAT4.out).mono ?_; rintro e w5 ⟨rfl, hw5⟩; rw [hw5]; clear hw5))
      go_ret
      exact ⟨rfl, HB4.out⟩
    | false =>
      go_wp2_with (first
        | (go_at_call 39; refine (HLA.out _).mono ?_; rintro e w3 ⟨rfl, hb3⟩; have HB3 := Lib.hid (HB.out.trans (hb3.mono HB.out.size)); clear hb3)
        | (go_at_call 38; refine (HLE.out _ HB3.out).mono ?_; rintro e w4 ⟨rfl, hb4⟩; have HB4 := Lib.hid (HB3.out.trans (hb4.mono HB3.out.size)); clear hb4))
      go_ret
      exact ⟨rfl, HB4.out⟩
set_option maxRecDepth 100000 in
set_option maxHeartbeats 1000000 in
theorem leadsBack_any (v : Value) (A row : List Nat) (w : World) (hv : Rd w v (u32s A)) (hA : ∀ x ∈ A, x < 4294967296) (hl : A.length ≤ 31) (h6 : row.length ≤ 6) (hr : ∀ x ∈ row, x < A.length) :
    Calls Try.prog 20 #[.agg (wayA row), v] w fun e w' => e = .returned (.bool (backB A row)) ∧ Below w.heap.size w w' := by
  have HB := Lib.hid ((Below.refl w.heap.size w).alloc (Nat.le_refl _) (.cells (wayA row) 45))
  have HAT := Lib.hid (At.new w (wayA row) 45)
  have mixed : Try.prog.follows .mixedOrders = true := by kernel_rfl
  obtain ⟨va, vc, rfl⟩ := hv.len
  rw [u32s_len] at hv ⊢
  by_cases h0 : row.length = 0
  · obtain rfl : row = [] := List.length_eq_zero_iff.1 h0
    have e6 := HAT.out.cell (i := 6) (v := .int .i64 0) rfl
    have hz : wayA [] = #[.int .i64 0, .int .i64 0, .int .i64 0, .int .i64 0, .int .i64 0, .int .i64 0, .int .i64 0] := rfl
    rw [hz] at HB HAT e6 ⊢
    clear hv h0 hr hz
    go_enter Try.func20, Try.ntmps20
    go_upto_region 1 with fail
    generalize w.alloc (.cells #[.int .i64 0, .int .i64 0, .int .i64 0, .int .i64 0, .int .i64 0, .int .i64 0, .int .i64 0] 45) = w2 at *
    go_quiet (fail)
    go_wp2
    go_ret
    exact ⟨rfl, HB.out.trans (belowDrewN.mono HB.out.size)⟩
  · have hlt : ∀ i, i < row.length → row.getD i 0 < A.length := fun i hi => by
      rw [getD_get hi]
      exact hr _ (List.getElem_mem _)
    have hlz := hlt 0 (by omega)
    have HLA := Lib.hid (fun (W : World) => lastC_any row W h6 (by omega))
    have hll := hlt (row.length - 1) (by omega)
    have HLE := Lib.hid (fun (W : World) (hW : Below w.heap.size w W) => leadsC_any _ A (lastB row) (row.getD 0 0) W (hv.below hW (Nat.le_refl _)) hA (by omega) hll (by omega))
    have hgo : backB A row = aft A (lastB row) (row.getD 0 0) := by
      unfold backB
      cases row with
      | nil => simp at h0
      | cons x r => rfl
    rw [hgo]
    clear hgo hlt hv hr hA hlz hll
    have hz : ∃ p1 p2 p3 p4 p5 : Nat, wayA row = #[.int .i64 (row.getD 0 0 : Nat), .int .i64 (p1 : Int), .int .i64 (p2 : Int), .int .i64 (p3 : Int), .int .i64 (p4 : Int), .int .i64 (p5 : Int), .int .i64 (row.length : Int)] := ⟨_, _, _, _, _, rfl⟩
    obtain ⟨p1, p2, p3, p4, p5, hz⟩ := hz
    rw [hz] at HAT HB HLA ⊢
    clear hz
    generalize lastB row = y at *
    generalize row.getD 0 0 = p0 at *
    generalize aft A y p0 = b1 at *
    have hn0 : decide (0 < row.length) = true := decide_eq_true (by omega)
    clear h0
    generalize row.length = n at *
    go_enter Try.func20, Try.ntmps20
    generalize hw2 : w.alloc (.cells #[.int .i64 (p0 : Int), .int .i64 (p1 : Int), .int .i64 (p2 : Int), .int .i64 (p3 : Int), .int .i64 (p4 : Int), .int .i64 (p5 : Int), .int .i64 (n : Int)] 45) = w2 at HAT HB
    go_upto_region 1 with fail
    clear hw2
    have k0 : ∀ p : Ext w2, p.wld.cell? ⟨w.heap.size, 0, none⟩ = some (.int .i64 (p0 : Int)) := fun p => cell_on p.below (HAT.out.cell rfl)
    have k1 : ∀ p : Ext w2, p.wld.cell? ⟨w.heap.size, 1, none⟩ = some (.int .i64 (p1 : Int)) := fun p => cell_on p.below (HAT.out.cell rfl)
    have k2 : ∀ p : Ext w2, p.wld.cell? ⟨w.heap.size, 2, none⟩ = some (.int .i64 (p2 : Int)) := fun p => cell_on p.below (HAT.out.cell rfl)
    have k3 : ∀ p : Ext w2, p.wld.cell? ⟨w.heap.size, 3, none⟩ = some (.int .i64 (p3 : Int)) := fun p => cell_on p.below (HAT.out.cell rfl)
    have k4 : ∀ p : Ext w2, p.wld.cell? ⟨w.heap.size, 4, none⟩ = some (.int .i64 (p4 : Int)) := fun p => cell_on p.below (HAT.out.cell rfl)
    have k5 : ∀ p : Ext w2, p.wld.cell? ⟨w.heap.size, 5, none⟩ = some (.int .i64 (p5 : Int)) := fun p => cell_on p.below (HAT.out.cell rfl)
    have k6 : ∀ p : Ext w2, p.wld.cell? ⟨w.heap.size, 6, none⟩ = some (.int .i64 (n : Int)) := fun p => cell_on p.below (HAT.out.cell rfl)
    have HLA2 : Hid (∀ W, Below w2.heap.size w2 W → Calls Try.prog 39 #[.agg #[.int .i64 (p0 : Int), .int .i64 (p1 : Int), .int .i64 (p2 : Int), .int .i64 (p3 : Int), .int .i64 (p4 : Int), .int .i64 (p5 : Int), .int .i64 (n : Int)]] W fun e w' => e = .returned (.int .i64 (y : Int)) ∧ Below W.heap.size W w') := fun W _ => HLA.out W
    have HLE2 := Lib.hid (fun (W : World) (hW : Below w2.heap.size w2 W) => HLE.out W (HB.out.trans (hW.mono HB.out.size)))
    refine wp_region_ext mixed (by kernel_rfl) ?_
    repeat (go_big_quiet_step (first
      | (go_at_call 39; refine calls_ext HLA2.out)
      | (go_at_call 38; refine calls_ext HLE2.out)))
    refine wpQuiet_nil ?_
    intro w8 hw8
    obtain ⟨⟨wq, hbq⟩, hq⟩ := hw8
    obtain rfl : w8 = wq := hq
    have HB5 := Lib.hid (HB.out.trans (hbq.mono HB.out.size))
    clear hbq HLE2 HLA2 HLA HLE k0 k1 k2 k3 k4 k5 k6
    go_wp2
    go_ret
    exact ⟨rfl, HB5.out⟩
end Go.Proofs.Ytclhbnfnmpabbaa
