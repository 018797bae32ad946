/- The walks of package cycle's mayBe and Walk. -/
import Derived.Test.YtclhbnfnmpabbaaCycC
import Derived.Test.YtclhbnfnmpabbaaExtR
import Derived.Test.YtclhbnfnmpabbaaExtK
namespace Go.Proofs.Ytclhbnfnmpabbaa.RPlain
end Go.Proofs.Ytclhbnfnmpabbaa.RPlain
namespace Go.Proofs.Ytclhbnfnmpabbaa.RPlain

/-- may edges be? -/
def mayCy (A : List Nat) : Bool := decide (A.length ≤ 6) && !A.any fun a => decide (2 ^ A.length ≤ a)
/-- is a place none? -/
def noneC (n : Nat) (x : Int) : Bool := decide (x < 0) || decide ((n : Int) ≤ x)
/-- the place ahead of one, the last one ahead of the first -/
def prevB (row : List Nat) (i : Nat) : Nat := if i = 0 then lastB row else row.getD (i - 1) 0
def stepB (A row : List Nat) (i : Nat) : Bool := !(row.take i).contains (row.getD i 0) && aft A (prevB row i) (row.getD i 0)
theorem walk_prev (A row : List Nat) : walkB A row = (!row.isEmpty && (List.range row.length).all (stepB A row)) := by
  unfold walkB
  cases row with
  | nil => rfl
  | cons x r =>
    have hne : (x :: r).isEmpty = false := rfl
    rw [hne, Bool.not_false, Bool.true_and, Bool.true_and]
    have hpos : 0 < (x :: r).length := by simp
    generalize x :: r = row at *
    clear hne
    rw [Bool.eq_iff_iff, List.all_eq_true, List.all_eq_true]
    unfold stepB
    constructor
    · intro h i hi
      have hi' := List.mem_range.1 hi
      have h1 := h i hi
      rw [Bool.and_eq_true] at h1 ⊢
      refine ⟨h1.1, ?_⟩
      unfold prevB lastB
      by_cases h0 : i = 0
      · subst h0
        rw [if_pos rfl]
        have h2 := h (row.length - 1) (List.mem_range.2 (by omega))
        rw [Bool.and_eq_true] at h2
        rw [show (row.length - 1 + 1) % row.length = 0 from by rw [show row.length - 1 + 1 = row.length from by omega, Nat.mod_self]] at h2
        exact h2.2
      · rw [if_neg h0]
        have h2 := h (i - 1) (List.mem_range.2 (by omega))
        rw [Bool.and_eq_true] at h2
        rw [show (i - 1 + 1) % row.length = i from by rw [show i - 1 + 1 = i from by omega, Nat.mod_eq_of_lt hi']] at h2
        exact h2.2
    · intro h i hi
      have hi' := List.mem_range.1 hi
      have h1 := h i hi
      rw [Bool.and_eq_true] at h1 ⊢
      refine ⟨h1.1, ?_⟩
      by_cases hl : i + 1 < row.length
      · have h2 := h (i + 1) (List.mem_range.2 hl)
        rw [Bool.and_eq_true] at h2
        unfold prevB at h2
        rw [if_neg (by omega), Nat.add_sub_cancel] at h2
        rw [Nat.mod_eq_of_lt hl]
        exact h2.2
      · have h2 := h 0 (List.mem_range.2 hpos)
        rw [Bool.and_eq_true] at h2
        unfold prevB lastB at h2
        rw [if_pos rfl] at h2
        rw [show i + 1 = row.length from by omega, Nat.mod_self, show i = row.length - 1 from by omega]
        exact h2.2
theorem steps_next {A row : List Nat} {k : Nat} : (List.range (k + 1)).all (stepB A row) = ((List.range k).all (stepB A row) && stepB A row k) := by
  rw [List.range_succ, List.all_append]
  simp
theorem steps_not {A row : List Nat} {k : Nat} (hk : k < row.length) (h : stepB A row k = false) : walkB A row = false := by
  rw [walk_prev]
  have : (List.range row.length).all (stepB A row) = false := List.all_eq_false.2 ⟨k, List.mem_range.2 hk, by rw [h]; decide⟩
  rw [this, Bool.and_false]
/-- what Walk tells -/
def walkE (A : List Nat) (row : List Int) : Nat := if mayCy A = true then (if row.any (noneC A.length) = true then 7 else 0) else 1
def walkR (A : List Nat) (row : List Int) : Bool := if walkE A row = 0 then walkB A (row.map Int.toNat) else false
theorem none_nats {n : Nat} {row : List Int} (h : row.any (noneC n) = false) : ∃ rn : List Nat, row = rn.map (fun x : Nat => (x : Int)) ∧ row.map Int.toNat = rn ∧ ∀ k ∈ rn, k < n := by
  have h1 : ∀ x ∈ row, 0 ≤ x ∧ x < n := fun x hx => by
    have := List.any_eq_false.1 h x hx
    unfold noneC at this
    simp at this
    omega
  refine ⟨row.map Int.toNat, ?_, rfl, fun k hk => ?_⟩
  · rw [List.map_map]
    refine (List.map_id' row).symm.trans (List.map_congr_left fun x hx => ?_)
    have := (h1 x hx).1
    show x = ((x.toNat : Nat) : Int)
    omega
  · obtain ⟨x, hx, rfl⟩ := List.mem_map.1 hk
    have := h1 x hx
    omega
end Go.Proofs.Ytclhbnfnmpabbaa.RPlain
namespace Go.Proofs.Ytclhbnfnmpabbaa
open Go.RowKit RPlain

/-- has a number a bit that is no place's? -/
def overB (n x : Nat) : Bool := decide (2 ^ n ≤ x)
theorem isOver_any (x n P : Nat) (a : Option Addr) (c : Nat) (hn : n < 32) (w : World) (hc : w.cell? ⟨P, 0, none⟩ = some (.slice a n c)) :
    Calls Try.prog 35 #[.int .u32 (x : Int), .pointer (some ⟨P, 0, none⟩)] w fun e w' => e = .returned (.bool (overB n x)) ∧ w' = w := by
  have HBT := bitCy_all n hn
  have HF : Hid (overB n x = decide (2 ^ n ≤ x)) := rfl
  obtain ⟨pw, hpw⟩ : ∃ pw, 2 ^ n = pw := ⟨_, rfl⟩
  rw [hpw] at HBT HF
  clear hpw
  go_enter Try.func35, Try.ntmps35
  go_wp2_with (go_at_call 36; refine (HBT.out _).mono ?_; rintro e w3 ⟨rfl, hw3⟩; rw [hw3]; clear hw3)
  go_ret
  exact ⟨ret_bool (by rw [HF.out, Bool.eq_iff_iff]), rfl⟩
set_option maxRecDepth 100000 in
set_option maxHeartbeats 1000000 in
theorem indexOv_any (v : Value) (A : List Nat) (n P : Nat) (a : Option Addr) (c : Nat) (hn : n < 32) (w : World) (hv : Rd w v (u32s A)) (hl : A.length ≤ 65536) (hc : w.cell? ⟨P, 0, none⟩ = some (.slice a n c)) :
    Calls Try.prog 46 #[v, .func (.func 35) #[] #[.pointer (some ⟨P, 0, none⟩)]] w fun e w' => (∃ z : Int, e = .returned (.int .i64 z) ∧ decide (0 ≤ z) = A.any (overB n)) ∧ w' = w := by
  have HV := Lib.hid hv
  have HCL := Lib.hid (fun x => isOver_any x n P a c hn w hc)
  obtain ⟨va, vc, rfl⟩ := hv.len
  rw [u32s_len] at HV ⊢
  clear hv hc
  go_enter Try.func46, Try.ntmps46
  go_wp2_with fail
  go_loopw [8] (fun x wr => ∃ k : Nat, k ≤ A.length ∧ x = .int .i64 k ∧ Hid ((A.take k).any (overB n) = false) ∧ wr = w) (fun x _ => A.length - (intOf x).toNat)
  case atStart => exact ⟨0, by omega, rfl, rfl, rfl⟩
  case round =>
    obtain ⟨k, hk, rfl, HT0, rfl⟩ := hrel
    by_cases hlt : k < A.length
    · have HT : Hid (A.take (k + 1) = A.take k ++ [A[k]]) := List.take_succ_eq_append_getElem hlt
      have HM : Hid (A[k] ∈ A) := List.getElem_mem hlt
      obtain ⟨b, o, c', he, hbl, hcs⟩ := HV.out.opened (by rw [u32s_len]; omega)
      simp only [Value.slice.injEq] at he
      obtain ⟨rfl, -, rfl⟩ := he
      have hck := hcs k _ (u32s_get hlt)
      have HC2 := Lib.hid (HCL.out A[k])
      clear hcs
      generalize A[k] = y at *
      cases hnb : overB n y with
      | false =>
        rw [hnb] at HC2
        have HA2 : Hid ((A.take (k + 1)).any (overB n) = false) := by
          unfold Hid
          rw [HT.out, List.any_append, HT0.out]
          simp [hnb]
        clear hnb HT HM HT0
        go_wp2_with (go_at_call 35; refine HC2.out.mono ?_; rintro e w3 ⟨rfl, rfl⟩)
        go_roundw
        case rel => exact ⟨k + 1, by omega, by go_num, HA2, trivial⟩
        case measure => simp [intOf]; omega
      | true =>
        rw [hnb] at HC2
        have HA2 : Hid (A.any (overB n) = true) := List.any_eq_true.2 ⟨y, HM.out, hnb⟩
        clear hnb HT HM HT0
        go_wp2_with (go_at_call 35; refine HC2.out.mono ?_; rintro e w3 ⟨rfl, rfl⟩)
        go_ret
        exact ⟨⟨_, rfl, by rw [HA2.out]; exact decide_eq_true (by omega)⟩, rfl⟩
    · obtain rfl : k = A.length := by omega
      have HA2 : Hid (A.any (overB n) = false) := by have := HT0.out; rwa [List.take_length] at this
      clear HT0
      go_wp2
      go_ret
      exact ⟨⟨_, rfl, by rw [HA2.out]; rfl⟩, rfl⟩
theorem containsOv_any (v : Value) (A : List Nat) (n P : Nat) (a : Option Addr) (c : Nat) (hn : n < 32) (w : World) (hv : Rd w v (u32s A)) (hl : A.length ≤ 65536) (hc : w.cell? ⟨P, 0, none⟩ = some (.slice a n c)) :
    Calls Try.prog 37 #[v, .func (.func 35) #[] #[.pointer (some ⟨P, 0, none⟩)]] w fun e w' => e = .returned (.bool (A.any (overB n))) ∧ w' = w := by
  have HI := Lib.hid (indexOv_any v A n P a c hn w hv hl hc)
  clear hv hl hc hn
  go_enter Try.func37, Try.ntmps37
  go_wp2_with fail
  refine HI.out.mono ?_
  rintro e w1 ⟨⟨z, rfl, hz⟩, rfl⟩
  go_wp2
  all_goals go_ret
  all_goals exact ⟨ret_bool (by rw [← hz]), rfl⟩
theorem mayBeCy_any (v : Value) (A : List Nat) (w : World) (hv : Rd w v (u32s A)) (hl : A.length ≤ 65536) :
    Calls Try.prog 19 #[v] w fun e w' => e = .returned (.bool (mayCy A)) ∧ Below w.heap.size w w' := by
  obtain ⟨va, vc, rfl⟩ := hv.len
  rw [u32s_len] at hv ⊢
  have HB := Lib.hid ((Below.refl w.heap.size w).alloc (Nat.le_refl _) (.cells #[.slice va A.length vc] 22))
  have HM : Hid (mayCy A = (decide (A.length ≤ 6) && !A.any (overB A.length))) := rfl
  by_cases h6 : A.length ≤ 6
  · have HC := Lib.hid (containsOv_any (.slice va A.length vc) A A.length w.heap.size va vc (by omega) (w.alloc (.cells #[.slice va A.length vc] 22)) (hv.below HB.out (Nat.le_refl _)) hl ((At.new w _ _).cell (i := 0) rfl))
    rw [decide_eq_true h6, Bool.true_and] at HM
    generalize A.any (overB A.length) = b at *
    generalize mayCy A = m at *
    clear hv
    go_enter Try.func19, Try.ntmps19
    go_wp2_with (go_at_call 37; refine HC.out.mono ?_; rintro e w3 ⟨rfl, rfl⟩)
    go_ret
    exact ⟨ret_bool HM.out.symm, HB.out⟩
  · rw [decide_eq_false h6, Bool.false_and] at HM
    generalize mayCy A = m at *
    clear hv
    go_enter Try.func19, Try.ntmps19
    go_wp2
    go_ret
    exact ⟨ret_bool HM.out.symm, HB.out⟩
theorem isNoneC_any (x : Int) (n : Nat) (N : Nat) (a : Option Addr) (c : Nat) (w : World) (hc : w.cell? ⟨N, 0, none⟩ = some (.slice a n c)) :
    Calls Try.prog 24 #[.int .i64 x, .pointer (some ⟨N, 0, none⟩)] w fun e w' => e = .returned (.bool (noneC n x)) ∧ w' = w := by
  go_enter Try.func24, Try.ntmps24
  go_wp2
  all_goals go_ret
  all_goals exact ⟨by unfold noneC; simp [*], rfl⟩
set_option maxRecDepth 100000 in
set_option maxHeartbeats 1000000 in
theorem indexNC_any (v : Value) (row : List Int) (n N : Nat) (a : Option Addr) (c : Nat) (w : World) (hv : Rd w v (ints row)) (hl : row.length ≤ 65536) (hc : w.cell? ⟨N, 0, none⟩ = some (.slice a n c)) :
    Calls Try.prog 40 #[v, .func (.func 24) #[] #[.pointer (some ⟨N, 0, none⟩)]] w fun e w' => (∃ z : Int, e = .returned (.int .i64 z) ∧ decide (0 ≤ z) = row.any (noneC n)) ∧ w' = w := by
  have HV := Lib.hid hv
  have HCL := Lib.hid (fun x => isNoneC_any x n N a c w hc)
  obtain ⟨va, vc, rfl⟩ := hv.len
  rw [ints_len] at HV ⊢
  clear hv hc
  go_enter Try.func40, Try.ntmps40
  go_wp2_with fail
  go_loopw [8] (fun x wr => ∃ k : Nat, k ≤ row.length ∧ x = .int .i64 k ∧ Hid ((row.take k).any (noneC n) = false) ∧ wr = w) (fun x _ => row.length - (intOf x).toNat)
  case atStart => exact ⟨0, by omega, rfl, rfl, rfl⟩
  case round =>
    obtain ⟨k, hk, rfl, HA, rfl⟩ := hrel
    by_cases hlt : k < row.length
    · have HT : Hid (row.take (k + 1) = row.take k ++ [row[k]]) := List.take_succ_eq_append_getElem hlt
      have HM : Hid (row[k] ∈ row) := List.getElem_mem hlt
      obtain ⟨b, o, c', he, hbl, hcs⟩ := HV.out.opened (by rw [ints_len]; omega)
      simp only [Value.slice.injEq] at he
      obtain ⟨rfl, -, rfl⟩ := he
      have hck := hcs k (.int .i64 row[k]) (by unfold ints; rw [List.getElem?_map, List.getElem?_eq_getElem hlt]; rfl)
      clear hcs
      generalize row[k] = y at *
      cases hnb : noneC n y with
      | false =>
        have HC2 := Lib.hid (HCL.out y)
        rw [hnb] at HC2
        have HA2 : Hid ((row.take (k + 1)).any (noneC n) = false) := by
          unfold Hid
          rw [HT.out, List.any_append, HA.out]
          simp [hnb]
        clear hnb HT HM HA
        go_wp2_with (go_at_call 24; refine HC2.out.mono ?_; rintro e w3 ⟨rfl, rfl⟩)
        go_roundw
        case rel => exact ⟨k + 1, by omega, by go_num, HA2, trivial⟩
        case measure => simp [intOf]; omega
      | true =>
        have HC2 := Lib.hid (HCL.out y)
        rw [hnb] at HC2
        have HA2 : Hid (row.any (noneC n) = true) := List.any_eq_true.2 ⟨y, HM.out, hnb⟩
        clear hnb HT HM HA
        go_wp2_with (go_at_call 24; refine HC2.out.mono ?_; rintro e w3 ⟨rfl, rfl⟩)
        go_ret
        exact ⟨⟨_, rfl, by rw [HA2.out]; exact decide_eq_true (by omega)⟩, rfl⟩
    · obtain rfl : k = row.length := by omega
      have HA2 : Hid (row.any (noneC n) = false) := by have := HA.out; rwa [List.take_length] at this
      clear HA
      go_wp2
      go_ret
      exact ⟨⟨_, rfl, by rw [HA2.out]; rfl⟩, rfl⟩
theorem containsNC_any (v : Value) (row : List Int) (n N : Nat) (a : Option Addr) (c : Nat) (w : World) (hv : Rd w v (ints row)) (hl : row.length ≤ 65536) (hc : w.cell? ⟨N, 0, none⟩ = some (.slice a n c)) :
    Calls Try.prog 25 #[v, .func (.func 24) #[] #[.pointer (some ⟨N, 0, none⟩)]] w fun e w' => e = .returned (.bool (row.any (noneC n))) ∧ w' = w := by
  have HI := Lib.hid (indexNC_any v row n N a c w hv hl hc)
  clear hv hl hc
  go_enter Try.func25, Try.ntmps25
  go_wp2_with fail
  refine HI.out.mono ?_
  rintro e w1 ⟨⟨z, rfl, hz⟩, rfl⟩
  go_wp2
  all_goals go_ret
  all_goals exact ⟨ret_bool (by rw [← hz]), rfl⟩
set_option maxRecDepth 100000 in
set_option maxHeartbeats 4000000 in
theorem isCycle_any (v rv : Value) (A row : List Nat) (w : World) (hv : Rd w v (u32s A)) (hA : ∀ x ∈ A, x < 4294967296) (hal : A.length ≤ 6) (hr : Rd w rv (nats row)) (hrl : row.length ≤ 65536) (hlt : ∀ k ∈ row, k < A.length) :
    Calls Try.prog 26 #[v, rv] w fun e w' => e = .returned (.bool (walkB A row)) ∧ Below w.heap.size w w' := by
  obtain ⟨va, vc, rfl⟩ := hv.len
  obtain ⟨ra, rc, rfl⟩ := hr.len
  rw [u32s_len] at hv ⊢
  rw [nats_len] at hr ⊢
  by_cases h0 : row.length = 0
  · obtain rfl : row = [] := List.length_eq_zero_iff.1 h0
    clear hv hr hlt h0
    go_enter Try.func26, Try.ntmps26
    go_wp2
    go_ret
    exact ⟨rfl, Below.refl _ _⟩
  · have HW := Lib.hid (walk_prev A row)
    have HWN := Lib.hid (fun (k : Nat) (hk : k < row.length) (h : stepB A row k = false) => steps_not hk h)
    have HLT := Lib.hid hlt
    have HR := Lib.hid hr
    have HLE := Lib.hid (fun (i k : Nat) (hi : i < A.length) (hk : k < A.length) (W : World) (hW : Below w.heap.size w W) => leadsC_any _ A i k W (hv.below hW (Nat.le_refl _)) hA (by omega) hi (by omega))
    have HPV : Hid (∀ k, k < row.length → prevB row k < A.length) := fun k hk => by
      unfold prevB lastB
      split
      · rw [getD_get (show row.length - 1 < row.length by omega)]; exact hlt _ (List.getElem_mem _)
      · rw [getD_get (show k - 1 < row.length by omega)]; exact hlt _ (List.getElem_mem _)
    have HP0 : Hid (prevB row 0 = lastB row) := rfl
    have HPS : Hid (∀ k, k < row.length → ∀ (h : k < row.length), prevB row (k + 1) = row[k]'h) := fun k hk h => by
      unfold prevB
      rw [if_neg (by omega), Nat.add_sub_cancel, getD_get]
    have HNE : Hid ((!row.isEmpty) = true) := by
      cases row with
      | nil => simp at h0
      | cons x r => rfl
    obtain ⟨b, o, c', he, hbl, hcs⟩ := hr.opened (by rw [nats_len]; omega)
    simp only [Value.slice.injEq] at he
    obtain ⟨rfl, -, rfl⟩ := he
    obtain ⟨m, hm⟩ : ∃ m, row.length = m + 1 := ⟨row.length - 1, by omega⟩
    have hcl : w.cell? ⟨b, o + m, none⟩ = some (.int .i64 (lastB row : Nat)) := by
      have hml : m < row.length := by omega
      rw [hcs m _ (nats_get hml)]
      unfold lastB
      rw [show row.length - 1 = m from by omega, getD_get hml]
    have hn0 : ((row.length : Int) == 0) = false := by rw [beq_eq_false_iff_ne]; omega
    have hm1 : ((row.length : Int) - 1) = (m : Int) := by omega
    have hm2 : (m : Int) < (row.length : Int) := by omega
    have HCS := Lib.hid hcs
    have HM := Lib.hid hm
    clear hv hA hr hlt hcs h0 hbl hm
    obtain ⟨y, hy⟩ : ∃ y, lastB row = y := ⟨_, rfl⟩
    rw [hy] at hcl HP0
    clear hy
    generalize walkB A row = R at *
    go_enter Try.func26, Try.ntmps26
    go_wp2_with fail
    go_loopw [5, 6, 20] (fun s f x wr => ∃ k : Nat, k ≤ row.length ∧ x = .int .i64 k ∧ s = .int .u32 ((bitsR (row.take k) : Nat) : Int) ∧ f = .int .i64 ((prevB row k : Nat) : Int) ∧ Hid ((List.range k).all (stepB A row) = true) ∧ Hid (Below w.heap.size w wr)) (fun _ _ x _ => row.length - (intOf x).toNat)
    case atStart => exact ⟨0, by omega, rfl, rfl, by rw [HP0.out], rfl, Below.refl _ _⟩
    case round =>
      obtain ⟨k, hk, rfl, rfl, rfl, HS, HB⟩ := hrel
      by_cases hlt : k < row.length
      · have hck := cell_on HB.out (HCS.out k _ (nats_get hlt))
        have hxA := HLT.out _ (List.getElem_mem hlt)
        have hpA := HPV.out k hlt
        have HPN := Lib.hid (HPS.out k hlt hlt)
        have HTK : Hid (bitsR (row.take (k + 1)) = bitsR (row.take k) ||| 2 ^ row[k]) := by unfold Hid; rw [List.take_succ_eq_append_getElem hlt, bitsR_snoc]
        have hsl : bitsR (row.take k) < 64 := bitsR_lt fun y hy => by have := HLT.out y (List.mem_of_mem_take hy); omega
        have hap := and_pow2 (bitsR (row.take k)) row[k]
        have htb := bitsR_test (row.take k) row[k]
        have hst : stepB A row k = (!(row.take k).contains row[k] && aft A (prevB row k) row[k]) := by unfold stepB; rw [getD_get hlt]
        have HST := Lib.hid (HWN.out k hlt)
        have HSN : Hid (stepB A row k = true → (List.range (k + 1)).all (stepB A row) = true) := fun h => by rw [steps_next, HS.out, h]; rfl
        have HLK := Lib.hid (HLE.out (prevB row k) row[k] hpA hxA wr HB.out)
        rw [htb] at hap
        clear htb HP0 HS
        generalize row[k] = x at *
        generalize prevB row k = p at *
        generalize bitsR (row.take k) = sn at *
        generalize (row.take k).contains x = c1 at *
        have HBT := bitCy_all x (by omega)
        have hx32 : 2 ^ x < 4294967296 := Nat.pow_lt_pow_right (a := 2) (m := x) (n := 32) (by decide) (by omega)
        have hand := u32_and_nat sn (2 ^ x) (by omega) hx32
        have hor := u32_or_nat sn (2 ^ x) (by omega) hx32
        have hpos : 0 < 2 ^ x := Nat.two_pow_pos x
        obtain ⟨pw, hpw⟩ : ∃ pw, 2 ^ x = pw := ⟨_, rfl⟩
        rw [hpw] at HBT hap hand hor hx32 hpos HTK
        have HBI : Hid (Below wr.heap.size wr wr) := Below.refl _ _
        clear hpw hpA hxA
        cases c1 with
        | true =>
          rw [if_pos rfl] at hap
          rw [hap] at hand
          rw [Bool.not_true, Bool.false_and] at hst
          obtain rfl : R = false := HST.out hst
          have hnz : ((pw : Int) != 0) = true := by simp; omega
          clear hap hst HST HSN HLK hor HTK
          go_wp2_with (go_at_call 36; refine (HBT.out _).mono ?_; rintro e w3 ⟨rfl, hw3⟩; rw [hw3]; clear hw3)
          go_ret
          exact ⟨rfl, HB.out⟩
        | false =>
          rw [if_neg (by decide)] at hap
          rw [hap] at hand
          rw [Bool.not_false, Bool.true_and] at hst
          clear hap
          cases ha : aft A p x with
          | false =>
            rw [ha] at HLK hst
            obtain rfl : R = false := HST.out hst
            clear hst HST HSN hor HTK ha
            go_wp2_with (first
              | (go_at_call 36; refine (HBT.out _).mono ?_; rintro e w3 ⟨rfl, hw3⟩; rw [hw3]; clear hw3)
              | (go_at_call 38; refine HLK.out.mono ?_; rintro e w4 ⟨rfl, hb4⟩; have HB4 := Lib.hid (HB.out.trans (hb4.mono HB.out.size)); clear hb4))
            go_ret
            exact ⟨rfl, HB4.out⟩
          | true =>
            rw [ha] at HLK hst
            have HS2 := Lib.hid (HSN.out hst)
            clear hst HST HSN ha
            go_wp2_with (first
              | (go_at_call 36; refine (HBT.out _).mono ?_; rintro e w3 ⟨rfl, hw3⟩; rw [hw3]; clear hw3)
              | (go_at_call 38; refine HLK.out.mono ?_; rintro e w4 ⟨rfl, hb4⟩; have HB4 := Lib.hid (HB.out.trans (hb4.mono HB.out.size)); clear hb4))
            go_roundw
            case rel => exact ⟨k + 1, by omega, by go_num, by rw [HTK.out], by rw [HPN.out], HS2.out, HB4.out⟩
            case measure => simp [intOf]; omega
      · obtain rfl : k = row.length := by omega
        have HR2 : Hid (true = R) := by rw [Hid, HW.out, HS.out, Bool.and_true]; exact HNE.out.symm
        clear HP0 HPS HPV HLE HWN HW HS
        go_wp2
        go_ret
        exact ⟨ret_bool HR2.out, HB.out⟩
set_option maxRecDepth 100000 in
set_option maxHeartbeats 1000000 in
/-- THE PROGRAM's Walk -/
theorem walkC_any (v rv : Value) (A : List Nat) (row : List Int) (w : World) (hv : Rd w v (u32s A)) (hA : ∀ x ∈ A, x < 4294967296) (hl : A.length ≤ 65536) (hr : Rd w rv (ints row)) (hrl : row.length ≤ 65536) :
    Calls Try.prog 7 #[v, rv] w fun e w' => e = .returned (.tuple #[.bool (walkR A row), .int .i64 ((walkE A row : Nat) : Int)]) ∧ Below w.heap.size w w' := by
  obtain ⟨va, vc, rfl⟩ := hv.len
  obtain ⟨ra, rc, rfl⟩ := hr.len
  rw [u32s_len] at hv ⊢
  rw [ints_len] at hr ⊢
  have HB := Lib.hid ((Below.refl w.heap.size w).alloc (Nat.le_refl _) (.cells #[.slice va A.length vc] 22))
  have HAT := Lib.hid (At.new w #[.slice va A.length vc] 22)
  have HMB := Lib.hid (mayBeCy_any _ A (w.alloc (.cells #[.slice va A.length vc] 22)) (hv.below HB.out (Nat.le_refl _)) hl)
  have e0 := HAT.out.cell (i := 0) rfl
  have hWR : walkR A row = if walkE A row = 0 then walkB A (row.map Int.toNat) else false := rfl
  have hWE : walkE A row = if mayCy A = true then (if row.any (noneC A.length) = true then 7 else 0) else 1 := rfl
  cases hm : mayCy A with
  | false =>
    rw [hm] at HMB hWE
    rw [if_neg (by decide)] at hWE
    rw [hWE] at hWR ⊢
    rw [if_neg (by decide)] at hWR
    rw [hWR]
    clear hv hr hWE hWR hm
    go_enter Try.func7, Try.ntmps7
    go_wp2_with (go_at_call 19; refine HMB.out.mono ?_; rintro e w3 ⟨rfl, hb3⟩; have HB3 := Lib.hid (HB.out.trans (hb3.mono HB.out.size)); clear hb3)
    refine bodyPost_ret (v := .tuple #[.bool false, .int .i64 1]) (by simp [results, Try.results7, go_sem]) rfl ⟨rfl, HB3.out⟩
  | true =>
    rw [hm] at HMB hWE
    rw [if_pos rfl] at hWE
    have hal : A.length ≤ 6 := by
      unfold mayCy at hm
      rw [Bool.and_eq_true, decide_eq_true_eq] at hm
      exact hm.1
    have HNC := Lib.hid (fun (W : World) (hW : Below w.heap.size w W) (hc : W.cell? ⟨w.heap.size, 0, none⟩ = some (.slice va A.length vc)) => containsNC_any (.slice ra row.length rc) row A.length w.heap.size va vc W (hr.below hW (Nat.le_refl _)) hrl hc)
    cases hn : row.any (noneC A.length) with
    | true =>
      rw [hn] at HNC hWE
      rw [if_pos rfl] at hWE
      rw [hWE] at hWR ⊢
      rw [if_neg (by decide)] at hWR
      rw [hWR]
      clear hv hr hWE hWR hm hn
      go_enter Try.func7, Try.ntmps7
      go_wp2_with (first
        | (go_at_call 19; refine HMB.out.mono ?_; rintro e w3 ⟨rfl, hb3⟩; have HB3 := Lib.hid (HB.out.trans (hb3.mono HB.out.size)); have f0 := (HAT.out.below hb3 HAT.out.lt).cell (i := 0) rfl; clear hb3)
        | (go_at_call 25; refine (HNC.out _ HB3.out f0).mono ?_; rintro e w4 ⟨rfl, hw4⟩; rw [hw4]; clear hw4))
      refine bodyPost_ret (v := .tuple #[.bool false, .int .i64 7]) (by simp [results, Try.results7, go_sem]) rfl ⟨rfl, HB3.out⟩
    | false =>
      obtain ⟨rn, hrn, hrn2, hlt⟩ := none_nats hn
      rw [hn] at HNC hWE
      rw [if_neg (by decide)] at hWE
      rw [hWE] at hWR ⊢
      rw [if_pos rfl, hrn2] at hWR
      rw [hWR]
      have hrr : Rd w (.slice ra row.length rc) (nats rn) := by rw [nats_ints, ← hrn]; exact hr
      have hrnl : rn.length = row.length := by rw [hrn, List.length_map]
      have HIC := Lib.hid (fun (W : World) (hW : Below w.heap.size w W) => isCycle_any (.slice va A.length vc) (.slice ra row.length rc) A rn W (hv.below hW (Nat.le_refl _)) hA hal (hrr.below hW (Nat.le_refl _)) (by omega) hlt)
      clear hv hr hWE hWR hm hn hrr hrnl hrn hrn2 hA hlt
      generalize walkB A rn = R at *
      generalize row.length = rl at *
      go_enter Try.func7, Try.ntmps7
      go_wp2_with (first
        | (go_at_call 19; refine HMB.out.mono ?_; rintro e w3 ⟨rfl, hb3⟩; have HB3 := Lib.hid (HB.out.trans (hb3.mono HB.out.size)); have f0 := (HAT.out.below hb3 HAT.out.lt).cell (i := 0) rfl; clear hb3)
        | (go_at_call 25; refine (HNC.out _ HB3.out f0).mono ?_; rintro e w4 ⟨rfl, hw4⟩; rw [hw4]; clear hw4)
        | (go_at_call 26; refine (HIC.out _ HB3.out).mono ?_; rintro e w5 ⟨rfl, hb5⟩; have HB5 := Lib.hid (HB3.out.trans (hb5.mono HB3.out.size)); clear hb5))
      refine bodyPost_ret (v := .tuple #[.bool R, .int .i64 0]) (by simp [results, Try.results7, go_sem]) rfl ⟨rfl, HB5.out⟩
end Go.Proofs.Ytclhbnfnmpabbaa
