/- Plain words of ExtendRises; the walks of slices.Compare at rows of places, of slices.Clone at uint32. -/
import Derived.Test.YtclhbnfnmpabbaaExtP
import Derived.Deep.DeepMust
import Derived.BigQuiet
import Derived.Deep.AppendLies
namespace Go.Proofs.Ytclhbnfnmpabbaa.RPlain
end Go.Proofs.Ytclhbnfnmpabbaa.RPlain
namespace Go.Proofs.Ytclhbnfnmpabbaa.RPlain

/-- two rows of one length, the one ahead of the other: where they part -/
theorem lt_parts : ∀ {u v : List Nat}, u.length = v.length → u < v → ∃ j, ∃ (hu : j < u.length) (hv : j < v.length), u[j] < v[j] ∧ ∀ k (hk : k < j), u[k]'(Nat.lt_trans hk hu) = v[k]'(Nat.lt_trans hk hv) := by
  intro u
  induction u with
  | nil =>
    intro v hl h
    cases v with
    | nil => exact absurd h (List.lt_irrefl _)
    | cons y s => simp at hl
  | cons x r ih =>
    intro v hl h
    cases v with
    | nil => simp at hl
    | cons y s =>
      rcases List.cons_lt_cons_iff.1 h with h1 | ⟨rfl, h1⟩
      · exact ⟨0, by simp, by simp, h1, fun k hk => absurd hk (Nat.not_lt_zero _)⟩
      · obtain ⟨j, hu, hv, h2, h3⟩ := ih (by simpa using hl) h1
        refine ⟨j + 1, by simp; omega, by simp; omega, by simpa using h2, fun k hk => ?_⟩
        cases k with
        | zero => rfl
        | succ k => simpa using h3 k (by omega)
/-- the bits of a row -/
def bitsR (row : List Nat) : Nat := row.foldl (fun acc x => acc ||| 2 ^ x) 0
theorem bitsR_snoc (row : List Nat) (x : Nat) : bitsR (row ++ [x]) = bitsR row ||| 2 ^ x := by simp [bitsR]
theorem bitsR_test (row : List Nat) (j : Nat) : (bitsR row).testBit j = row.contains j := by
  have : ∀ (r : List Nat) (a : Nat), (r.foldl (fun acc x => acc ||| 2 ^ x) a).testBit j = (a.testBit j || r.contains j) := by
    intro r
    induction r with
    | nil => intro a; simp
    | cons x t ih =>
      intro a
      rw [List.foldl_cons, ih, Nat.testBit_or, Nat.testBit_two_pow, List.contains_cons, Bool.or_assoc]
      congr 2
      rw [Bool.eq_iff_iff]
      simp only [decide_eq_true_eq, beq_iff_eq]
      exact eq_comm
  unfold bitsR
  rw [this]
  simp
theorem bitsR_lt {row : List Nat} (h : ∀ x ∈ row, x < 6) : bitsR row < 64 := by
  refine Nat.lt_pow_two_of_testBit (n := 6) _ fun j hj => ?_
  rw [bitsR_test, List.contains_eq_mem, decide_eq_false_iff_not]
  intro hm
  have := h j hm
  omega
/-- nothing that stands behind a place is of those ahead -/
theorem apart_bits {A row : List Nat} (h : row.Pairwise (goes A)) {i : Nat} (hi : i < row.length) : (A.getD row[i] 0 ||| 2 ^ row[i]) &&& bitsR (row.take i) = 0 := by
  refine Nat.eq_of_testBit_eq fun j => ?_
  rw [Nat.zero_testBit, Nat.testBit_and, Nat.testBit_or, Nat.testBit_two_pow, bitsR_test]
  cases hc : (row.take i).contains j with
  | false => simp
  | true =>
    rw [List.contains_eq_mem, decide_eq_true_eq] at hc
    obtain ⟨k, hk, he⟩ := List.mem_iff_getElem.1 hc
    rw [List.getElem_take] at he
    have hki : k < i := by rw [List.length_take] at hk; omega
    have hg := List.pairwise_iff_getElem.1 h k i (by omega) hi hki
    rw [he] at hg
    have h1 : (A.getD row[i] 0).testBit j = false := hg.2
    have h2 : ¬ row[i] = j := hg.1
    rw [h1]
    simp [h2]
end Go.Proofs.Ytclhbnfnmpabbaa.RPlain
namespace Go.Proofs.Ytclhbnfnmpabbaa
open Go.RowKit RPlain

set_option maxRecDepth 100000 in
set_option maxHeartbeats 1000000 in
theorem compareN_any (v1 v2 : Value) (u v : List Nat) (w : World) (h1 : Rd w v1 (nats u)) (h2 : Rd w v2 (nats v)) (hl : u.length = v.length) (hul : u.length ≤ 1000) (hlt : u < v) :
    Calls Try.prog 18 #[v1, v2] w fun e w' => e = .returned (.int .i64 (-1)) ∧ w' = w := by
  obtain ⟨j, hju, hjv, hj1, hj2⟩ := lt_parts hl hlt
  obtain ⟨b1, o1, c1, rfl, -, hc1⟩ := h1.opened (by rw [nats_len]; omega)
  obtain ⟨b2, o2, c2, rfl, -, hc2⟩ := h2.opened (by rw [nats_len]; omega)
  have HC : Hid (∀ k (hk : k ≤ j), ∃ x y : Nat, w.cell? ⟨b1, o1 + k, none⟩ = some (.int .i64 (x : Int)) ∧ w.cell? ⟨b2, o2 + k, none⟩ = some (.int .i64 (y : Int)) ∧ (if k < j then x = y else x < y)) := by
    intro k hk
    refine ⟨u[k], v[k], hc1 k _ (nats_get (by omega)), hc2 k _ (nats_get (by omega)), ?_⟩
    by_cases h : k < j
    · rw [if_pos h]; exact hj2 k h
    · obtain rfl : k = j := by omega
      rw [if_neg h]; exact hj1
  rw [nats_len, nats_len, ← hl]
  clear hc1 hc2 h1 h2 hj1 hj2 hlt hjv
  generalize u.length = n at *
  clear hl
  go_enter Try.func18, Try.ntmps18
  go_wp2_with fail
  go_loopw [11] (fun x wr => ∃ k : Nat, k ≤ j ∧ x = .int .i64 k ∧ wr = w) (fun x _ => n - (intOf x).toNat)
  case atStart => exact ⟨0, by omega, rfl, rfl⟩
  case round =>
    obtain ⟨k, hk, rfl, hwr⟩ := hrel
    obtain rfl : w = wr := hwr.symm
    obtain ⟨x, y, hx, hy, hxy⟩ := HC.out k hk
    have hkn : k < n := by omega
    by_cases hkj : k < j
    · rw [if_pos hkj] at hxy
      subst hxy
      have hce : Lib.compareInt (x : Int) (x : Int) = 0 := by unfold Lib.compareInt; simp
      have HCM := Lib.hid (fun W => Try.cmp_Compare_int (x : Int) (x : Int) W)
      rw [hce] at HCM
      clear hce
      go_wp2_with (go_at_call 34; refine (HCM.out _).mono ?_; rintro e w5 ⟨rfl, rfl⟩)
      go_roundw
      case rel => exact ⟨k + 1, by omega, by go_num, trivial⟩
      case measure => simp [intOf]; omega
    · rw [if_neg hkj] at hxy
      have hce : Lib.compareInt (x : Int) (y : Int) = -1 := by unfold Lib.compareInt; simp; omega
      have HCM := Lib.hid (fun W => Try.cmp_Compare_int (x : Int) (y : Int) W)
      rw [hce] at HCM
      clear hce
      go_wp2_with (go_at_call 34; refine (HCM.out _).mono ?_; rintro e w5 ⟨rfl, rfl⟩)
      go_ret
      exact ⟨rfl, rfl⟩
theorem u32s_one (L : List Nat) : ∀ u ∈ u32s L, u.oneCell' = true := by
  intro u hu
  obtain ⟨x, _, rfl⟩ := List.mem_map.1 hu
  rfl
set_option maxRecDepth 100000 in
set_option maxHeartbeats 1000000 in
theorem cloneU_any (a : Option Addr) (c : Nat) (L : List Nat) (w : World) (hv : Rd w (.slice a L.length c) (u32s L)) (h0 : 0 < L.length) (hl : L.length ≤ 1000) :
    Calls Try.prog 16 #[.slice a L.length c] w fun e w' => ∃ g c', e = .returned (.slice (some ⟨g, 0, none⟩) L.length c') ∧ w.heap.size ≤ g ∧ w'.ownsRow w.heap.size 39 1 (.slice (some ⟨g, 0, none⟩) L.length c') L.length (u32s L) ∧ Below w.heap.size w w' := by
  obtain ⟨j0, hj0, hy0, hy1', hy2'⟩ := info_parts infoU
  obtain ⟨b, o, c', he, hbl, hc⟩ := hv.opened (by rw [u32s_len]; exact h0)
  simp only [Value.slice.injEq, u32s_len] at he
  obtain ⟨rfl, -, rfl⟩ := he
  have hba : Below w.heap.size w (w.alloc (.cells #[] 39)) := (Below.refl _ w).alloc (Nat.le_refl _) _
  have HBA := Lib.hid hba
  have HOA : Hid ((w.alloc (.cells #[] 39)).ownsRow w.heap.size 39 1 (.slice (some ⟨w.heap.size, 0, none⟩) 0 0) 0 []) := World.ownsRow_made (e := 39) (size := 1) w #[] 0 (Nat.le_refl _) (by unfold maxLen; omega) (by simp)
  have HCC : Hid (∀ j u, (u32s L)[j]? = some u → (w.alloc (.cells #[] 39)).cell? ((⟨b, o, none⟩ : Addr).add j) = some u) := fun j u hu => by
    rw [show (⟨b, o, none⟩ : Addr).add j = ⟨b, o + j, none⟩ from by unfold Addr.add; split <;> simp_all]
    exact (hba.cell (p := ⟨b, o + j, none⟩) hbl).trans (hc j u hu)
  have HONE := Lib.hid (u32s_one L)
  have HLN := Lib.hid (u32s_len L)
  have heq := fun (W : World) => Lib.run_eql_slice_nil (P := Try.prog) W 22 39 (some ⟨b, o, none⟩) L.length c 0 0 Try.underlying22
  clear hc hv hba hbl
  go_enter Try.func16, Try.ntmps16
  go_wp2_with (at_builtin; refine wpList_append_own _ rfl _ _ 22 rfl w.heap.size 39 j0 (.int .u32 0) 1 4 Try.underlying22 hj0 hy0 hy1' hy2' rfl (by decide) (.slice (some ⟨w.heap.size, 0, none⟩) 0 0) 0 [] rfl HOA.out ⟨b, o, none⟩ L.length c (u32s L) rfl (by rw [HLN.out]; omega) HCC.out HONE.out (by unfold maxLen; omega) (by omega) HBA.out.size ?_)
  intro v2 w2 ho2 hg2 _
  have HB2 := Lib.hid (HBA.out.grown hg2 HBA.out.size (fun x hx => (HOA.out.lt x hx).1))
  obtain ⟨g, cap, rfl, hgb, _⟩ := World.ownsRow.form ho2 h0
  have HO2 := Lib.hid ho2
  clear ho2 hg2 heq
  go_wp2
  go_ret
  exact ⟨g, cap, rfl, hgb, HO2.out, HB2.out⟩
end Go.Proofs.Ytclhbnfnmpabbaa
