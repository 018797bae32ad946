/- Merged: SrlJ, SrlK, SrlS, SrlF, SrlL, SrlO. -/
import Derived.Test.YtoemcdcabamgiaaDoorSrlI
import Derived.Test.YtoemcdcabamgiaaDoorSrlC
import Derived.Test.YtoemcdcabamgiaaDoorMg14
import Derived.Test.YtoemcdcabamgiaaDoorMg21
import Derived.Test.YtoemcdcabamgiaaDoorMg11
import Derived.Test.YtoemcdcabamgiaaDoorSrlD
import Derived.Test.YtoemcdcabamgiaaDoorMg9
import Derived.Test.YtoemcdcabamgiaaDoorMg19
import Derived.Test.YtoemcdcabamgiaaDoorMg6
import Derived.BigQuiet
import Derived.Deep.Cut
import Derived.Deep.DeepCutAuto
import Derived.Deep.CutRange
import Derived.Deep.RegionHeld
import Derived.Deep.DeepMust
import Derived.Shelf.Abstract
import Derived.WalkKit
import Derived.OwnWalkIn
import Derived.TacticsInMore
import Derived.LoopNIn
import Derived.LoopIn
import Derived.RangeFuncLeaves
/- The walk of the reference's Search. -/
namespace Go.Proofs.YtoemcdcabamgiaaDoor.WPlain
end Go.Proofs.YtoemcdcabamgiaaDoor.WPlain
namespace Go.Proofs.YtoemcdcabamgiaaDoor.QPlain
end Go.Proofs.YtoemcdcabamgiaaDoor.QPlain
namespace Go.Proofs.YtoemcdcabamgiaaDoor.RPlain
end Go.Proofs.YtoemcdcabamgiaaDoor.RPlain
namespace Go.Proofs.YtoemcdcabamgiaaDoor
open Go.RowKit WPlain QPlain RPlain

theorem capE {a : Option Addr} {n c : Nat} (h : n ≤ c) : ∀ a' n' c', Value.slice a n c = .slice a' n' c' → n' ≤ c' := fun _ _ _ he => by
  simp only [Value.slice.injEq] at he
  omega
theorem ops_sixty {h : List Ev} (h0 : (checkS h).2 = 0) : ∀ i, (opsAt (tableS h) i).length ≤ 60 := fun i => by
  unfold opsAt
  cases hg : (tableS h)[i]? with
  | none => exact Nat.zero_le _
  | some X => exact (table_ops h0 _ (List.mem_of_getElem? hg)).2
end Go.Proofs.YtoemcdcabamgiaaDoor
/- The walks of recantref01's Ints at any two rows, of slices.Equal, and of both packages' call that tells whether two findings are the same. -/
namespace Go.Proofs.YtoemcdcabamgiaaDoor.WPlain
end Go.Proofs.YtoemcdcabamgiaaDoor.WPlain
namespace Go.Proofs.YtoemcdcabamgiaaDoor.QPlain
end Go.Proofs.YtoemcdcabamgiaaDoor.QPlain
namespace Go.Proofs.YtoemcdcabamgiaaDoor.RPlain
end Go.Proofs.YtoemcdcabamgiaaDoor.RPlain
namespace Go.Proofs.YtoemcdcabamgiaaDoor
open Go.RowKit WPlain QPlain RPlain

theorem beq_false' {a b : Int} (h : ¬ a = b) : (a == b) = false := by rw [beq_eq_false_iff_ne]; exact h
theorem ints_getI {xs : List Int} {k : Nat} (h : k < xs.length) : (ints xs)[k]? = some (.int .i64 xs[k]) := by
  unfold ints
  rw [List.getElem?_map, List.getElem?_eq_getElem h]; rfl
theorem take_differ {xs ys : List Int} {k : Nat} (hx : k < xs.length) (_hy : k < ys.length) (h : ¬ xs[k] = ys[k]) : ¬ xs = ys := by
  rintro rfl
  exact h rfl
set_option maxRecDepth 100000 in
set_option maxHeartbeats 1000000 in
theorem refIntsD_any (v1 v2 : Value) (xs ys : List Int) (w : World) (h1 : Rd w v1 (ints xs)) (h2 : Rd w v2 (ints ys)) (hx : xs.length ≤ 65536) :
    Calls Tryd.prog 23 #[v1, v2] w fun e w' => e = .returned (.bool (decide (xs = ys))) ∧ ∃ n, w' = w.drewN n := by
  have H1 := Lib.hid h1
  have H2 := Lib.hid h2
  obtain ⟨a1, c1, rfl⟩ := h1.len
  obtain ⟨a2, c2, rfl⟩ := h2.len
  rw [ints_len] at H1 H2 ⊢
  rw [ints_len]
  clear h1 h2
  by_cases hl : xs.length = ys.length
  · have HL := Lib.hid hl
    have HD := Lib.hid (fun (k : Nat) (hx : k < xs.length) (hy : k < ys.length) (h : ¬ xs[k] = ys[k]) => take_differ hx hy h)
    obtain ⟨res, hres⟩ : ∃ res, decide (xs = ys) = res := ⟨_, rfl⟩
    have HRES := Lib.hid hres
    rw [hres]
    have HT0 : Hid (xs.take 0 = ys.take 0) := rfl
    have HNX : Hid (∀ k (hx : k < xs.length) (hy : k < ys.length), xs.take k = ys.take k → xs[k] = ys[k] → xs.take (k + 1) = ys.take (k + 1)) := fun k hx hy h1 h2 => by
      rw [List.take_succ_eq_append_getElem hx, List.take_succ_eq_append_getElem hy, h1, h2]
    have HFN : Hid (xs.take xs.length = ys.take xs.length → xs = ys) := fun h => by
      rw [List.take_length, hl, List.take_length] at h
      exact h
    obtain ⟨nx, hnx⟩ : ∃ nx, xs.length = nx := ⟨_, rfl⟩
    obtain ⟨ny, hny⟩ : ∃ ny, ys.length = ny := ⟨_, rfl⟩
    have tl : ((nx : Int) != (ny : Int)) = false := by simp; omega
    have HNXE := Lib.hid hnx
    have HNYE := Lib.hid hny
    rw [hnx] at H1 hx ⊢
    rw [hny] at H2 ⊢
    have hxy : nx ≤ ny ∧ ny ≤ nx := by omega
    clear hl hres hnx hny
    obtain ⟨hxy1, hxy2⟩ := hxy
    go_enter Tryd.func23, Tryd.ntmps23
    go_wp2_with fail
    go_loopw [13] (fun x wr => ∃ k n : Nat, k ≤ nx ∧ x = .int .i64 k ∧ Hid (xs.take k = ys.take k) ∧ wr = w.drewN n) (fun x _ => nx - (intOf x).toNat)
    case atStart => exact ⟨0, 0, by omega, rfl, HT0, rfl⟩
    case round =>
      clear HT0
      obtain ⟨k, n, hk, rfl, HT, rfl⟩ := hrel
      by_cases hlt : k < nx
      · have hkx : k < xs.length := by have := HNXE.out; omega
        have hky : k < ys.length := by have := HNYE.out; omega
        obtain ⟨b1, o1, d1, he1, -, hc1⟩ := H1.out.opened (by rw [ints_len]; omega)
        obtain ⟨b2, o2, d2, he2, -, hc2⟩ := H2.out.opened (by rw [ints_len]; omega)
        have g1 := hc1 k _ (ints_getI hkx)
        have g2 := hc2 k _ (ints_getI hky)
        rw [ints_len, HNXE.out] at he1
        rw [ints_len, HNYE.out] at he2
        simp only [Value.slice.injEq] at he1 he2
        obtain ⟨rfl, -, rfl⟩ := he1
        obtain ⟨rfl, -, rfl⟩ := he2
        have HDK := Lib.hid (HD.out k hkx hky)
        have HNK := Lib.hid (HNX.out k hkx hky HT.out)
        have k1 : (k : Int) < (nx : Int) := by omega
        have k2 : (k : Int) < (ny : Int) := by omega
        clear hc1 hc2 HT
        generalize xs[k] = y at *
        generalize ys[k] = z at *
        clear hkx hky
        by_cases hyz : y = z
        · have HT2 := Lib.hid (HNK.out hyz)
          subst hyz
          clear HDK HNK
          go_wp2
          go_quiet (fail)
          go_wp2
          go_roundw
          case rel => exact ⟨k + 1, _, by omega, by go_num, HT2, rfl⟩
          case measure => simp [intOf]; omega
        · have HF : Hid (res = false) := by
            unfold Hid
            rw [← HRES.out]
            exact decide_eq_false (HDK.out hyz)
          have tne : (y != z) = true := by simp [hyz]
          clear HDK HNK
          go_wp2
          go_quiet (fail)
          go_wp2
          go_ret
          exact ⟨by rw [HF.out]; rfl, n + nq, by rw [World.drewN_drewN]⟩
      · obtain rfl : k = nx := by omega
        have HF : Hid (res = true) := by
          unfold Hid
          rw [← HRES.out]
          refine decide_eq_true (HFN.out ?_)
          rw [HNXE.out]
          exact HT.out
        clear HT
        go_wp2
        go_ret
        exact ⟨by rw [HF.out]; rfl, n, rfl⟩
  · have hne : ¬ xs = ys := fun h => hl (by rw [h])
    rw [decide_eq_false hne]
    generalize xs.length = nx at *
    generalize ys.length = ny at *
    have tl : ((nx : Int) != (ny : Int)) = true := by simp; omega
    clear hl
    go_enter Tryd.func23, Tryd.ntmps23
    go_wp2_with fail
    go_ret
    exact ⟨rfl, 0, rfl⟩
/-- are two findings the same? -/
def sameF (v1 c1 s1 v2 c2 s2 : Int) (xs ys : List Int) : Bool := decide (v1 = v2 ∧ c1 = c2 ∧ xs = ys ∧ s1 = s2)
set_option maxRecDepth 100000 in
set_option maxHeartbeats 2000000 in
theorem refSameS_any (v1 c1 s1 v2 c2 s2 : Int) (r1 r2 : Value) (xs ys : List Int) (w : World) (h1 : Rd w r1 (ints xs)) (h2 : Rd w r2 (ints ys)) (hx : xs.length ≤ 65536) :
    Calls Tryd.prog 8 #[.agg #[.int .i64 v1, .int .u32 c1, r1, .int .i64 s1], .agg #[.int .i64 v2, .int .u32 c2, r2, .int .i64 s2]] w fun e w' => e = .returned (.bool (sameF v1 c1 s1 v2 c2 s2 xs ys)) ∧ Below w.heap.size w w' := by
  obtain ⟨a1, d1, rfl⟩ := h1.len
  obtain ⟨a2, d2, rfl⟩ := h2.len
  obtain ⟨n1, hn1⟩ : ∃ z, (ints xs).length = z := ⟨_, rfl⟩
  obtain ⟨n2, hn2⟩ : ∃ z, (ints ys).length = z := ⟨_, rfl⟩
  rw [hn1] at h1 ⊢
  rw [hn2] at h2 ⊢
  obtain ⟨N, hN⟩ : ∃ z, w.heap.size = z := ⟨_, rfl⟩
  obtain ⟨w1, hw1⟩ : ∃ z, (w.alloc (.cells #[.int .i64 v1, .int .u32 c1, .slice a1 n1 d1, .int .i64 s1] 26)).alloc (.cells #[.int .i64 v2, .int .u32 c2, .slice a2 n2 d2, .int .i64 s2] 26) = z := ⟨_, rfl⟩
  have ha : At w1 N #[.int .i64 v1, .int .u32 c1, .slice a1 n1 d1, .int .i64 s1] 26 := by
    rw [← hw1, ← hN]; exact (At.new w _ _).alloc _
  have hb : At w1 (N + 1) #[.int .i64 v2, .int .u32 c2, .slice a2 n2 d2, .int .i64 s2] 26 := by
    rw [← hw1, ← hN]
    have := At.new (w.alloc (.cells #[.int .i64 v1, .int .u32 c1, .slice a1 n1 d1, .int .i64 s1] 26)) #[.int .i64 v2, .int .u32 c2, .slice a2 n2 d2, .int .i64 s2] 26
    rwa [World.size_alloc] at this
  have hb1 : Below N w w1 := by
    rw [← hw1, ← hN]; exact ((Below.refl _ w).alloc (Nat.le_refl _) _).alloc (by simp) _
  have HC := Lib.hid (refIntsD_any (.slice a1 n1 d1) (.slice a2 n2 d2) xs ys w1 (h1.below hb1 (by omega)) (h2.below hb1 (by omega)) hx)
  have HB1 : Hid (Below w.heap.size w w1) := by rw [← hN] at hb1; exact hb1
  have p0 : w1.cell? ⟨N, 0, none⟩ = some (.int .i64 v1) := ha.cell rfl
  have p1 : w1.cell? ⟨N, 1, none⟩ = some (.int .u32 c1) := ha.cell rfl
  have p2 : w1.cell? ⟨N, 2, none⟩ = some (.slice a1 n1 d1) := ha.cell rfl
  have p3 : w1.cell? ⟨N, 3, none⟩ = some (.int .i64 s1) := ha.cell rfl
  have q0 : w1.cell? ⟨N + 1, 0, none⟩ = some (.int .i64 v2) := hb.cell rfl
  have q1 : w1.cell? ⟨N + 1, 1, none⟩ = some (.int .u32 c2) := hb.cell rfl
  have q2 : w1.cell? ⟨N + 1, 2, none⟩ = some (.slice a2 n2 d2) := hb.cell rfl
  have q3 : w1.cell? ⟨N + 1, 3, none⟩ = some (.int .i64 s2) := hb.cell rfl
  unfold sameF
  clear ha hb hb1 h1 h2 hn1 hn2
  by_cases e0 : v1 = v2
  · by_cases e1 : c1 = c2
    · by_cases e3 : s1 = s2
      · by_cases e2 : xs = ys
        · rw [decide_eq_true e2] at HC
          rw [decide_eq_true ⟨e0, e1, e2, e3⟩]
          have t0 : (v1 == v2) = true := by simp [e0]
          have t1 : (c1 == c2) = true := by simp [e1]
          have t3 : (s1 == s2) = true := by simp [e3]
          clear e0 e1 e2 e3
          go_enter Tryd.func8, Tryd.ntmps8
          go_wp2_with (go_at_call 23; refine HC.out.mono ?_; rintro e w3 ⟨rfl, n, hw3⟩; rw [hw3]; clear hw3)
          go_ret
          exact ⟨rfl, below_drN HB1.out _⟩
        · rw [decide_eq_false e2] at HC
          rw [decide_eq_false (fun h => e2 h.2.2.1)]
          have t0 : (v1 == v2) = true := by simp [e0]
          have t1 : (c1 == c2) = true := by simp [e1]
          have t3 : (s1 == s2) = true := by simp [e3]
          clear e0 e1 e2 e3
          go_enter Tryd.func8, Tryd.ntmps8
          go_wp2_with (go_at_call 23; refine HC.out.mono ?_; rintro e w3 ⟨rfl, n, hw3⟩; rw [hw3]; clear hw3)
          go_ret
          exact ⟨rfl, below_drN HB1.out _⟩
      · rw [decide_eq_false (fun h => e3 h.2.2.2)]
        have t0 : (v1 == v2) = true := by simp [e0]
        have t1 : (c1 == c2) = true := by simp [e1]
        have t3 := beq_false' e3
        clear e0 e1 e3
        go_enter Tryd.func8, Tryd.ntmps8
        go_wp2_with fail
        go_ret
        exact ⟨rfl, HB1.out⟩
    · rw [decide_eq_false (fun h => e1 h.2.1)]
      have t0 : (v1 == v2) = true := by simp [e0]
      have t1 := beq_false' e1
      clear e0 e1
      go_enter Tryd.func8, Tryd.ntmps8
      go_wp2_with fail
      go_ret
      exact ⟨rfl, HB1.out⟩
  · rw [decide_eq_false (fun h => e0 h.1)]
    have t0 := beq_false' e0
    clear e0
    go_enter Tryd.func8, Tryd.ntmps8
    go_wp2_with fail
    go_ret
    exact ⟨rfl, HB1.out⟩
end Go.Proofs.YtoemcdcabamgiaaDoor
/- Plain words: what SerialRight asks of what is found. -/
namespace Go.Proofs.YtoemcdcabamgiaaDoor.WPlain
end Go.Proofs.YtoemcdcabamgiaaDoor.WPlain
namespace Go.Proofs.YtoemcdcabamgiaaDoor.QPlain
end Go.Proofs.YtoemcdcabamgiaaDoor.QPlain
namespace Go.Proofs.YtoemcdcabamgiaaDoor.RPlain
open WPlain QPlain

theorem expl_full {l : List Tx} {C : Nat} {R : List Nat} (h : Expl l (2 ^ l.length - 1) C R) : R.length = l.length := (allS_mem.1 (expl_all.1 h).1).1.trans (afterS_len l)
theorem expl_keeps {l : List Tx} {C : Nat} {R : List Nat} (h : Expl l (2 ^ l.length - 1) C R) : keepsS l (R.map fun x : Nat => (x : Int)) = true := by
  rw [keeps_nat]
  refine (List.pairwise_and_iff.2 ⟨h.nodup, h.keeps⟩).imp fun {b a} hab => ⟨fun he => hab.1 he.symm, hab.2⟩
theorem row_there {l : List Tx} {R : List Nat} (h : ∀ k ∈ R, k < l.length) : thereS l (R.map fun x : Nat => (x : Int)) = true := (thereS_iff _ _).2 fun x hx => by
  obtain ⟨k, hk, rfl⟩ := List.mem_map.1 hx
  have := h k hk
  omega
/-- nothing found: no row of any choice explains -/
theorem none_expl {h : List Ev} {B : Nat} (h1 : (searchG B (tableS h) (fun _ => 2 ^ (tableS h).length - 1) (chL (tableS h)) 0).1 = 1) :
    ∀ c ∈ chL (tableS h), ∀ row ∈ allS (afterS (tableS h)), legalS (tableS h) c row ≠ row.length := by
  obtain ⟨_, _, _, _, _, _, h7, _⟩ := search_tells (B := B) (l := tableS h) (W := fun _ => 2 ^ (tableS h).length - 1) (self_table h) (chL (tableS h)) 0 (Nat.zero_le _)
  intro c hc row hr hl
  exact h7 h1 c hc row (expl_all.2 ⟨hr, hl⟩)
theorem all_row {l : List Tx} {row : List Nat} (h : row ∈ allS (afterS l)) : row.Nodup ∧ (∀ k ∈ row, k < l.length) ∧ row.length = l.length := by
  obtain ⟨h1, h2, h3⟩ := allS_mem.1 h
  rw [afterS_len] at h1 h2
  exact ⟨goes_nodup h3, h2, h1⟩
/-- what holds of a search's answer, whatever it is -/
theorem right_known {h : List Ev} (h0 : (checkS h).2 = 0) {B B' : Nat} (hB : B ≤ B') :
    let x := searchG B (tableS h) (fun _ => 2 ^ (tableS h).length - 1) (chL (tableS h)) 0
    (x.1 = 0 ∨ x.1 = 1 ∨ x.1 = 2) ∧ x.2.2.2 ≤ B ∧ (x.1 = 2 → x.2.2.2 = B ∧ B < 125184) ∧ (x.1 ≠ 0 → x.2.1 = 0 ∧ x.2.2.1 = []) ∧ (x.1 ≠ 2 → searchG B' (tableS h) (fun _ => 2 ^ (tableS h).length - 1) (chL (tableS h)) 0 = x) := by
  intro x
  obtain ⟨g1, g2, g3, g4, g5, _⟩ := search_tells (B := B) (l := tableS h) (W := fun _ => 2 ^ (tableS h).length - 1) (self_table h) (chL (tableS h)) 0 (Nat.zero_le _)
  refine ⟨g1, g3, fun h2 => ⟨(g4 h2).1, ?_⟩, g5, fun h2 => search_more hB _ _ (Nat.zero_le _) h2⟩
  rcases Nat.lt_or_ge B 125184 with hlt | hge
  · exact hlt
  · have := search_known (B := B) (l := tableS h) (W := fun _ => 2 ^ (tableS h).length - 1) (self_table h) (table_six h0) hge
    rw [choices_chL (table_six h0)] at this
    exact absurd h2 this
theorem rows_fewS {A : List Nat} (h : A.length ≤ 6) : (allS A).length ≤ 65536 := by
  have hz : ∀ a b, aft (List.replicate A.length 0) a b = false := fun a b => by
    unfold aft
    rw [List.getD_eq_getElem?_getD, List.getElem?_replicate]
    split <;> exact Nat.zero_testBit _
  have h1 := allS_more (L := List.replicate A.length 0) (L' := A) (by simp) (fun a b hab => by rw [hz] at hab; cases hab)
  rw [allS_fact hz, List.length_replicate] at h1
  have h2 : ∀ j, j < 7 → factN j ≤ 720 := by decide
  have := h2 A.length (by omega)
  omega
end Go.Proofs.YtoemcdcabamgiaaDoor.RPlain
/- The walk of SerialPart. -/
namespace Go.Proofs.YtoemcdcabamgiaaDoor.WPlain
end Go.Proofs.YtoemcdcabamgiaaDoor.WPlain
namespace Go.Proofs.YtoemcdcabamgiaaDoor.QPlain
end Go.Proofs.YtoemcdcabamgiaaDoor.QPlain
namespace Go.Proofs.YtoemcdcabamgiaaDoor.RPlain
end Go.Proofs.YtoemcdcabamgiaaDoor.RPlain
namespace Go.Proofs.YtoemcdcabamgiaaDoor
open Go.RowKit WPlain QPlain RPlain

theorem srchE_of {h : List Ev} (h0 : (checkS h).2 = 0) {B : Int} (h1 : 0 ≤ B) (h2 : B ≤ 1000000) : srchE h B = 0 := by
  unfold srchE
  rw [if_pos h0, if_neg (by omega)]
theorem rowE_of {h : List Ev} (h0 : (checkS h).2 = 0) {who c : Nat} (hw : who < 2 ^ (tableS h).length) (hc : c < 2 ^ (tableS h).length) : rowE h who c 1956 = 0 := by
  unfold rowE
  rw [srchE_of h0 (by decide) (by decide), if_pos rfl, if_pos (Nat.or_lt_two_pow hw hc)]
theorem rowF_of {h : List Ev} (h0 : (checkS h).2 = 0) {who c : Nat} (hw : who < 2 ^ (tableS h).length) (hc : c < 2 ^ (tableS h).length) : rowF h who c 1956 = searchG 1956 (tableS h) (fun _ => who) [c] 0 := by
  unfold rowF
  rw [rowE_of h0 hw hc, if_pos rfl]; rfl
end Go.Proofs.YtoemcdcabamgiaaDoor
/- The walk of SerialRows. -/
namespace Go.Proofs.YtoemcdcabamgiaaDoor.WPlain
end Go.Proofs.YtoemcdcabamgiaaDoor.WPlain
namespace Go.Proofs.YtoemcdcabamgiaaDoor.QPlain
end Go.Proofs.YtoemcdcabamgiaaDoor.QPlain
namespace Go.Proofs.YtoemcdcabamgiaaDoor.RPlain
end Go.Proofs.YtoemcdcabamgiaaDoor.RPlain
namespace Go.Proofs.YtoemcdcabamgiaaDoor
open Go.RowKit WPlain QPlain RPlain

theorem sameF_self (v c s : Int) (xs : List Int) : sameF v c s v c s xs xs = true := by unfold sameF; simp
/-- the reference's finding of a row, and the program's -/
theorem row_ref {B : Nat} {l : List Tx} {who c : Nat} : searchG B l (fun _ => who) [c] 0 = ((fromS B l who c (l.length + 1) [] 0).1, (if (fromS B l who c (l.length + 1) [] 0).1 = 0 then c else 0), (fromS B l who c (l.length + 1) [] 0).2) := by
  have hle := left_le l who []
  have ha := from_ans (B := B) (l := l) (who := who) (c := c) (l.length + 1) [] 0 (Nat.zero_le _) (by omega)
  rw [searchG]
  generalize fromS B l who c (l.length + 1) [] 0 = x at *
  obtain ⟨v, R, s⟩ := x
  by_cases h : v = 1
  · subst h
    have hn : R = [] := ha.none (show (1 : Nat) ≠ 0 by decide)
    subst hn
    rw [if_pos rfl]; rfl
  · rw [if_neg h]
theorem row_len {h : List Ev} (h0 : (checkS h).2 = 0) {B who c : Nat} : (fromS B (tableS h) who c ((tableS h).length + 1) [] 0).2.1.length ≤ 65536 := by
  obtain ⟨h1, h2, _⟩ := row_tells (B := B) (l := tableS h) (who := who) (c := c) (self_table h) 0 (Nat.zero_le _)
  by_cases hx : (fromS B (tableS h) who c ((tableS h).length + 1) [] 0).1 = 0
  · have h3 := (h2 hx)
    have h4 := nodup_le _ (List.range (tableS h).length) h3.nodup (fun x hx => List.mem_range.2 ((h3.mem x).1 hx).1)
    have := table_six h0
    rw [List.length_range] at h4
    omega
  · rw [h1.none hx]; exact Nat.zero_le _
theorem refSame_same (v c s : Nat) (R : List Nat) (r1 r2 : Value) (w : World) (h1 : Rd w r1 (nats R)) (h2 : Rd w r2 (nats R)) (hl : R.length ≤ 65536) :
    Calls Tryd.prog 8 #[.agg #[.int .i64 (v : Int), .int .u32 (c : Int), r1, .int .i64 (s : Int)], .agg #[.int .i64 (v : Int), .int .u32 (c : Int), r2, .int .i64 (s : Int)]] w fun e w' => e = .returned (.bool true) ∧ Below w.heap.size w w' := by
  have h := refSameS_any v c s v c s r1 r2 (R.map fun x : Nat => (x : Int)) (R.map fun x : Nat => (x : Int)) w (by rw [← nats_intsS]; exact h1) (by rw [← nats_intsS]; exact h2) (by rw [List.length_map]; exact hl)
  rw [sameF_self] at h
  exact h
end Go.Proofs.YtoemcdcabamgiaaDoor
/- The walk of SerialRight. -/
namespace Go.Proofs.YtoemcdcabamgiaaDoor.WPlain
end Go.Proofs.YtoemcdcabamgiaaDoor.WPlain
namespace Go.Proofs.YtoemcdcabamgiaaDoor.QPlain
end Go.Proofs.YtoemcdcabamgiaaDoor.QPlain
namespace Go.Proofs.YtoemcdcabamgiaaDoor.RPlain
end Go.Proofs.YtoemcdcabamgiaaDoor.RPlain
namespace Go.Proofs.YtoemcdcabamgiaaDoor
open Go.RowKit WPlain QPlain RPlain

theorem mod_million (i : Int) : ∃ I : Nat, (wrap64 (i.tmod 1000000 + 1000000)).tmod 1000000 = (I : Int) ∧ I < 1000000 := by
  have hp1 : i.tmod 1000000 < 1000000 := Int.tmod_lt_of_pos _ (by omega)
  have hp2 : -1000000 < i.tmod 1000000 := Int.lt_tmod_of_pos _ (by omega)
  generalize i.tmod 1000000 = p at *
  rw [IntWalk.wrap64_in (p + 1000000) (by omega)]
  obtain ⟨t, ht⟩ : ∃ t : Nat, p + 1000000 = (t : Int) := ⟨(p + 1000000).toNat, by omega⟩
  refine ⟨t % 1000000, ?_, Nat.mod_lt t (by omega)⟩
  rw [ht]
  exact (Int.ofNat_tmod t 1000000).symm
theorem srchF_of {h : List Ev} {B : Nat} (h0 : srchE h (B : Int) = 0) : srchF h (B : Int) = searchG B (tableS h) (fun _ => 2 ^ (tableS h).length - 1) (chL (tableS h)) 0 := by
  unfold srchF
  rw [if_pos h0, Int.toNat_natCast]
end Go.Proofs.YtoemcdcabamgiaaDoor
