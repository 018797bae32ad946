/- The walk of PrefixHolds. -/
import Derived.Test.YtnggadcoepieaaaDoorPfxP
import Derived.Deep.Cut
import Derived.Deep.DeepCutAuto
namespace Go.Proofs.YtnggadcoepieaaaDoor
open Go.RowKit WPlain QPlain RPlain

/-- how many events the transactions have whose names are among the first so many -/
def sumN (h : List Ev) (k : Nat) : Nat := ((namesOf (h.take k)).map fun t => (ofT h t).length).sum
theorem sumN_le (h : List Ev) (k : Nat) : sumN h k ≤ h.length := by
  unfold sumN
  rw [sum_of (names_nodup (h.take k)) h]
  exact List.length_filter_le _ _
theorem sumN_all (h : List Ev) : sumN h h.length = h.length := by
  unfold sumN
  rw [List.take_length]
  exact all_sum h
theorem names_step (h : List Ev) (k : Nat) (hk : k < h.length) : namesOf (h.take (k + 1)) = addName (namesOf (h.take k)) h[k].t := by
  rw [List.take_succ_eq_append_getElem hk]
  unfold namesOf
  rw [List.foldl_append]
  rfl
theorem cell_oneX (w : World) (x : Int) : ∀ j u, [Value.int .i64 x][j]? = some u → (w.alloc (.cells #[.int .i64 x] 3)).cell? ((⟨w.heap.size, 0, none⟩ : Addr).add j) = some u := by
  intro j u hu
  rw [addr_add, Nat.zero_add]
  exact (At.new w #[.int .i64 x] 3).cell (by simpa using hu)
set_option maxRecDepth 100000 in
set_option maxHeartbeats 4000000 in
theorem pholds_walk (a1 : Option Addr) (n1 m1 c1 : Nat) (A : List Ev) (a2 : Option Addr) (n2 m2 c2 : Nat) (B : List Ev) (a3 : Option Addr) (n3 m3 c3 : Nat) (C : List Ev) (w : World) (hK : HasK w)
    (hz1 : a1 = none → c1 = 0) (hz2 : a2 = none → c2 = 0) (hz3 : a3 = none → c3 = 0) (hn1 : n1 ≤ c1) (hn2 : n2 ≤ c2) (hn3 : n3 ≤ c3) (HE1 : Hid (min (n1 : Int) 65 = (m1 : Int))) (HE2 : Hid (min (n2 : Int) 65 = (m2 : Int))) (HE3 : Hid (min (n3 : Int) 65 = (m3 : Int)))
    (hmn1 : m1 ≤ n1) (hmn2 : m2 ≤ n2) (hmn3 : m3 ≤ n3) (hv1 : Evs w (.slice a1 m1 c1) A) (hv2 : Evs w (.slice a2 m2 c2) B) (hv3 : Evs w (.slice a3 m3 c3) C) (h1 : A.length = m1) (h2 : B.length = m2) (h3 : C.length = m3) (hm1 : m1 ≤ 65) (hm2 : m2 ≤ 65) (hm3 : m3 ≤ 65) :
    Calls Tryd.prog 5 #[.slice a1 n1 c1, .slice a2 n2 c2, .slice a3 n3 c3] w fun e w' => e = .returned (.bool true) ∧ Below w.heap.size w w' := by
  obtain ⟨j0, hj0, hy0, hy1', hy2'⟩ := info_parts info3
  have HK := Lib.hid hK
  have al := fun (u v : Value) (P Q : List Ev) (hu : Evs w u P) (su : Src u) (lu : P.length ≤ 65536) (hv : Evs w v Q) (sv : Src v) (lv : Q.length ≤ 65536) (W : World) (hW : Below w.heap.size w W) => alike_any u v P Q W (hu.below hW (Nat.le_refl _)) su lu (hv.below hW (Nat.le_refl _)) sv lv
  have s1 := srcX (n := m1) hz1 (by omega)
  have s2 := srcX (n := m2) hz2 (by omega)
  have s3 := srcX (n := m3) hz3 (by omega)
  have HAB := Lib.hid (al _ _ A B hv1 s1 (by omega) hv2 s2 (by omega))
  have HBA := Lib.hid (al _ _ B A hv2 s2 (by omega) hv1 s1 (by omega))
  have HAA := Lib.hid (al _ _ A A hv1 s1 (by omega) hv1 s1 (by omega))
  have HBC := Lib.hid (al _ _ B C hv2 s2 (by omega) hv3 s3 (by omega))
  have HAC := Lib.hid (al _ _ A C hv1 s1 (by omega) hv3 s3 (by omega))
  rw [alike_refl] at HAA
  rw [← alike_symm A B] at HBA
  have HTR : Hid (alikeS A B = true → alikeS B C = true → alikeS A C = true) := alike_trans
  have HLN : Hid (alikeS A B = true → m1 = m2) := fun h => by rw [← h1, ← h2]; exact alike_len h
  have HCK : Hid (alikeS A B = true → (checkS A).2 = 0 → (checkS B).2 = 0) := alike_check
  have HCA := Lib.hid (fun (W : World) (hW : Below w.heap.size w W) => check_any _ A W (hK.later hW (Nat.le_refl _)) (hv1.below hW (Nat.le_refl _)) (by omega))
  have HCB := Lib.hid (fun (W : World) (hW : Below w.heap.size w W) => check_any _ B W (hK.later hW (Nat.le_refl _)) (hv2.below hW (Nat.le_refl _)) (by omega))
  have HOF := Lib.hid (fun (t : Int) (W : World) (hW : Below w.heap.size w W) => of_any _ A t W (hv1.below hW (Nat.le_refl _)) (by omega))
  have HV := Lib.hid hv1
  have e1 : (max (min (n1 : Int) 65) 0) = (m1 : Int) := by have := HE1.out; omega
  have e2 : (max (min (n2 : Int) 65) 0) = (m2 : Int) := by have := HE2.out; omega
  have e3 : (max (min (n3 : Int) 65) 0) = (m3 : Int) := by have := HE3.out; omega
  have e4 := HE1.out
  have e5 := HE2.out
  have e6 := HE3.out
  clear al s1 s2 s3 hK hv1 hv2 hv3 hz1 hz2 hz3
  generalize alikeS A B = ab at *
  generalize alikeS B C = bc at *
  generalize alikeS A C = ac at *
  go_enter Tryd.func5, Tryd.ntmps5
  go_wp2_with fail
  go_region
  have HB0 := Lib.hid (Below.drew (Below.refl w.heap.size w))
  clear e1 e2 e3 e4 e5 e6
  go_upto_region 3 with (first | (go_at_call 10; refine (HAB.out _ HB0.out).mono ?_; rintro e w1 ⟨rfl, hb1⟩) | fail)
  have HB1 := Lib.hid (HB0.out.trans (hb1.mono HB0.out.size))
  clear hb1 HB0 HAB
  go_cut [72] from 34 to 72 (fun q wx => q = .bool false ∧ Hid (Below w.heap.size w wx))
  case first =>
    cases ab with
    | false =>
      go_wp2_with fail
      refine (HAA.out _ HB1.out).mono ?_
      rintro e w2 ⟨rfl, hb2⟩
      have HB2 := Lib.hid (HB1.out.trans (hb2.mono HB1.out.size))
      clear hb2
      go_wp2_with fail
      refine (HBA.out _ HB2.out).mono ?_
      rintro e w3 ⟨rfl, hb3⟩
      have HB3 := Lib.hid (HB2.out.trans (hb3.mono HB2.out.size))
      clear hb3
      go_wp2_with fail
      refine (aliveX_any _ (HK.out.later HB3.out (Nat.le_refl _))).mono ?_
      rintro e w4 ⟨rfl, hb4⟩
      have HB4 := Lib.hid (HB3.out.trans (hb4.mono HB3.out.size))
      clear hb4
      go_wp2_with fail
      go_meet
      case rel => exact ⟨rfl, HB4⟩
    | true =>
      have hlen : ((m1 : Int) != (m2 : Int)) = false := by have := HLN.out rfl; simp; omega
      go_wp2_with fail
      refine (HAA.out _ HB1.out).mono ?_
      rintro e w2 ⟨rfl, hb2⟩
      have HB2 := Lib.hid (HB1.out.trans (hb2.mono HB1.out.size))
      clear hb2
      go_wp2_with fail
      refine (HBA.out _ HB2.out).mono ?_
      rintro e w3 ⟨rfl, hb3⟩
      have HB3 := Lib.hid (HB2.out.trans (hb3.mono HB2.out.size))
      clear hb3
      go_wp2_with fail
      refine (HBC.out _ HB3.out).mono ?_
      rintro e w4 ⟨rfl, hb4⟩
      have HB4 := Lib.hid (HB3.out.trans (hb4.mono HB3.out.size))
      clear hb4
      cases bc with
      | false =>
        go_wp2_with fail
        refine (aliveX_any _ (HK.out.later HB4.out (Nat.le_refl _))).mono ?_
        rintro e w5 ⟨rfl, hb5⟩
        have HB5 := Lib.hid (HB4.out.trans (hb5.mono HB4.out.size))
        clear hb5
        go_wp2_with fail
        go_meet
        case rel => exact ⟨rfl, HB5⟩
      | true =>
        obtain rfl : ac = true := by have := HTR.out; simpa using this
        go_wp2_with fail
        refine (HAC.out _ HB4.out).mono ?_
        rintro e w5 ⟨rfl, hb5⟩
        have HB5 := Lib.hid (HB4.out.trans (hb5.mono HB4.out.size))
        clear hb5
        go_wp2_with fail
        refine (aliveX_any _ (HK.out.later HB5.out (Nat.le_refl _))).mono ?_
        rintro e w6 ⟨rfl, hb6⟩
        have HB6 := Lib.hid (HB5.out.trans (hb6.mono HB5.out.size))
        clear hb6
        go_wp2_with fail
        go_meet
        case rel => exact ⟨rfl, HB6⟩
  case rest =>
  obtain ⟨rfl, HB2⟩ := hcut
  clear HB1 HAA HBA HBC HAC HTR HLN
  go_wp2_with fail
  refine (HCA.out _ HB2.out).mono ?_
  rintro e w3 ⟨rfl, hb3⟩
  have HB3 := Lib.hid (HB2.out.trans (hb3.mono HB2.out.size))
  clear hb3
  go_wp2_with fail
  refine (HCB.out _ HB3.out).mono ?_
  rintro e w4 ⟨rfl, hb4⟩
  have HB4 := Lib.hid (HB3.out.trans (hb4.mono HB3.out.size))
  clear hb4 HB2 HCA HCB
  generalize (checkS A).2 = ea at *
  generalize (checkS B).2 = eb at *
  generalize (checkS A).1 = pa at *
  generalize (checkS B).1 = pb at *
  go_upto_region 7 with fail
  go_cut [91] from 83 to 91 (fun q wx => q = .bool false ∧ wx = w4)
  case first =>
    cases ab with
    | false =>
      go_wp2_with fail
      go_meet
      case rel => exact ⟨rfl, rfl⟩
    | true =>
      by_cases g : ea = 0
      · have g2 := HCK.out rfl g
        subst g g2
        go_wp2_with fail
        go_meet
        case rel => exact ⟨rfl, rfl⟩
      · have g3 : ((ea : Int) == 0) = false := by simp; omega
        clear g
        go_wp2_with fail
        go_meet
        case rel => exact ⟨rfl, rfl⟩
  case rest =>
  obtain ⟨rfl, hwq⟩ := hcut
  subst hwq
  clear HB3 HCK
  go_wp2_with fail
  go_loopw [12, 13, 94] (fun y s x wr => ∃ k : Nat, x = .int .i64 k ∧ k ≤ m1 ∧ s = .int .i64 (sumN A k : Nat) ∧ Hid (wr.ownsRow w.heap.size 3 1 y (namesOf (A.take k)).length (ints (namesOf (A.take k)))) ∧ Hid (Below w.heap.size w wr)) (fun _ _ x _ => m1 - (intOf x).toNat)
  case atStart => exact ⟨0, rfl, by omega, rfl, World.ownsRow_nil _ _ _ _, HB4⟩
  case round =>
    clear HB4
    obtain ⟨k, rfl, hk, rfl, HY, HB⟩ := hrel
    have hnl : (namesOf (A.take k)).length ≤ 65536 := Nat.le_trans (namesOf_len _) (Nat.le_trans (List.length_take_le _ _) (by omega))
    by_cases hlt : k < m1
    · have hltA : k < A.length := by omega
      have HT := Lib.hid (names_step A k hltA)
      have HSL : Hid (sumN A k ≤ 65 ∧ sumN A (k + 1) ≤ 65) := ⟨Nat.le_trans (sumN_le A k) (by omega), Nat.le_trans (sumN_le A (k + 1)) (by omega)⟩
      have HSD : Hid (sumN A k = ((namesOf (A.take k)).map fun t => (ofT A t).length).sum ∧ sumN A (k + 1) = ((namesOf (A.take (k + 1))).map fun t => (ofT A t).length).sum) := ⟨rfl, rfl⟩
      have hv2 := HV.out.below HB.out (Nat.le_refl _)
      have hbs := HB.out.size
      rcases hv2 with ⟨e0, _⟩ | ⟨l0, b, o, c', he, hbl, hcs⟩
      · rw [e0] at hltA; simp at hltA
      · obtain ⟨rfl, rfl⟩ : a1 = some ⟨b, o, none⟩ ∧ c1 = c' := by
          simp only [Value.slice.injEq] at he
          exact ⟨he.1, he.2.2⟩
        clear he
        obtain ⟨c0, c1', c2', c3'⟩ := hcs k hltA
        clear hcs
        generalize A[k] = ev at *
        generalize namesOf (A.take k) = ns at *
        generalize sumN A k = S at *
        have hS := HSL.out.1
        obtain ⟨va, vc, rfl⟩ := row_slice HY.out
        have hbA := (Below.refl wr.heap.size wr).alloc (Nat.le_refl _) (.cells #[.int .i64 ev.k, .int .i64 ev.t, .int .i64 ev.v, .int .i64 ev.x] 38)
        have hE := At.new wr #[.int .i64 ev.k, .int .i64 ev.t, .int .i64 ev.v, .int .i64 ev.x] 38
        have k1 := hE.cell (i := 1) (v := .int .i64 ev.t) rfl
        have HE := Lib.hid hE
        have HY2 := Lib.hid (HY.out.alloc (.cells #[.int .i64 ev.k, .int .i64 ev.t, .int .i64 ev.v, .int .i64 ev.x] 38))
        have HB2 := Lib.hid (HB.out.trans (hbA.mono hbs))
        have HCN := Lib.hid (contains_any _ ns ev.t _ ((Rd.of_row HY.out).below hbA (Nat.le_refl _)) (by omega))
        clear hbA hE HY HB
        cases hcon : ns.contains ev.t with
        | true =>
          have HA : Hid (namesOf (A.take (k + 1)) = ns) := by unfold Hid; rw [HT.out]; unfold addName; rw [if_pos hcon]
          have HS2 : Hid (sumN A (k + 1) = S) := by unfold Hid; rw [HSD.out.2, HA.out, HSD.out.1]
          rw [hcon] at HCN
          clear hcon HT
          go_wp2_with fail
          refine HCN.out.mono ?_
          rintro e w5 ⟨rfl, rfl⟩
          go_wp2
          go_roundw
          case rel => exact ⟨k + 1, by go_num, by omega, by rw [HS2.out], by rw [HA.out]; exact HY2, HB2⟩
          case measure => simp [intOf]; omega
        | false =>
          have HA : Hid (namesOf (A.take (k + 1)) = ns ++ [ev.t]) := by unfold Hid; rw [HT.out]; unfold addName; rw [if_neg (by rw [hcon]; simp)]
          have HS2 : Hid (sumN A (k + 1) = S + (ofT A ev.t).length) := by unfold Hid; rw [HSD.out.2, HA.out, HSD.out.1]; simp
          rw [hcon] at HCN
          have hol : (ofT A ev.t).length ≤ 65 := Nat.le_trans (List.length_filter_le _ _) (by omega)
          clear hcon HT
          go_wp2_with fail
          refine HCN.out.mono ?_
          rintro e w5 ⟨rfl, rfl⟩
          have hb2 := HB2.out
          have HE1 := HE.out.alloc (.cells #[.int .i64 ev.t] 3)
          have HLT := Lib.hid HE.out.lt
          clear HCN
          generalize wr.heap.size = N at *
          generalize wr.alloc (.cells #[.int .i64 ev.k, .int .i64 ev.t, .int .i64 ev.v, .int .i64 ev.x] 38) = w1 at *
          go_wp2_with (at_builtin; refine wpList_append_own _ rfl _ _ 36 rfl w.heap.size 3 j0 (.int .i64 0) 1 8 Tryd.underlying36 hj0 hy0 hy1' hy2' rfl (by decide) _ _ _ rfl (HY2.out.alloc _) ⟨w1.heap.size, 0, none⟩ 1 1 [.int .i64 ev.t] rfl rfl ?d1 ?d2 ?d3 ?d4 ?d5 ?_)
          case d1 => exact cell_oneX _ _
          case d2 => intro u hu; simp at hu; subst hu; rfl
          case d3 => unfold maxLen; omega
          case d4 => omega
          case d5 => have := hb2.size; simp; omega
          intro v2 w3 hy3 hg3 _
          have HB3 : Hid (Below w.heap.size w w3) := (hb2.alloc hb2.size _).grown hg3 (by have := hb2.size; simp; omega) (fun k' hk' => (HY2.out.lt k' hk').1)
          have HY3 : Hid (w3.ownsRow w.heap.size 3 1 v2 (namesOf (A.take (k + 1))).length (ints (namesOf (A.take (k + 1))))) := by
            unfold Hid
            rw [HA.out, List.length_append]
            unfold ints at *
            rw [List.map_append]
            exact hy3
          have hE3 : At w3 N #[.int .i64 ev.k, .int .i64 ev.t, .int .i64 ev.v, .int .i64 ev.x] 38 := HE1.grown hg3 (Ne.symm (row_not (HY2.out.alloc (.cells #[.int .i64 ev.t] 3)) HE1 (by decide)))
          have k3 := hE3.cell (i := 1) (v := .int .i64 ev.t) rfl
          clear hy3 hg3 hb2 HE1 hE3 HE k1
          go_wp2_with fail
          refine (HOF.out ev.t _ HB3.out).mono ?_
          rintro e w4 ⟨v4, rfl, he4, -, hb4⟩
          have HB4 := Lib.hid (HB3.out.trans (hb4.mono HB3.out.size))
          obtain ⟨a4, c4, rfl⟩ := he4.len
          have HY4 := Lib.hid (row_belowR HY3.out hb4)
          clear he4 hb4 HY3 HB3
          go_wp2
          go_roundw
          case rel => exact ⟨k + 1, by go_num, by omega, by rw [HS2.out]; go_num, HY4, HB4⟩
          case measure => simp [intOf]; omega
    · obtain rfl : k = m1 := by omega
      have HSE : Hid (sumN A k = k) := by have := sumN_all A; rw [h1] at this; exact this
      rw [HSE.out]
      go_wp2
      go_ret
      exact ⟨by simp, HB.out⟩
theorem pholds_any (a1 : Option Addr) (n1 c1 : Nat) (A : List Ev) (a2 : Option Addr) (n2 c2 : Nat) (B : List Ev) (a3 : Option Addr) (n3 c3 : Nat) (C : List Ev) (w : World) (hK : HasK w) (hn1 : n1 ≤ c1) (hn2 : n2 ≤ c2) (hn3 : n3 ≤ c3) (hz1 : a1 = none → c1 = 0) (hz2 : a2 = none → c2 = 0) (hz3 : a3 = none → c3 = 0)
    (hv1 : Evs w (.slice a1 (min (n1 : Int) 65).toNat c1) A) (hv2 : Evs w (.slice a2 (min (n2 : Int) 65).toNat c2) B) (hv3 : Evs w (.slice a3 (min (n3 : Int) 65).toNat c3) C) :
    Calls Tryd.prog 5 #[.slice a1 n1 c1, .slice a2 n2 c2, .slice a3 n3 c3] w fun e w' => e = .returned (.bool true) ∧ Below w.heap.size w w' := by
  obtain ⟨m1, hm1⟩ : ∃ m : Nat, min (n1 : Int) 65 = (m : Int) := ⟨(min (n1 : Int) 65).toNat, by omega⟩
  obtain ⟨m2, hm2⟩ : ∃ m : Nat, min (n2 : Int) 65 = (m : Int) := ⟨(min (n2 : Int) 65).toNat, by omega⟩
  obtain ⟨m3, hm3⟩ : ∃ m : Nat, min (n3 : Int) 65 = (m : Int) := ⟨(min (n3 : Int) 65).toNat, by omega⟩
  rw [hm1, Int.toNat_natCast] at hv1
  rw [hm2, Int.toNat_natCast] at hv2
  rw [hm3, Int.toNat_natCast] at hv3
  exact pholds_walk a1 n1 m1 c1 A a2 n2 m2 c2 B a3 n3 m3 c3 C w hK hz1 hz2 hz3 hn1 hn2 hn3 hm1 hm2 hm3 (by omega) (by omega) (by omega) hv1 hv2 hv3 hv1.length.symm hv2.length.symm hv3.length.symm (by omega) (by omega) (by omega)
end Go.Proofs.YtnggadcoepieaaaDoor
