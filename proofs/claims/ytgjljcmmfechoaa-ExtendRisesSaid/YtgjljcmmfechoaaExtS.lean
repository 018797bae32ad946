/- ExtendRises' walk. -/
import Derived.Test.YtgjljcmmfechoaaExtR
import Derived.Test.YtgjljcmmfechoaaExtQ
namespace Go.Proofs.Ytgjljcmmfechoaa.RPlain
end Go.Proofs.Ytgjljcmmfechoaa.RPlain
namespace Go.Proofs.Ytgjljcmmfechoaa
open Go.RowKit RPlain

theorem fact_le : ∀ {j : Nat}, j ≤ 7 → factN j ≤ 5040 := by
  intro j hj
  have h : ∀ j, j < 8 → factN j ≤ 5040 := by decide
  exact h j (by omega)
theorem mod_place (i : Int) {n : Nat} (hn : 0 < n) (h8 : n ≤ 8) : ∃ I : Nat, (wrap64 (i.tmod (n : Int) + (n : Int))).tmod (n : Int) = (I : Int) ∧ I < n := by
  have hp1 : i.tmod (n : Int) < (n : Int) := Int.tmod_lt_of_pos _ (by omega)
  have hp2 : -(n : Int) < i.tmod (n : Int) := Int.lt_tmod_of_pos _ (by omega)
  generalize i.tmod (n : Int) = p at *
  rw [IntWalk.wrap64_in (p + n) (by omega)]
  obtain ⟨t, ht⟩ : ∃ t : Nat, p + n = (t : Int) := ⟨(p + n).toNat, by omega⟩
  refine ⟨t % n, ?_, Nat.mod_lt t hn⟩
  rw [ht]
  exact (Int.ofNat_tmod t n).symm
theorem rowU_at {w : World} {B g c : Nat} {L : List Nat} (h : w.ownsRow B 37 1 (.slice (some ⟨g, 0, none⟩) L.length c) L.length (u32s L)) :
    ∃ cur, At w g cur 37 ∧ ∀ i (hi : i < L.length), cur[i]? = some (.int .u32 (L[i] : Int)) := by
  rcases h.2 with ⟨he, _⟩ | ⟨g', cap, cur, he, hb, hg, hn, hm, hs, ht⟩
  · simp at he
  · simp only [Value.slice.injEq, Option.some.injEq, Addr.mk.injEq, and_true, true_and] at he
    obtain ⟨rfl, rfl⟩ := he
    refine ⟨cur, hg, fun i hi => ?_⟩
    have h1 : (cur.toList.take (L.length * 1))[i]? = (u32s L)[i]? := by rw [ht]
    rw [List.getElem?_take_of_lt (by omega)] at h1
    rw [← Array.getElem?_toList, h1]
    exact u32s_get hi
theorem wrap_nat32 (z : Nat) (h : z < 4294967296) : IntKind.u32.wrap (z : Int) = (z : Int) := IntWalk.u32_in _ (by omega)
/-- an order with one thing more -/
def setA (A : List Nat) (I K : Nat) : List Nat := A.set I (A.getD I 0 ||| 2 ^ K)
theorem setA_len (A : List Nat) (I K : Nat) : (setA A I K).length = A.length := by simp [setA]
theorem setA_bit {A : List Nat} {I K : Nat} (hI : I < A.length) (hK : K < A.length) (hb : ∀ a ∈ A, a < 2 ^ A.length) : ∀ x ∈ setA A I K, x < 2 ^ A.length := by
  intro x hx
  obtain ⟨j, hj, he⟩ := List.mem_iff_getElem.1 hx
  unfold setA at he hj
  rw [List.length_set] at hj
  rw [List.getElem_set] at he
  split at he
  · rw [← he]
    refine Nat.or_lt_two_pow ?_ (Nat.pow_lt_pow_right (by decide) hK)
    rw [List.getD_eq_getElem?_getD, List.getElem?_eq_getElem hI]
    exact hb _ (List.getElem_mem hI)
  · rw [← he]
    exact hb _ (List.getElem_mem hj)
theorem setA_lt {A : List Nat} {I K : Nat} (hI : I < A.length) (hK : K < A.length) (hal : A.length ≤ 6) (hb : ∀ a ∈ A, a < 2 ^ A.length) : ∀ x ∈ setA A I K, x < 4294967296 := fun x hx =>
  Nat.lt_of_lt_of_le (setA_bit hI hK hb x hx) (Nat.pow_le_pow_right (n := 2) (i := A.length) (j := 32) (by decide) (by omega))
theorem setA_more {A : List Nat} {I : Nat} (hI : I < A.length) (K a b : Nat) (h : aft A a b = true) : aft (setA A I K) a b = true := by
  unfold aft at *
  unfold setA
  rw [List.getD_eq_getElem?_getD] at *
  rw [List.getElem?_set]
  split
  · rename_i he
    subst he
    rw [Option.getD_some, Nat.testBit_or, List.getD_eq_getElem?_getD, h]
    rfl
  · exact h
theorem setA_may {A : List Nat} {I K : Nat} (hI : I < A.length) (hK : K < A.length) (hal : A.length ≤ 6) (hb : ∀ a ∈ A, a < 2 ^ A.length) : mayE (setA A I K) = 0 ∨ mayE (setA A I K) = 8 := by
  have h1 : ¬ (6 < (setA A I K).length ∨ ((setA A I K).any fun x => decide (2 ^ (setA A I K).length ≤ x)) = true) := by
    rw [setA_len]
    rintro (h | h)
    · omega
    · obtain ⟨x, hx, hd⟩ := List.any_eq_true.1 h
      have h2 := setA_bit hI hK hb x hx
      have h3 := of_decide_eq_true hd
      omega
  unfold mayE
  rw [if_neg h1]
  split
  · exact .inr rfl
  · exact .inl rfl
theorem rd_setA {A : List Nat} {w : World} {g c I K pw ax : Nat} {cur : Array Value} (hat : At w g cur 37) (hcu : ∀ i (hi : i < A.length), cur[i]? = some (.int .u32 (A[i] : Int))) (hI : I < A.length) (hpw : 2 ^ K = pw) (hax : A[I] = ax) :
    Rd (w.setCell ⟨g, I, none⟩ (.int .u32 ((ax ||| pw : Nat) : Int))).drew (.slice (some ⟨g, 0, none⟩) A.length c) (u32s (setA A I K)) := by
  have h2 : At (w.setCell ⟨g, I, none⟩ (.int .u32 ((ax ||| pw : Nat) : Int))).drew g (cur.setIfInBounds I (.int .u32 ((ax ||| pw : Nat) : Int))) 37 := hat.set I _
  have hl : (u32s (setA A I K)).length = A.length := by rw [u32s_len, setA_len]
  refine .inr ⟨by omega, g, 0, c, by rw [hl], fun i u hu => ?_⟩
  have hi : i < A.length := by have := (List.getElem?_eq_some_iff.1 hu).1; omega
  rw [Nat.zero_add]
  refine h2.cell ?_
  rw [u32s_get (by rw [setA_len]; exact hi), Option.some.injEq] at hu
  rw [Array.getElem?_setIfInBounds, ← hu]
  unfold setA
  have hci : i < cur.size := (Array.getElem?_eq_some_iff.1 (hcu i hi)).1
  by_cases h : I = i
  · subst h
    rw [if_pos rfl, if_pos hci]
    simp only [List.getElem_set_self]
    rw [List.getD_eq_getElem?_getD, List.getElem?_eq_getElem hI, Option.getD_some, hax, hpw]
  · rw [if_neg h, hcu i hi, List.getElem_set_ne h]
/-- what holds of the rows that the program tells -/
structure RowsR (A : List Nat) (rows : List (List Nat)) (vs : List Value) (b o : Nat) (w : World) : Prop where
  len : vs.length = rows.length
  cell : ∀ q (hq : q < rows.length), ∃ ra rc, w.cell? ⟨b, o + q, none⟩ = some (.slice ra rows[q].length rc) ∧ Rd w (.slice ra rows[q].length rc) (nats rows[q])
theorem RowsR.below {A : List Nat} {rows : List (List Nat)} {vs : List Value} {b o : Nat} {w w' : World} (h : RowsR A rows vs b o w) (hb : Below w.heap.size w w') : RowsR A rows vs b o w' :=
  ⟨h.len, fun q hq => by obtain ⟨ra, rc, h1, h2⟩ := h.cell q hq; exact ⟨ra, rc, cell_on hb h1, h2.below hb (Nat.le_refl _)⟩⟩
set_option maxRecDepth 100000 in
set_option maxHeartbeats 16000000 in
theorem extRises_walk (a : Option Addr) (n c : Nat) (A : List Nat) (i k : Int) (w : World) (hn : n ≤ c) (hm : min (n : Int) 8 = (A.length : Int)) (h8 : A.length ≤ 8) (hle : A.length ≤ n) (hv : Rd w (.slice a A.length c) (u32s A)) (hA : ∀ x ∈ A, x < 4294967296) :
    Calls Try.prog 4 #[.slice a n c, .int .i64 i, .int .i64 k] w fun e w' => e = .returned (.bool true) ∧ Below w.heap.size w w' := by
  have HV := Lib.hid hv
  have HA := Lib.hid hA
  have HALL := Lib.hid (fun (W : World) (hb : Below w.heap.size w W) => all_any a c A W (HV.out.below hb (Nat.le_refl _)) HA.out (by omega))
  have HALV := Lib.hid (fun (W : World) => aliveE_any W)
  clear hv hA
  by_cases h0 : mayE A = 0
  · obtain ⟨hal, hbits, hf⟩ := mayE_zero.1 h0
    have hsome := allS_some hf
    have hlen : (allS A).length ≤ 46656 := (lvl_facts hal (Nat.le_refl A.length)).1
    have HROW : Hid (∀ r ∈ allS A, r.length = A.length ∧ (∀ k ∈ r, k < A.length) ∧ r.Pairwise (goes A)) := fun r hr => allS_mem.1 hr
    have HRISE := Lib.hid (List.pairwise_iff_getElem.1 (allS_rise A))
    simp only [h0, if_pos] at HALL
    clear h0 hf
    obtain ⟨rows, hrows⟩ : ∃ r, allS A = r := ⟨_, rfl⟩
    rw [hrows] at HALL HROW HRISE hlen hsome
    have HRS := Lib.hid hrows
    clear hrows
    go_enter Try.func4, Try.ntmps4
    go_wp2_with fail
    refine (HALL.out w (Below.refl _ _)).mono ?_
    rintro e w1 ⟨v1, vs, rfl, hv1, ⟨X1, hvs⟩, hb1⟩
    have hl1 : vs.length = rows.length := hvs.1
    obtain ⟨b1, o1, c1, rfl, hbl1, hc1⟩ := hv1.opened (by omega)
    have HB1 := Lib.hid hb1
    have HRR : Hid (RowsR A rows vs b1 o1 w1) := ⟨hl1, fun q hq => by
      have e1 := hvs.2 q hq (by omega)
      obtain ⟨ra, rc, hx⟩ := e1.rd.len
      have e3 := hc1 q _ (List.getElem?_eq_getElem (by omega))
      have e1' := e1.rd
      rw [hx, nats_len] at e3 e1'
      exact ⟨ra, rc, e3, e1'⟩⟩
    rw [hl1]
    have hne : ((rows.length : Int) == 0) = false := by rw [beq_eq_false_iff_ne]; omega
    have HSM := Lib.hid hsome
    clear hv1 hvs hb1 hbl1 hc1 hl1 hsome
    go_wp2_with (go_at_call 9; refine (HALV.out w1).mono ?_; rintro e w2 ⟨rfl, hb2⟩; have HB2 := Lib.hid hb2; clear hb2)
    have HBW2 := Lib.hid (HB1.out.trans (HB2.out.mono HB1.out.size))
    have HRR2 := Lib.hid (HRR.out.below HB2.out)
    clear HRR HB1 HB2
    go_loopw [48] (fun x wr => ∃ q : Nat, q ≤ rows.length ∧ x = .int .i64 q ∧ Hid (Below w2.heap.size w2 wr)) (fun x _ => rows.length - (intOf x).toNat)
    case atStart => exact ⟨0, by omega, rfl, Below.refl _ _⟩
    case round =>
      obtain ⟨q, hq, rfl, HB⟩ := hrel
      by_cases hlt : q < rows.length
      · have HRR3 := Lib.hid (HRR2.out.below HB.out)
        obtain ⟨ra, rc, hcq, hrq⟩ := HRR3.out.cell q hlt
        obtain ⟨hrl, hrm, hrp⟩ := HROW.out _ (List.getElem_mem hlt)
        have HRQ := Lib.hid hrq
        have HBW3 := Lib.hid (HBW2.out.trans (HB.out.mono HBW2.out.size))
        -- the row ahead of it
        have HPRE : Hid (0 < q → ∃ pa pc, wr.cell? ⟨b1, o1 + (q - 1), none⟩ = some (.slice pa A.length pc) ∧ ∀ W, Below wr.heap.size wr W → Calls Try.prog 12 #[.slice pa A.length pc, .slice ra A.length rc] W fun e w' => e = .returned (.int .i64 (-1)) ∧ w' = W) := fun h0 => by
          obtain ⟨pa, pc, h1, h2⟩ := HRR3.out.cell (q - 1) (by omega)
          have hpl := (HROW.out _ (List.getElem_mem (show q - 1 < rows.length by omega))).1
          rw [hpl] at h1 h2
          rw [hrl] at hrq
          refine ⟨pa, pc, h1, fun W hW => compareN_any _ _ rows[q - 1] rows[q] W (h2.below hW (Nat.le_refl _)) (hrq.below hW (Nat.le_refl _)) (by rw [hpl, hrl]) (by omega) (HRISE.out (q - 1) q (by omega) hlt (by omega))⟩
        have HM := Lib.hid hrm
        have HAP : Hid (∀ j (hj : j < rows[q].length), (A.getD rows[q][j] 0 ||| 2 ^ rows[q][j]) &&& bitsR (rows[q].take j) = 0) := fun j hj => apart_bits hrp hj
        rw [hrl] at hcq HRQ
        clear hrq hrm hrp HRR3
        generalize rows[q] = r at *
        obtain ⟨w3, hw3⟩ : ∃ z : World, z = wr := ⟨wr, rfl⟩
        subst hw3
        go_wp2_with fail
        go_loopw [11, 55] (fun y x wr2 => ∃ j : Nat, j ≤ A.length ∧ x = .int .i64 j ∧ y = .int .u32 ((bitsR (r.take j) : Nat) : Int) ∧ Hid (Below w3.heap.size w3 wr2)) (fun _ x _ => A.length - (intOf x).toNat)
        case atStart => exact ⟨0, by omega, rfl, rfl, Below.refl _ _⟩
        case round =>
          obtain ⟨j, hj, rfl, rfl, HBJ⟩ := hrel
          by_cases hjl : j < A.length
          · have hjr : j < r.length := by omega
            have hrd := HRQ.out.below HBJ.out (Nat.le_refl _)
            obtain ⟨yb, yo, yc, hye, hyl, hycs⟩ := hrd.opened (by rw [nats_len]; omega)
            simp only [Value.slice.injEq] at hye
            obtain ⟨rfl, -, rfl⟩ := hye
            have hxj := hycs j _ (nats_get hjr)
            have hxm := HM.out _ (List.getElem_mem hjr)
            have hap := HAP.out j hjr
            have HTK : Hid (bitsR (r.take (j + 1)) = bitsR (r.take j) ||| 2 ^ r[j]) := by unfold Hid; rw [List.take_succ_eq_append_getElem hjr, bitsR_snoc]
            have hsl : bitsR (r.take j) < 64 := bitsR_lt fun y hy => by have := HM.out y (List.mem_of_mem_take hy); omega
            have hva := HV.out.below (HBW3.out.trans (HBJ.out.mono HBW3.out.size)) (Nat.le_refl _)
            obtain ⟨zb, zo, zc, hze, hzl, hzcs⟩ := hva.opened (by rw [u32s_len]; omega)
            simp only [Value.slice.injEq] at hze
            obtain ⟨rfl, -, rfl⟩ := hze
            have hcx := hzcs r[j] _ (u32s_get hxm)
            have hax := HA.out _ (List.getElem_mem hxm)
            rw [List.getD_eq_getElem?_getD, List.getElem?_eq_getElem hxm, Option.getD_some] at hap
            clear hrd hycs hyl hva hzcs hzl
            generalize A[r[j]] = ax at *
            generalize r[j] = x at *
            generalize bitsR (r.take j) = sn at *
            have hx32 : 2 ^ x < 4294967296 := Nat.pow_lt_pow_right (a := 2) (m := x) (n := 32) (by decide) (by omega)
            have hx64 : 2 ^ x < 64 := Nat.pow_lt_pow_right (a := 2) (m := x) (n := 6) (by decide) (by omega)
            have hpu : IntKind.u32.wrap ((2 : Int) ^ x) = ((2 ^ x : Nat) : Int) := by
              have h2 : (2 : Int) ^ x = ((2 ^ x : Nat) : Int) := (Int.natCast_pow 2 x).symm
              rw [h2]
              exact wrap_nat32 _ hx32
            have hor := u32_or_nat ax (2 ^ x) hax hx32
            have hand := u32_and_nat (ax ||| 2 ^ x) sn (Nat.or_lt_two_pow (n := 32) hax hx32) (by omega)
            rw [hap, Int.natCast_zero] at hand
            have hor2 := u32_or_nat sn (2 ^ x) (by omega) hx32
            have tneg : decide ((x : Int) < 0) = false := by simp
            have tge : decide (A.length ≤ x) = false := by simp; omega
            obtain ⟨pw, hpw⟩ : ∃ pw, 2 ^ x = pw := ⟨_, rfl⟩
            rw [hpw] at hpu hor hand hor2 HTK hx32 hx64
            clear hap hpw
            go_wp2_with fail
            go_quiet (fail)
            have HBN : Hid (Below w3.heap.size w3 (wr.drewN nq)) := HBJ.out.trans (belowDrewN.mono HBJ.out.size)
            clear hxj hcx hand tneg tge hor
            go_wp2
            go_roundw
            case rel => exact ⟨j + 1, by omega, by go_num, by rw [HTK.out], HBN⟩
            case measure => simp [intOf]; omega
          · obtain rfl : j = A.length := by omega
            have HBQ : Hid (Below w2.heap.size w2 wr) := HB.out.trans (HBJ.out.mono HB.out.size)
            by_cases h0q : 0 < q
            · obtain ⟨pa, pc, h1, h2⟩ := HPRE.out h0q
              have h1' := cell_on HBJ.out h1
              have HCM := Lib.hid (h2 wr HBJ.out)
              have hq1 : ((q : Int) - 1) = ((q - 1 : Nat) : Int) := by omega
              obtain ⟨p, hp⟩ : ∃ p, q - 1 = p := ⟨_, rfl⟩
              rw [hp] at h1' hq1
              have tg : decide ((0 : Int) < (q : Int)) = true := by simp; omega
              have hpq : (p : Int) < (rows.length : Int) := by omega
              clear h1 h2 HPRE hp HM HAP
              go_wp2_with (go_at_call 12; refine HCM.out.mono ?_; rintro e w5 ⟨rfl, hw5⟩; rw [hw5]; clear hw5)
              go_roundw
              case rel => exact ⟨q + 1, by omega, by go_num, HBQ⟩
              case measure => simp [intOf]; omega
            · obtain rfl : q = 0 := by omega
              clear HPRE HM HAP
              go_wp2_with fail
              go_roundw
              case rel => exact ⟨1, by omega, rfl, HBQ⟩
              case measure => simp [intOf]; omega
      · obtain rfl : q = rows.length := by omega
        have HBW4 := Lib.hid (HBW2.out.trans (HB.out.mono HBW2.out.size))
        have HLOOSE : Hid (A.all (fun x => decide (x = 0)) = true → rows.length = factN A.length) := fun h => by
          rw [← HRS.out]
          refine allS_fact fun a b => ?_
          unfold aft
          rw [List.getD_eq_getElem?_getD]
          cases hg : A[a]? with
          | none => exact Nat.zero_testBit _
          | some z =>
            have := List.all_eq_true.1 h z (List.mem_of_getElem? hg)
            rw [of_decide_eq_true this]
            exact Nat.zero_testBit _
        clear HRISE HROW HRR2 HALL HALV HB HBW2
        go_wp2_with fail
        obtain ⟨w4, hw4⟩ : ∃ z : World, z = wr := ⟨wr, rfl⟩
        subst hw4
        go_loopw [14, 15, 106] (fun y z x wr2 => ∃ j : Nat, j ≤ A.length ∧ x = .int .i64 j ∧ y = .int .i64 ((factN j : Nat) : Int) ∧ z = .bool ((A.take j).all fun x => decide (x = 0)) ∧ wr2 = w4) (fun _ _ x _ => A.length - (intOf x).toNat)
        case atStart => exact ⟨0, by omega, rfl, rfl, rfl, rfl⟩
        case round =>
          obtain ⟨j, hj, rfl, rfl, rfl, hwr⟩ := hrel
          obtain rfl : w4 = wr := hwr.symm
          by_cases hjl : j < A.length
          · have hva := HV.out.below HBW4.out (Nat.le_refl _)
            obtain ⟨zb, zo, zc, hze, hzl, hzcs⟩ := hva.opened (by rw [u32s_len]; omega)
            simp only [Value.slice.injEq] at hze
            obtain ⟨rfl, -, rfl⟩ := hze
            have hcx := hzcs j _ (u32s_get hjl)
            have hax := HA.out _ (List.getElem_mem hjl)
            have HAT : Hid ((A.take (j + 1)).all (fun x => decide (x = 0)) = ((A.take j).all (fun x => decide (x = 0)) && decide (A[j] = 0))) := by
              unfold Hid
              rw [List.take_succ_eq_append_getElem hjl, List.all_append]
              simp
            have hf1 := fact_le (j := j) (by omega)
            have hf2 := fact_le (j := j + 1) (by omega)
            have hfs : (factN j : Int) * ((j : Int) + 1) = ((factN (j + 1) : Nat) : Int) := by rw [factN]; push_cast; rfl
            have HFS : Hid (∃ z : Nat, z = factN (j + 1)) := ⟨_, rfl⟩
            clear hva hzl hzcs
            generalize A[j] = ax at *
            generalize factN j = f1 at *
            obtain ⟨f2, hf3⟩ : ∃ z, factN (j + 1) = z := ⟨_, rfl⟩
            rw [hf3] at hf2 hfs
            have HF3 := Lib.hid hf3
            clear hf3
            cases hb : (A.take j).all (fun x => decide (x = 0)) with
            | false =>
              rw [hb] at HAT
              go_wp2
              go_roundw
              case rel => exact ⟨j + 1, by omega, by go_num, by rw [HF3.out], by rw [HAT.out]; rfl, trivial⟩
              case measure => simp [intOf]; omega
            | true =>
              rw [hb] at HAT
              by_cases hz : ax = 0
              · subst hz
                go_wp2
                go_roundw
                case rel => exact ⟨j + 1, by omega, by go_num, by rw [HF3.out], by rw [HAT.out]; rfl, trivial⟩
                case measure => simp [intOf]; omega
              · have hz2 : ((ax : Int) == 0) = false := by rw [beq_eq_false_iff_ne]; omega
                have HZ := Lib.hid hz
                clear hz
                go_wp2
                go_roundw
                case rel => exact ⟨j + 1, by omega, by go_num, by rw [HF3.out], by rw [HAT.out, decide_eq_false HZ.out]; rfl, trivial⟩
                case measure => simp [intOf]; omega
          · obtain rfl : j = A.length := by omega
            rw [List.take_length]
            have hff := fact_le (j := A.length) (by omega)
            have HLO : Hid (A.all (fun x => decide (x = 0)) = true → ((rows.length : Int) != ((factN A.length : Nat) : Int)) = false) := fun h => by
              rw [HLOOSE.out h]
              simp
            clear HLOOSE
            generalize factN A.length = f at *
            generalize A.all (fun x => decide (x = 0)) = lb at *
            by_cases hA0 : A.length = 0
            · have hz : ((A.length : Int) == 0) = true := by simp [hA0]
              cases lb
              all_goals
                try (have hne3 := HLO.out rfl)
                clear HLO
                go_wp2
                go_ret
                exact ⟨rfl, HBW4.out⟩
            · have hz : ((A.length : Int) == 0) = false := by rw [beq_eq_false_iff_ne]; omega
              obtain ⟨I, hI1, hI2⟩ := mod_place i (n := A.length) (by omega) h8
              obtain ⟨K, hK1, hK2⟩ := mod_place k (n := A.length) (by omega) h8
              have HIE := Lib.hid hI1
              have HKE := Lib.hid hK1
              clear hI1 hK1
              cases lb
              all_goals
                try (have hne3 := HLO.out rfl)
                clear HLO
                go_wp2_with fail
                go_quiet (fail)
                have HBQ := Lib.hid (HBW4.out.trans ((belowDrewN (w := w4) (n := nq)).mono HBW4.out.size))
                generalize w4.drewN nq = w6 at *
                have HCL := Lib.hid (cloneU_any a c A w6 (HV.out.below HBQ.out (Nat.le_refl _)) (by omega) (by omega))
                rw [HIE.out, HKE.out]
                go_wp2_with fail
                refine HCL.out.mono ?_
                rintro e w7 ⟨g, c7, rfl, hg7, hr7, hb7⟩
                obtain ⟨cur, hat, hcu⟩ := rowU_at hr7
                have HAT := Lib.hid hat
                have HCU := Lib.hid hcu
                have hcI := hat.cell (hcu I hI2)
                have hfI := hat.free I
                have hx32 : 2 ^ K < 4294967296 := Nat.pow_lt_pow_right (a := 2) (m := K) (n := 32) (by decide) (by omega)
                have hpu : IntKind.u32.wrap ((2 : Int) ^ K) = ((2 ^ K : Nat) : Int) := by
                  have h2 : (2 : Int) ^ K = ((2 ^ K : Nat) : Int) := (Int.natCast_pow 2 K).symm
                  rw [h2]
                  exact wrap_nat32 _ hx32
                have hor := u32_or_nat A[I] (2 ^ K) (HA.out _ (List.getElem_mem hI2)) hx32
                have HPW : Hid (∃ pw, pw = 2 ^ K) := ⟨_, rfl⟩
                have HB7 := Lib.hid (HBQ.out.trans (hb7.mono HBQ.out.size))
                have HG7 : Hid (w.heap.size ≤ g) := Nat.le_trans HBQ.out.size hg7
                clear hr7 hb7 hat hcu
                obtain ⟨pw, hpw⟩ : ∃ pw, 2 ^ K = pw := ⟨_, rfl⟩
                obtain ⟨ax, hax⟩ : ∃ ax, A[I] = ax := ⟨_, rfl⟩
                rw [hpw] at hpu hor hx32
                rw [hax] at hor hcI
                have HPX : Hid (2 ^ K = pw ∧ A[I] = ax) := ⟨hpw, hax⟩
                clear hpw hax HPW
                go_wp2_with fail
                go_region
                have HB8 := Lib.hid ((HB7.out.setCell (p := ⟨g, I, none⟩) HG7.out (.int .u32 ((ax ||| pw : Nat) : Int))).drew)
                have hr8 : Rd (w7.setCell ⟨g, I, none⟩ (.int .u32 ((ax ||| pw : Nat) : Int))).drew (.slice (some ⟨g, 0, none⟩) A.length c7) (u32s (setA A I K)) := rd_setA HAT.out HCU.out hI2 HPX.out.1 HPX.out.2
                generalize (w7.setCell ⟨g, I, none⟩ (.int .u32 ((ax ||| pw : Nat) : Int))).drew = w8 at *
                have hln := setA_len A I K
                rw [← hln] at hr8
                have HCT := Lib.hid (countX_any (some ⟨g, 0, none⟩) c7 (setA A I K) w8 hr8 (setA_lt hI2 hK2 hal hbits) (by omega))
                rw [hln] at HCT
                have HMO := Lib.hid (setA_may hI2 hK2 hal hbits)
                have HLS : Hid (mayE (setA A I K) = 0 → 1 ≤ (allS (setA A I K)).length ∧ (allS (setA A I K)).length ≤ rows.length) := fun h => by
                  rw [← HRS.out]
                  exact ⟨allS_some (mayE_zero.1 h).2.2, allS_more (setA_len A I K).symm (fun a b => setA_more hI2 K a b)⟩
                clear hln hr8 hcI hfI hpu hor HAT HCU HPX HB7 HG7 HA hbits HIE HKE HCL
                generalize setA A I K = A2 at *
                rcases HMO.out with h0 | h8
                · obtain ⟨h1, h2⟩ := HLS.out h0
                  simp only [h0, if_pos] at HCT
                  clear HLS HMO h0
                  generalize (allS A2).length = z at *
                  go_wp2_with fail
                  refine HCT.out.mono ?_
                  rintro e w9 ⟨rfl, hb9⟩
                  have HB9 := Lib.hid (HB8.out.trans (hb9.mono HB8.out.size))
                  clear hb9
                  go_wp2
                  go_ret
                  exact ⟨rfl, HB9.out⟩
                · have h80 : ¬ mayE A2 = 0 := by omega
                  simp only [if_neg h80] at HCT
                  simp only [h8] at HCT
                  clear HLS HMO h80 h8
                  go_wp2_with fail
                  refine HCT.out.mono ?_
                  rintro e w9 ⟨rfl, hb9⟩
                  have HB9 := Lib.hid (HB8.out.trans (hb9.mono HB8.out.size))
                  clear hb9
                  go_wp2
                  go_ret
                  exact ⟨rfl, HB9.out⟩
  · obtain ⟨er, her⟩ : ∃ er, mayE A = er := ⟨_, rfl⟩
    have te : ((er : Int) != 0) = true := by rw [her] at h0; simp; omega
    simp only [if_neg h0] at HALL
    simp only [her] at HALL
    clear h0 her
    go_enter Try.func4, Try.ntmps4
    go_wp2_with fail
    refine (HALL.out w (Below.refl _ _)).mono ?_
    rintro e w1 ⟨v1, vs, rfl, hv1, ⟨X1, hvs⟩, hb1⟩
    have hl0 : vs.length = 0 := hvs.1
    have HB1 := Lib.hid hb1
    obtain ⟨va, vc, rfl⟩ := hv1.len
    rw [hl0]
    clear hv1 hvs hb1 hl0
    go_wp2_with (go_at_call 9; refine (HALV.out w1).mono ?_; rintro e w5 ⟨rfl, hb5⟩; have HB5 := Lib.hid (HB1.out.trans (hb5.mono HB1.out.size)); clear hb5)
    go_ret
    exact ⟨rfl, HB5.out⟩
theorem extRises_any (a : Option Addr) (n c : Nat) (A : List Nat) (i k : Int) (w : World) (hn : n ≤ c) (hv : Rd w (.slice a (min (n : Int) 8).toNat c) (u32s A)) (hA : ∀ x ∈ A, x < 4294967296) :
    Calls Try.prog 4 #[.slice a n c, .int .i64 i, .int .i64 k] w fun e w' => e = .returned (.bool true) ∧ Below w.heap.size w w' := by
  obtain ⟨m, hm⟩ : ∃ m : Nat, min (n : Int) 8 = (m : Int) := ⟨(min (n : Int) 8).toNat, by omega⟩
  rw [hm, Int.toNat_natCast] at hv
  obtain rfl : m = A.length := by
    obtain ⟨_, _, he⟩ := hv.len
    simp only [Value.slice.injEq, u32s_len] at he
    exact he.2.1
  exact extRises_walk a n c A i k w hn hm (by omega) (by omega) hv hA
end Go.Proofs.Ytgjljcmmfechoaa
