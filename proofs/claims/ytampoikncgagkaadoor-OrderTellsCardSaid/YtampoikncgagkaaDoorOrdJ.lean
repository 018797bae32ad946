/- The walks of the reference's Keeps and After. -/
import Derived.Test.YtampoikncgagkaaDoorMg16
import Derived.BigQuiet
namespace Go.Proofs.YtampoikncgagkaaDoor.WPlain
end Go.Proofs.YtampoikncgagkaaDoor.WPlain
namespace Go.Proofs.YtampoikncgagkaaDoor.QPlain
end Go.Proofs.YtampoikncgagkaaDoor.QPlain
namespace Go.Proofs.YtampoikncgagkaaDoor.RPlain
end Go.Proofs.YtampoikncgagkaaDoor.RPlain
namespace Go.Proofs.YtampoikncgagkaaDoor
open Go.RowKit WPlain QPlain RPlain

/-- a place keeps the order to what is ahead of it, up to a place -/
def okIn (l : List Tx) (rn : List Nat) (i j : Nat) : Prop := ∀ b (_ : b < j) (hb : b < rn.length) (hi : i < rn.length), badP l (rn[i] : Int) (rn[b] : Int) = false
theorem okIn_next {l : List Tx} {rn : List Nat} {i j : Nat} (h : okIn l rn i j) (hn : ∀ (hb : j < rn.length) (hi : i < rn.length), badP l (rn[i] : Int) (rn[j] : Int) = false) : okIn l rn i (j + 1) := by
  intro b hbj hb hi
  by_cases hj : b = j
  · subst hj; exact hn hb hi
  · exact h b (by omega) hb hi
theorem okTo_in {l : List Tx} {rn : List Nat} {i : Nat} (hi : i < rn.length) (h : okTo l (rn.map (fun x : Nat => (x : Int))) i) (hn : okIn l rn i i) : okTo l (rn.map (fun x : Nat => (x : Int))) (i + 1) := by
  refine okTo_next (by simpa using hi) h fun b hb => ?_
  have := hn b hb (by omega) hi
  simpa using this
theorem keeps_in {l : List Tx} {rn : List Nat} {i j : Nat} (hi : i < rn.length) (hj : j < i) (hb : badP l (rn[i] : Int) (rn[j] : Int) = true) : keepsS l (rn.map (fun x : Nat => (x : Int))) = false := by
  refine keeps_not (i := i) (j := j) (by simpa using hi) hj ?_
  simpa using hb
theorem badP_nat {l : List Tx} {a b : Nat} (ha : a < l.length) (hb : b < l.length) : badP l (a : Int) (b : Int) = (decide (a = b) || bfr l[a] l[b]) := by
  unfold badP
  rw [Int.toNat_natCast, Int.toNat_natCast, List.getElem?_eq_getElem ha, List.getElem?_eq_getElem hb]
  congr 1
  exact decide_eq_decide.2 (by omega)
set_option maxRecDepth 100000 in
set_option maxHeartbeats 2000000 in
theorem refKeeps_any (v : Value) (ra : Option Addr) (rc : Nat) (l : List Tx) (rn : List Nat) (w : World) (hv : Txs w v l) (hr : Rd w (.slice ra rn.length rc) (ints (rn.map (fun x : Nat => (x : Int))))) (hrc : rn.length ≤ rc) (hrl : rn.length ≤ 65536) (hl : l.length ≤ 65536) (hrn : ∀ b ∈ rn, b < l.length) :
    Calls Tryd.prog 16 #[v, .slice ra rn.length rc] w fun e w' => e = .returned (.bool (keepsS l (rn.map (fun x : Nat => (x : Int))))) ∧ ∃ z, w' = w.drewN z := by
  have HR := Lib.hid hr
  have HRN := Lib.hid hrn
  have HBF : Hid (∀ i k z (hi : i < l.length) (hk : k < l.length), Calls Tryd.prog 15 #[v, .int .i64 (i : Int), .int .i64 (k : Int)] (w.drewN z) fun e w' => e = .returned (.bool (bfr l[i] l[k])) ∧ ∃ y, w' = (w.drewN z).drewN y) := fun i k z hi hk => refBefore_any v l i k (w.drewN z) (hv.drewN z) hi hk hl
  obtain ⟨a, c, rfl⟩ := hv.len
  clear hr hrn hv
  go_enter Tryd.func16, Tryd.ntmps16
  go_wp2_with fail
  go_loopw [11] (fun x wr => ∃ i : Nat, i ≤ rn.length ∧ x = .int .i64 i ∧ Hid (okTo l (rn.map (fun x : Nat => (x : Int))) i) ∧ ∃ z, wr = w.drewN z) (fun x _ => rn.length - (intOf x).toNat)
  case atStart => exact ⟨0, by omega, rfl, okTo_zero _ _, 0, rfl⟩
  case round =>
    obtain ⟨i, hi, rfl, HO, z, rfl⟩ := hrel
    by_cases hlt : i < rn.length
    · obtain ⟨b, o, c', he, hbl, hcs⟩ := HR.out.opened (by rw [ints_len, List.length_map]; omega)
      simp only [Value.slice.injEq] at he
      obtain ⟨rfl, -, rfl⟩ := he
      have HCS : Hid (∀ z j (hj : j < rn.length), (w.drewN z).cell? ⟨b, o + j, none⟩ = some (.int .i64 (rn[j] : Int))) := fun z j hj => hcs j _ (by unfold ints; rw [List.getElem?_map, List.getElem?_map, List.getElem?_eq_getElem hj]; rfl)
      have hci := HCS.out z i hlt
      have hpi := HRN.out rn[i] (List.getElem_mem hlt)
      have HBI := Lib.hid (fun k z hk => HBF.out rn[i] k z hpi hk)
      have HKI := Lib.hid (fun j (hj : j < i) hb => keeps_in (l := l) (rn := rn) hlt hj hb)
      have HPI := Lib.hid (fun j (hj : j < rn.length) => badP_nat hpi (HRN.out rn[j] (List.getElem_mem hj)))
      have HOI : Hid (okIn l rn i i → okTo l (rn.map (fun x : Nat => (x : Int))) (i + 1)) := fun hn => okTo_in hlt HO.out hn
      have HIN : Hid (∀ j (hb : j < rn.length), okIn l rn i j → badP l (rn[i] : Int) (rn[j] : Int) = false → okIn l rn i (j + 1)) := fun j _ h hn => okIn_next h (fun _ _ => hn)
      obtain ⟨wz, hwz⟩ : ∃ wz, w.drewN z = wz := ⟨_, rfl⟩
      rw [hwz] at hci ⊢
      have HWZ := Lib.hid hwz
      have HSTART : Hid (okIn l rn i 0) := fun b hb => absurd hb (Nat.not_lt_zero _)
      clear hcs hwz HO HBF
      generalize l[rn[i]] = X at *
      generalize hpe : rn[i] = p at *
      clear hpe
      go_wp2_with fail
      go_loopw [20] (fun x wr => ∃ j : Nat, j ≤ i ∧ x = .int .i64 j ∧ Hid (okIn l rn i j) ∧ Hid (∃ z, wr = w.drewN z)) (fun x _ => i - (intOf x).toNat)
      case atStart => exact ⟨0, by omega, rfl, HSTART, _, HWZ.out.symm⟩
      case round =>
        clear HSTART
        obtain ⟨j, hj, rfl, HI, HZ⟩ := hrel
        by_cases hlj : j < i
        · have hjr : j < rn.length := by omega
          have hpj := HRN.out rn[j] (List.getElem_mem hjr)
          obtain ⟨z2, hz2⟩ := HZ.out
          have hcj := HCS.out z2 j hjr
          have hbe := HPI.out j hjr
          have HBJ := Lib.hid (HBI.out rn[j] z2 hpj)
          have HKJ := Lib.hid (HKI.out j hlj)
          have HNJ := Lib.hid (HIN.out j hjr HI.out)
          rw [← hz2] at hcj HBJ
          clear hz2 HI
          generalize l[rn[j]] = Y at *
          generalize rn[j] = q at *
          by_cases heq : p = q
          · have teq : ((p : Int) == (q : Int)) = true := by simp [heq]
            have HF := Lib.hid (HKJ.out (by rw [hbe]; simp [heq]))
            clear hbe HNJ HKJ
            go_wp2
            go_ret
            exact ⟨by rw [HF.out]; rfl, HZ.out⟩
          · have teq : ((p : Int) == (q : Int)) = false := by simp; omega
            have hd : decide (p = q) = false := by simp [heq]
            rw [hd, Bool.false_or] at hbe
            cases hbx : bfr X Y with
            | true =>
              rw [hbx] at hbe HBJ
              have HF := Lib.hid (HKJ.out hbe)
              clear hbe HNJ HKJ hbx heq hd
              go_wp2_with fail
              refine HBJ.out.mono ?_
              rintro e w3 ⟨rfl, y, rfl⟩
              go_wp2
              go_ret
              obtain ⟨z2, hz2⟩ := HZ.out
              exact ⟨by rw [HF.out]; rfl, _, by rw [hz2]; exact World.drewN_drewN _ _ _⟩
            | false =>
              rw [hbx] at hbe HBJ
              have HI2 := Lib.hid (HNJ.out hbe)
              clear hbe HNJ HKJ hbx heq hd
              go_wp2_with fail
              refine HBJ.out.mono ?_
              rintro e w3 ⟨rfl, y, rfl⟩
              have HZ3 : Hid (∃ z, wr.drewN y = w.drewN z) := by
                obtain ⟨z2, hz2⟩ := HZ.out
                exact ⟨_, by rw [hz2]; exact World.drewN_drewN _ _ _⟩
              clear HZ
              go_wp2
              go_roundw
              case rel => exact ⟨j + 1, by omega, by go_num, HI2, HZ3⟩
              case measure => simp [intOf]; omega
        · obtain rfl : j = i := by omega
          have HO2 := Lib.hid (HOI.out HI.out)
          go_wp2
          go_roundw
          case rel => exact ⟨j + 1, by omega, by go_num, HO2, HZ.out⟩
          case measure => simp [intOf]; omega
    · obtain rfl : i = rn.length := by omega
      have HF : Hid (keepsS l (rn.map (fun x : Nat => (x : Int))) = true) := okTo_all (by rw [List.length_map]; exact HO.out)
      go_wp2
      go_ret
      exact ⟨by rw [HF.out]; rfl, _, rfl⟩
theorem bits_after (l : List Tx) {i : Nat} (hi : i < l.length) : bitsN (bfrAt l i) l.length = afterN l l[i] := by
  unfold afterN
  refine bitsN_congr _ fun k hk => ?_
  unfold bfrAt
  rw [List.getElem?_eq_getElem hi, List.getElem?_eq_getElem hk]
set_option maxRecDepth 100000 in
set_option maxHeartbeats 2000000 in
theorem refAfter_any (v : Value) (l : List Tx) (w : World) (hv : Txs w v l) (hl : l.length ≤ 6) :
    Calls Tryd.prog 13 #[v] w fun e w' => ∃ v', e = .returned v' ∧ Rd w' v' (u32s (afterS l)) ∧ Below w.heap.size w w' := by
  obtain ⟨j0, hj0, hy0, hy1', hy2'⟩ := info_parts infoU
  have HB0 := Lib.hid ((Below.refl w.heap.size w).alloc (Nat.le_refl _) (.cells #[] 41))
  have HR0 : Hid ((w.alloc (.cells #[] 41)).ownsRow w.heap.size 41 1 (.slice (some ⟨w.heap.size, 0, none⟩) 0 0) 0 []) := World.ownsRow_made w #[] 0 (Nat.le_refl _) (by unfold maxLen; omega) rfl
  have HV := Lib.hid hv
  obtain ⟨a, c, rfl⟩ := hv.len
  have hal : (afterS l).length = l.length := afterS_len l
  clear hv
  go_enter Tryd.func13, Tryd.ntmps13
  go_wp2_with fail
  go_loopw [3, 10] (fun y x wr => ∃ i : Nat, i ≤ l.length ∧ x = .int .i64 i ∧ Hid (wr.ownsRow w.heap.size 41 1 y i (u32s ((afterS l).take i))) ∧ Hid (Below w.heap.size w wr)) (fun _ x _ => l.length - (intOf x).toNat)
  case atStart => exact ⟨0, by omega, rfl, HR0, HB0⟩
  case round =>
    clear HB0 HR0
    obtain ⟨i, hi, rfl, HR, HB⟩ := hrel
    obtain ⟨ya, yc, rfl⟩ := row_slice HR.out
    by_cases hlt : i < l.length
    · have HFI : Hid (bitsN (bfrAt l i) l.length = (afterS l)[i]'(by omega)) := by
        unfold Hid
        rw [bits_after l hlt]
        simp [afterS]
      have HTK : Hid (u32s ((afterS l).take (i + 1)) = u32s ((afterS l).take i) ++ [.int .u32 ((afterS l)[i]'(by omega) : Nat)]) := by
        unfold Hid
        unfold u32s
        rw [List.take_succ_eq_append_getElem (by omega), List.map_append]
        rfl
      obtain ⟨W1, hW1⟩ : ∃ W1 : World, W1 = wr := ⟨wr, rfl⟩
      subst hW1
      have HBR := Lib.hid (Below.refl W1.heap.size W1)
      have HV1 := Lib.hid (HV.out.below HB.out (Nat.le_refl _))
      go_wp2_with fail
      go_loopw [5, 15] (fun y x wr => ∃ k : Nat, k ≤ l.length ∧ x = .int .i64 k ∧ y = .int .u32 (bitsN (bfrAt l i) k : Nat) ∧ Hid (Below W1.heap.size W1 wr)) (fun _ x _ => l.length - (intOf x).toNat)
      case atStart => exact ⟨0, by omega, rfl, rfl, HBR⟩
      case round =>
        clear HBR
        obtain ⟨k, hk, rfl, rfl, HBK⟩ := hrel
        by_cases hlk : k < l.length
        · have HBC := Lib.hid (refBefore_any _ l i k wr (HV1.out.below HBK.out (Nat.le_refl _)) hlt hlk (by omega))
          have HBT : Hid (∀ w, Calls Tryd.prog 27 #[.int .i64 (k : Int)] w fun e w' => e = .returned (.int .u32 ((2 ^ k : Nat) : Int)) ∧ w' = w) := fun w => refBit_any k (by omega) w
          have hbs : bitsN (bfrAt l i) (k + 1) = bitsN (bfrAt l i) k + (if bfrAt l i k = true then 2 ^ k else 0) := rfl
          have hlt2 := bitsN_lt (bfrAt l i) k
          have hlt3 := two_32 hl hlk
          have hpw2 : 2 ^ k ≤ 32 := Nat.pow_le_pow_right (n := 2) (i := k) (j := 5) (by decide) (by omega)
          rw [← bfrAt_get hlt hlk] at HBC
          cases hb : bfrAt l i k with
          | true =>
            rw [hb] at HBC hbs
            rw [if_pos rfl] at hbs
            have HBS := Lib.hid hbs
            clear hb hbs
            generalize bitsN (bfrAt l i) k = ac at *
            obtain ⟨pw, hpw⟩ : ∃ pw, 2 ^ k = pw := ⟨_, rfl⟩
            rw [hpw] at HBT hlt2 hlt3 hpw2 HBS
            clear hpw
            go_wp2_with fail
            refine HBC.out.mono ?_
            rintro e w3 ⟨rfl, z, rfl⟩
            have HB3 := Lib.hid (below_drN HBK.out z)
            clear HBK HBC
            go_wp2_with (go_at_call 27; refine (HBT.out _).mono ?_; rintro e w4 ⟨rfl, rfl⟩)
            go_roundw
            case rel => exact ⟨k + 1, by omega, by go_num, by rw [HBS.out]; go_num, HB3⟩
            case measure => simp [intOf]; omega
          | false =>
            rw [hb] at HBC hbs
            rw [if_neg (by simp)] at hbs
            have HBS := Lib.hid hbs
            clear hb hbs HBT hlt3 hpw2
            generalize bitsN (bfrAt l i) k = ac at *
            clear hlt2
            go_wp2_with fail
            refine HBC.out.mono ?_
            rintro e w3 ⟨rfl, z, rfl⟩
            have HB3 := Lib.hid (below_drN HBK.out z)
            clear HBK HBC
            go_wp2
            go_roundw
            case rel => exact ⟨k + 1, by omega, by go_num, by rw [HBS.out]; rfl, HB3⟩
            case measure => simp [intOf]; omega
        · obtain rfl : k = l.length := by omega
          rw [HFI.out]
          have HRK := Lib.hid (row_belowT HR.out HBK.out)
          have HBW := Lib.hid (HB.out.trans (HBK.out.mono HB.out.size))
          generalize (afterS l)[i]'(by omega) = x at *
          have HSZ : Hid (∀ o, w.heap.size ≤ (wr.alloc o).heap.size) := fun o => by have := HBW.out.size; simp; omega
          clear HR HBK HV1
          go_wp2_with (at_builtin; refine wpList_append_own _ rfl _ _ 24 rfl w.heap.size 41 j0 (.int .u32 0) 1 4 Tryd.underlying24 hj0 hy0 hy1' hy2' rfl (by decide) (.slice ya i yc) i _ rfl (HRK.out.alloc _) ⟨wr.heap.size, 0, none⟩ 1 1 [.int .u32 (x : Int)] rfl rfl (cell_one_at _ _ _) (one_int _ _) (by unfold maxLen; omega) (by omega) (HSZ.out _) ?_)
          intro v5 w5 hn5 hg5 _
          obtain ⟨y5, c5, rfl⟩ := row_slice hn5
          have HR5 : Hid (w5.ownsRow w.heap.size 41 1 (.slice y5 (i + 1) c5) (i + 1) (u32s ((afterS l).take (i + 1)))) := by rw [HTK.out]; exact hn5
          have HB5 := Lib.hid ((HBW.out.alloc HBW.out.size (.cells #[.int .u32 (x : Int)] 41)).grown hg5 (HSZ.out _) (fun k' hk' => (HRK.out.lt k' hk').1))
          clear hn5 hg5
          go_wp2
          go_roundw
          case rel => exact ⟨i + 1, by omega, by go_num, HR5, HB5⟩
          case measure => simp [intOf]; omega
    · obtain rfl : i = l.length := by omega
      have HRD : Hid (Rd wr (.slice ya l.length yc) (u32s (afterS l))) := by
        have h1 := Rd.of_row HR.out
        rwa [List.take_of_length_le (by omega)] at h1
      go_wp2
      go_ret
      exact ⟨_, rfl, HRD.out, HB.out⟩
end Go.Proofs.YtampoikncgagkaaDoor
