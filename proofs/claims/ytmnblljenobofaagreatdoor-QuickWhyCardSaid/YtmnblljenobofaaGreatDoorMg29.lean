/- Merged: GphS, GphT. -/
import Derived.Test.YtmnblljenobofaaGreatDoorMg28
import Derived.Test.YtmnblljenobofaaGreatDoorMg27
import Derived.Test.YtmnblljenobofaaGreatDoorMg19
/- The walk of the reference's Behind. -/
namespace Go.Proofs.YtmnblljenobofaaGreatDoor.WPlain
end Go.Proofs.YtmnblljenobofaaGreatDoor.WPlain
namespace Go.Proofs.YtmnblljenobofaaGreatDoor.QPlain
end Go.Proofs.YtmnblljenobofaaGreatDoor.QPlain
namespace Go.Proofs.YtmnblljenobofaaGreatDoor.RPlain
end Go.Proofs.YtmnblljenobofaaGreatDoor.RPlain
namespace Go.Proofs.YtmnblljenobofaaGreatDoor
open Go.RowKit WPlain QPlain RPlain

set_option maxRecDepth 100000 in
set_option maxHeartbeats 4000000 in
theorem refBehind_any17 (v : Value) (l : List Tx) (cm : Nat) (ra : Option Addr) (rc : Nat) (rn : List Nat) (i k : Nat) (w : World) (hv : Txs w v l) (hf : Fine l) (hcm : cm < 4294967296) (hr : Rd w (.slice ra rn.length rc) (ints (rn.map (fun x : Nat => (x : Int))))) (hl : rn.length ≤ 65536) (hi : i < l.length) (hk : k < l.length) :
    Calls Tryz.prog 38 #[v, .int .u32 (cm : Int), .slice ra rn.length rc, .int .i64 (i : Int), .int .i64 (k : Int)] w fun e w' => e = .returned (.bool (behB l cm rn i k)) ∧ Below w.heap.size w w' := by
  have hl6 := hf.six
  have HBF := Lib.hid (refBefore_any v l i k w hv hi hk (by omega))
  rw [← bfrAt_get hi hk] at HBF
  have HT3 := Lib.hid (fun (W : World) (hW : Below w.heap.size w W) => refThird_any v l cm ra rc rn i k W (hv.below hW (Nat.le_refl _)) hf hcm (hr.below hW (Nat.le_refl _)) hl hi hk)
  have HT4 := Lib.hid (fun (t : Nat) (ht : t < l.length) (W : World) (hW : Below w.heap.size w W) => refFourth_any v l cm ra rc rn t i k W (hv.below hW (Nat.le_refl _)) hf hcm (hr.below hW (Nat.le_refl _)) hl ht hi)
  have HS := Lib.hid (fun (n : Nat) (W : World) (hW : Below w.heap.size w W) (hn : n < (opsAt l k).length) => refSource_any v l k n W (hv.below hW (Nat.le_refl _)) hf hk hn)
  have HQ := Lib.hid (fun (n : Nat) (o : Rwo) (ho : (opsAt l k)[n]? = some o) => secnd1_eq (i := i) ho)
  have hbe : behB l cm rn i k = (bfrAt l i k || third l cm rn i k || (List.range (opsAt l k).length).any (secnd1 l i k) || (List.range l.length).any fun t => fourth l cm rn t i k) := rfl
  have hoe := opsAt_eq hk
  have hol := (hf.ops _ (List.getElem_mem hk)).1
  obtain ⟨tb, tq, tcc, he⟩ := hv.opened (by omega)
  subst he
  obtain ⟨u, x0, x1, x2, x3, x4, q⟩ := hv.get k hk
  obtain ⟨ua, uc, rfl, huc⟩ := q.len
  have hxl : (k : Int) < (l.length : Int) := by omega
  have HZ : Hid ((List.range 0).any (secnd1 l i k) = false) := rfl
  have HZ2 : Hid ((List.range 0).any (fun t => fourth l cm rn t i k) = false) := rfl
  have HB0 := Lib.hid (Below.refl w.heap.size w)
  rw [hoe] at HS HQ hbe
  clear hv hf hcm hr hoe x0 x1 x2 x3
  generalize l[k].o = Xo at *
  have HOP := Lib.hid q
  clear q
  obtain ⟨R, hR⟩ : ∃ R, behB l cm rn i k = R := ⟨_, rfl⟩
  rw [hR] at hbe ⊢
  clear hR
  have HBE := Lib.hid hbe
  clear hbe
  have HLL := Lib.hid (show l.length ≤ 6 from hl6)
  generalize rn.length = rl at *
  cases hb : bfrAt l i k with
  | true =>
    rw [hb] at HBF HBE
    have hr := HBE.out
    simp only [Bool.true_or] at hr
    subst hr
    clear hb HBE
    go_enter Tryz.func38, Tryz.ntmps38
    go_wp2_with fail
    refine HBF.out.mono ?_
    rintro e w1 ⟨rfl, z, rfl⟩
    have HB1 := Lib.hid (below_drN HB0.out z)
    go_wp2
    go_ret
    exact ⟨rfl, HB1.out⟩
  | false =>
    rw [hb] at HBF HBE
    rw [Bool.false_or] at HBE
    clear hb
    cases ht : third l cm rn i k with
    | true =>
      rw [ht] at HT3 HBE
      have hr := HBE.out
      simp only [Bool.true_or] at hr
      subst hr
      clear ht HBE
      go_enter Tryz.func38, Tryz.ntmps38
      go_wp2_with fail
      refine HBF.out.mono ?_
      rintro e w1 ⟨rfl, z, rfl⟩
      have HB1 := Lib.hid (below_drN HB0.out z)
      go_wp2_with fail
      refine (HT3.out _ HB1.out).mono ?_
      rintro e w2 ⟨rfl, hb2⟩
      have HB2 := Lib.hid (HB1.out.trans (hb2.mono HB1.out.size))
      go_wp2
      go_ret
      exact ⟨rfl, HB2.out⟩
    | false =>
      rw [ht] at HT3 HBE
      rw [Bool.false_or] at HBE
      clear ht
      go_enter Tryz.func38, Tryz.ntmps38
      go_wp2_with fail
      refine HBF.out.mono ?_
      rintro e w1 ⟨rfl, z, rfl⟩
      have HB1 := Lib.hid (below_drN HB0.out z)
      clear HBF HB0
      go_wp2_with fail
      refine (HT3.out _ HB1.out).mono ?_
      rintro e w2 ⟨rfl, hb2⟩
      have HB2 := Lib.hid (HB1.out.trans (hb2.mono HB1.out.size))
      have y4 := (HB2.out.cell (p := ⟨tb, tq + k * 5 + 4, none⟩) (cell_lt x4)).trans x4
      clear hb2 HB1 HT3
      go_wp2_with fail
      clear x4 y4
      go_loopw [32] (fun x wr => ∃ n : Nat, n ≤ Xo.length ∧ x = .int .i64 n ∧ Hid ((List.range n).any (secnd1 l i k) = false) ∧ Hid (Below w.heap.size w wr)) (fun x _ => Xo.length - (intOf x).toNat)
      case atStart => exact ⟨0, by omega, rfl, HZ, HB2⟩
      case round =>
        clear HZ HB2
        obtain ⟨n, hnl, rfl, HN, HB⟩ := hrel
        by_cases hlt : n < Xo.length
        · obtain ⟨b, o, rfl, hbl, c0, c1, c2⟩ := Opv.at (HOP.out.below HB.out (Nat.le_refl _)) n hlt
          have hq := HQ.out n _ (List.getElem?_eq_getElem hlt)
          have hhit : secnd1 l i k n = true → R = true := fun h => by
            rw [HBE.out, any_hit (p := secnd1 l i k) hlt h]
            rfl
          have hnx := fun h => any_next HN.out (p := secnd1 l i k) (n := n) h
          have HS1 := Lib.hid (fun (W : World) hW => HS.out n W hW hlt)
          generalize srcS l k n = s at *
          generalize secnd1 l i k n = qv at *
          generalize Xo[n] = O at *
          obtain ⟨ow, ov, ox⟩ := O
          dsimp only at *
          have hba : Below wr.heap.size wr (wr.alloc (.cells #[.bool ow, .int .i64 ov, .int .i64 ox] 82)) := (Below.refl _ wr).alloc (Nat.le_refl _) _
          have HB2 := Lib.hid (HB.out.trans (hba.mono HB.out.size))
          have HSC := Lib.hid (HS1.out _ HB2.out)
          have HQ1 := Lib.hid hq
          have HNX := Lib.hid hnx
          have HHI := Lib.hid hhit
          clear hq hnx hba HB HN HS1 hhit
          cases ow with
          | true =>
            have HN2 := Lib.hid (HNX.out (by rw [HQ1.out]; simp))
            clear HQ1 HNX HHI HSC
            go_wp2
            go_roundw
            case rel => exact ⟨n + 1, by omega, by go_num, HN2, HB2⟩
            case measure => simp [intOf]; omega
          | false =>
            by_cases hik : i = k
            · have ti : ((i : Int) != (k : Int)) = false := by simp [hik]
              have HN2 := Lib.hid (HNX.out (by rw [HQ1.out]; simp [hik]))
              clear HQ1 HNX HHI HSC hik
              go_wp2
              go_roundw
              case rel => exact ⟨n + 1, by omega, by go_num, HN2, HB2⟩
              case measure => simp [intOf]; omega
            · have ti : ((i : Int) != (k : Int)) = true := by simp; omega
              by_cases hs : s = (i : Int)
              · have ts : ((s : Int) == (i : Int)) = true := by simp [hs]
                have hr := HHI.out (by rw [HQ1.out]; simp [hik, hs])
                subst hr
                clear HQ1 HNX HHI hik hs
                go_wp2_with fail
                refine HSC.out.mono ?_
                rintro e w3 ⟨rfl, hb3⟩
                have HB3 := Lib.hid (HB2.out.trans (hb3.mono HB2.out.size))
                go_wp2
                go_ret
                exact ⟨rfl, HB3.out⟩
              · have ts : ((s : Int) == (i : Int)) = false := by simp; exact hs
                have HN2 := Lib.hid (HNX.out (by rw [HQ1.out]; simp [hs]))
                clear HQ1 HNX HHI hik hs
                go_wp2_with fail
                refine HSC.out.mono ?_
                rintro e w3 ⟨rfl, hb3⟩
                have HB3 := Lib.hid (HB2.out.trans (hb3.mono HB2.out.size))
                clear hb3 HSC HB2
                go_wp2
                go_roundw
                case rel => exact ⟨n + 1, by omega, by go_num, HN2, HB3⟩
                case measure => simp [intOf]; omega
        · obtain rfl : n = Xo.length := by omega
          rw [HN.out, Bool.false_or] at HBE
          clear HN HQ HS HOP
          go_wp2_with fail
          go_loopw [56] (fun x wr => ∃ t : Nat, t ≤ l.length ∧ x = .int .i64 t ∧ Hid ((List.range t).any (fun t => fourth l cm rn t i k) = false) ∧ Hid (Below w.heap.size w wr)) (fun x _ => l.length - (intOf x).toNat)
          case atStart => exact ⟨0, by omega, rfl, HZ2, HB⟩
          case round =>
            clear HZ2 HB
            obtain ⟨t, htl, rfl, HN, HB⟩ := hrel
            by_cases hlt : t < l.length
            · have HC := Lib.hid (HT4.out t hlt _ HB.out)
              cases hf4 : fourth l cm rn t i k with
              | true =>
                rw [hf4] at HC
                have hr := HBE.out
                rw [any_hit (p := fun t => fourth l cm rn t i k) hlt hf4] at hr
                subst hr
                clear hf4 HN
                go_wp2_with fail
                refine HC.out.mono ?_
                rintro e w3 ⟨rfl, hb3⟩
                have HB3 := Lib.hid (HB.out.trans (hb3.mono HB.out.size))
                go_wp2
                go_ret
                exact ⟨rfl, HB3.out⟩
              | false =>
                rw [hf4] at HC
                have HN2 := Lib.hid (any_next (p := fun t => fourth l cm rn t i k) HN.out hf4)
                clear hf4 HN
                go_wp2_with fail
                refine HC.out.mono ?_
                rintro e w3 ⟨rfl, hb3⟩
                have HB3 := Lib.hid (HB.out.trans (hb3.mono HB.out.size))
                clear hb3 HC HB
                go_wp2
                go_roundw
                case rel => exact ⟨t + 1, by omega, by go_num, HN2, HB3⟩
                case measure => simp [intOf]; omega
            · obtain rfl : t = l.length := by omega
              have hr := HBE.out
              rw [HN.out] at hr
              subst hr
              go_wp2
              go_ret
              exact ⟨rfl, HB.out⟩
end Go.Proofs.YtmnblljenobofaaGreatDoor
/- The walks of the reference's Build and Whole. (Written by gen_gphT.py.) -/
namespace Go.Proofs.YtmnblljenobofaaGreatDoor.WPlain
end Go.Proofs.YtmnblljenobofaaGreatDoor.WPlain
namespace Go.Proofs.YtmnblljenobofaaGreatDoor.QPlain
end Go.Proofs.YtmnblljenobofaaGreatDoor.QPlain
namespace Go.Proofs.YtmnblljenobofaaGreatDoor.RPlain
end Go.Proofs.YtmnblljenobofaaGreatDoor.RPlain
namespace Go.Proofs.YtmnblljenobofaaGreatDoor.RPlain
open WPlain QPlain

theorem whole_cnt {n : Nat} {row : List Int} {i : Nat} (hi : i < n) (h : row.count (i : Int) ≠ 1) : wholeS n row = false := by
  cases hw : wholeS n row with
  | false => rfl
  | true =>
    unfold wholeS at hw
    rw [Bool.and_eq_true, List.all_eq_true] at hw
    exact absurd (of_decide_eq_true (hw.2 i (List.mem_range.2 hi))) h
theorem wholeS_all {n : Nat} {row : List Int} (h : ∀ i, i < n → row.count (i : Int) = 1) : wholeS n row = decide (row.length = n) := by
  unfold wholeS
  rw [List.all_eq_true.2 (fun i hi => decide_eq_true (h i (List.mem_range.1 hi))), Bool.and_true]
theorem cntW_take {row : List Int} {k : Nat} (hk : k < row.length) (i : Nat) : (row.take (k + 1)).count (i : Int) = (row.take k).count (i : Int) + if row[k] = (i : Int) then 1 else 0 := by
  rw [List.take_succ_eq_append_getElem hk, List.count_append, List.count_singleton]
  by_cases h : row[k] = (i : Int) <;> simp [h]
end Go.Proofs.YtmnblljenobofaaGreatDoor.RPlain
namespace Go.Proofs.YtmnblljenobofaaGreatDoor
open Go.RowKit WPlain QPlain RPlain

set_option maxRecDepth 100000 in
set_option maxHeartbeats 2000000 in
theorem refBuild17_any (v : Value) (l : List Tx) (cm : Nat) (ra : Option Addr) (rc : Nat) (rn : List Nat) (w : World) (hv : Txs w v l) (hf : Fine l) (hcm : cm < 4294967296) (hr : Rd w (.slice ra rn.length rc) (ints (rn.map (fun x : Nat => (x : Int))))) (hrl : rn.length ≤ 65536) :
    Calls Tryz.prog 14 #[v, .int .u32 (cm : Int), .slice ra rn.length rc] w fun e w' => ∃ v', e = .returned v' ∧ Rd w' v' (u32s (buildS l cm rn)) ∧ Below w.heap.size w w' := by
  have hl := hf.six
  have HBH := Lib.hid (fun (i k : Nat) (hi : i < l.length) (hk : k < l.length) (W : World) (hW : Below w.heap.size w W) => refBehind_any17 v l cm ra rc rn i k W (hv.below hW (Nat.le_refl _)) hf hcm (hr.below hW (Nat.le_refl _)) hrl hi hk)
  obtain ⟨j0, hj0, hy0, hy1', hy2'⟩ := info_parts infoU
  have HB0 := Lib.hid ((Below.refl w.heap.size w).alloc (Nat.le_refl _) (.cells #[] 23))
  have HR0 : Hid ((w.alloc (.cells #[] 23)).ownsRow w.heap.size 23 1 (.slice (some ⟨w.heap.size, 0, none⟩) 0 0) 0 []) := World.ownsRow_made w #[] 0 (Nat.le_refl _) (by unfold maxLen; omega) rfl
  obtain ⟨a, c, rfl⟩ := hv.len
  have hal : (buildS l cm rn).length = l.length := by unfold buildS; rw [List.length_map, List.length_range]
  clear hv hf hcm hr
  generalize rn.length = rl at *
  go_enter Tryz.func14, Tryz.ntmps14
  go_wp2_with fail
  go_loopw [7, 14] (fun y x wr => ∃ i : Nat, i ≤ l.length ∧ x = .int .i64 i ∧ Hid (wr.ownsRow w.heap.size 23 1 y i (u32s ((buildS l cm rn).take i))) ∧ Hid (Below w.heap.size w wr)) (fun _ x _ => l.length - (intOf x).toNat)
  case atStart => exact ⟨0, by omega, rfl, HR0, HB0⟩
  case round =>
    clear HB0 HR0
    obtain ⟨i, hi, rfl, HR, HB⟩ := hrel
    obtain ⟨ya, yc, rfl⟩ := row_slice HR.out
    by_cases hlt : i < l.length
    · have HFI : Hid (bitsN (behB l cm rn i) l.length = (buildS l cm rn)[i]'(by omega)) := by
        unfold Hid
        simp [buildS]
      have HTK : Hid (u32s ((buildS l cm rn).take (i + 1)) = u32s ((buildS l cm rn).take i) ++ [.int .u32 ((buildS l cm rn)[i]'(by omega) : Nat)]) := by
        unfold Hid
        unfold u32s
        rw [List.take_succ_eq_append_getElem (by omega), List.map_append]
        rfl
      obtain ⟨W1, hW1⟩ : ∃ W1 : World, W1 = wr := ⟨wr, rfl⟩
      subst hW1
      have HBR := Lib.hid (Below.refl W1.heap.size W1)
      go_wp2_with fail
      go_loopw [9, 19] (fun y x wr => ∃ k : Nat, k ≤ l.length ∧ x = .int .i64 k ∧ y = .int .u32 (bitsN (behB l cm rn i) k : Nat) ∧ Hid (Below W1.heap.size W1 wr)) (fun _ x _ => l.length - (intOf x).toNat)
      case atStart => exact ⟨0, by omega, rfl, rfl, HBR⟩
      case round =>
        clear HBR
        obtain ⟨k, hk, rfl, rfl, HBK⟩ := hrel
        by_cases hlk : k < l.length
        · have HBC := Lib.hid (HBH.out i k hlt hlk wr (HB.out.trans (HBK.out.mono HB.out.size)))
          have HBT : Hid (∀ w, Calls Tryz.prog 39 #[.int .i64 (k : Int)] w fun e w' => e = .returned (.int .u32 ((2 ^ k : Nat) : Int)) ∧ w' = w) := fun w => refBit_any k (by omega) w
          have hbs : bitsN (behB l cm rn i) (k + 1) = bitsN (behB l cm rn i) k + (if behB l cm rn i k = true then 2 ^ k else 0) := rfl
          have hlt2 := bitsN_lt (behB l cm rn i) k
          have hlt3 := two_32 hl hlk
          have hpw2 : 2 ^ k ≤ 32 := Nat.pow_le_pow_right (n := 2) (i := k) (j := 5) (by decide) (by omega)
          cases hb : behB l cm rn i k with
          | true =>
            rw [hb] at HBC hbs
            rw [if_pos rfl] at hbs
            have HBS := Lib.hid hbs
            clear hb hbs
            generalize bitsN (behB l cm rn i) k = ac at *
            obtain ⟨pw, hpw⟩ : ∃ pw, 2 ^ k = pw := ⟨_, rfl⟩
            rw [hpw] at HBT hlt2 hlt3 hpw2 HBS
            clear hpw
            go_wp2_with fail
            refine HBC.out.mono ?_
            rintro e w3 ⟨rfl, hb3⟩
            have HB3 := Lib.hid (HBK.out.trans (hb3.mono HBK.out.size))
            clear hb3
            clear HBK HBC
            go_wp2_with (go_at_call 39; refine (HBT.out _).mono ?_; rintro e w4 ⟨rfl, rfl⟩)
            go_roundw
            case rel => exact ⟨k + 1, by omega, by go_num, by rw [HBS.out]; go_num, HB3⟩
            case measure => simp [intOf]; omega
          | false =>
            rw [hb] at HBC hbs
            rw [if_neg (by simp)] at hbs
            have HBS := Lib.hid hbs
            clear hb hbs HBT hlt3 hpw2
            generalize bitsN (behB l cm rn i) k = ac at *
            clear hlt2
            go_wp2_with fail
            refine HBC.out.mono ?_
            rintro e w3 ⟨rfl, hb3⟩
            have HB3 := Lib.hid (HBK.out.trans (hb3.mono HBK.out.size))
            clear hb3
            clear HBK HBC
            go_wp2
            go_roundw
            case rel => exact ⟨k + 1, by omega, by go_num, by rw [HBS.out]; rfl, HB3⟩
            case measure => simp [intOf]; omega
        · obtain rfl : k = l.length := by omega
          rw [HFI.out]
          have HRK := Lib.hid (row_belowT HR.out HBK.out)
          have HBW := Lib.hid (HB.out.trans (HBK.out.mono HB.out.size))
          generalize (buildS l cm rn)[i]'(by omega) = x at *
          have HSZ : Hid (∀ o, w.heap.size ≤ (wr.alloc o).heap.size) := fun o => by have := HBW.out.size; simp; omega
          clear HR HBK
          go_wp2_with (at_builtin; refine wpList_append_own _ rfl _ _ 41 rfl w.heap.size 23 j0 (.int .u32 0) 1 4 Tryz.underlying41 hj0 hy0 hy1' hy2' rfl (by decide) (.slice ya i yc) i _ rfl (HRK.out.alloc _) ⟨wr.heap.size, 0, none⟩ 1 1 [.int .u32 (x : Int)] rfl rfl (cell_one_at _ _ _) (one_int _ _) (by unfold maxLen; omega) (by omega) (HSZ.out _) ?_)
          intro v5 w5 hn5 hg5 _
          obtain ⟨y5, c5, rfl⟩ := row_slice hn5
          have HR5 : Hid (w5.ownsRow w.heap.size 23 1 (.slice y5 (i + 1) c5) (i + 1) (u32s ((buildS l cm rn).take (i + 1)))) := by rw [HTK.out]; exact hn5
          have HB5 := Lib.hid ((HBW.out.alloc HBW.out.size (.cells #[.int .u32 (x : Int)] 23)).grown hg5 (HSZ.out _) (fun k' hk' => (HRK.out.lt k' hk').1))
          clear hn5 hg5
          go_wp2
          go_roundw
          case rel => exact ⟨i + 1, by omega, by go_num, HR5, HB5⟩
          case measure => simp [intOf]; omega
    · obtain rfl : i = l.length := by omega
      have HRD : Hid (Rd wr (.slice ya l.length yc) (u32s (buildS l cm rn))) := by
        have h1 := Rd.of_row HR.out
        rwa [List.take_of_length_le (by omega)] at h1
      go_wp2
      go_ret
      exact ⟨_, rfl, HRD.out, HB.out⟩
set_option maxRecDepth 100000 in
set_option maxHeartbeats 2000000 in
theorem refWhole17_any (v rv : Value) (l : List Tx) (row : List Int) (w : World) (hv : ∃ a c, v = .slice a l.length c) (hl6 : l.length ≤ 6) (hr : Rd w rv (ints row)) (hrl : row.length ≤ 65536) :
    Calls Tryz.prog 34 #[v, rv] w fun e w' => e = .returned (.bool (wholeS l.length row)) ∧ w' = w := by
  obtain ⟨a, c, rfl⟩ := hv
  have HV := Lib.hid hr
  obtain ⟨va, vc, rfl⟩ := hr.len
  rw [ints_len] at HV ⊢
  have HNO := Lib.hid (fun (i : Nat) (hi : i < l.length) (h : row.count (i : Int) ≠ 1) => whole_cnt hi h)
  have HAL := Lib.hid (fun (h : ∀ i, i < l.length → row.count (i : Int) = 1) => wholeS_all h)
  have HCT := Lib.hid (fun (i k : Nat) (hk : k < row.length) => cntW_take hk i)
  have HZ : Hid (∀ i : Nat, i < 0 → row.count (i : Int) = 1) := fun i hi => absurd hi (Nat.not_lt_zero _)
  clear hr
  obtain ⟨R, hR⟩ : ∃ R, wholeS l.length row = R := ⟨_, rfl⟩
  rw [hR] at HNO HAL ⊢
  clear hR
  generalize l.length = n at *
  go_enter Tryz.func34, Tryz.ntmps34
  go_wp2_with fail
  go_loopw [11] (fun x wr => ∃ i : Nat, i ≤ n ∧ x = .int .i64 i ∧ Hid (∀ i', i' < i → row.count (i' : Int) = 1) ∧ wr = w) (fun x _ => n - (intOf x).toNat)
  case atStart => exact ⟨0, by omega, rfl, HZ, rfl⟩
  case round =>
    clear HZ
    obtain ⟨i, hi, rfl, HI, rfl⟩ := hrel
    by_cases hlt : i < n
    · have HC0 : Hid ((0 : Nat) = (row.take 0).count (i : Int)) := rfl
      obtain ⟨W1, hW1⟩ : ∃ W1 : World, W1 = wr := ⟨wr, rfl⟩
      subst hW1
      go_wp2_with fail
      go_loopw [6, 16] (fun q x wr => ∃ k : Nat, k ≤ row.length ∧ x = .int .i64 k ∧ (∃ z : Nat, q = .int .i64 (z : Int) ∧ z ≤ k ∧ Hid (z = (row.take k).count (i : Int))) ∧ wr = W1) (fun _ x _ => row.length - (intOf x).toNat)
      case atStart => exact ⟨0, by omega, rfl, ⟨0, rfl, by omega, HC0⟩, rfl⟩
      case round =>
        clear HC0
        obtain ⟨k, hk, rfl, ⟨z, rfl, hz, HK⟩, rfl⟩ := hrel
        by_cases hltk : k < row.length
        · obtain ⟨b, o, c', he, hbl, hcs⟩ := HV.out.opened (by rw [ints_len]; omega)
          simp only [Value.slice.injEq] at he
          obtain ⟨rfl, -, rfl⟩ := he
          have hck := hcs k (.int .i64 row[k]) (by unfold ints; rw [List.getElem?_map, List.getElem?_eq_getElem hltk]; rfl)
          have hct := HCT.out i k hltk
          rw [← HK.out] at hct
          clear hcs HK
          generalize row[k] = y at *
          by_cases hy : y = (i : Int)
          · have ty : ((y : Int) == (i : Int)) = true := by simp [hy]
            rw [if_pos hy] at hct
            have HK2 : Hid (z + 1 = (row.take (k + 1)).count (i : Int)) := hct.symm
            clear hy hct
            go_wp2
            go_roundw
            case rel => exact ⟨k + 1, by omega, by go_num, ⟨z + 1, by go_num, by omega, HK2⟩, by trivial⟩
            case measure => simp [intOf]; omega
          · have ty : ((y : Int) == (i : Int)) = false := by simp; exact hy
            rw [if_neg hy] at hct
            have HK2 : Hid (z = (row.take (k + 1)).count (i : Int)) := hct.symm
            clear hy hct
            go_wp2
            go_roundw
            case rel => exact ⟨k + 1, by omega, by go_num, ⟨z, rfl, by omega, HK2⟩, by trivial⟩
            case measure => simp [intOf]; omega
        · obtain rfl : k = row.length := by omega
          have hcnt : z = row.count (i : Int) := by have := HK.out; rwa [List.take_length] at this
          have HCN := Lib.hid hcnt
          clear hcnt HK
          by_cases h1 : z = 1
          · have t1 : ((z : Int) != 1) = false := by simp [h1]
            have HI2 : Hid (∀ i', i' < i + 1 → row.count (i' : Int) = 1) := fun i' hi' => if h : i' < i then HI.out i' h else by
              rw [show i' = i from by omega, ← HCN.out]; exact h1
            clear h1 HCN HI
            go_wp2
            go_roundw
            case rel => exact ⟨i + 1, by omega, by go_num, HI2, by trivial⟩
            case measure => simp [intOf]; omega
          · have t1 : ((z : Int) != 1) = true := by simp; omega
            have hr := HNO.out i hlt (by rw [← HCN.out]; exact h1)
            subst hr
            clear h1 HCN HI
            go_wp2
            go_ret
            exact ⟨rfl, rfl⟩
    · obtain rfl : i = n := by omega
      have hr := HAL.out HI.out
      have HRR : Hid ((row.length == i) = R) := by
        unfold Hid
        rw [hr]
        rfl
      clear hr HAL HNO HCT
      go_wp2
      go_ret
      exact ⟨ret_bool (by rw [← HRR.out, Bool.eq_iff_iff]; simp; omega), rfl⟩
end Go.Proofs.YtmnblljenobofaaGreatDoor
