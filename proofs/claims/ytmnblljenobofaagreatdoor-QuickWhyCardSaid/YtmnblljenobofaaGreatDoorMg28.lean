/- Merged: GphQ, GphR. -/
import Derived.Test.YtmnblljenobofaaGreatDoorGphP
/- The walks of the reference's ahead, writes, third and fourth. -/
namespace Go.Proofs.YtmnblljenobofaaGreatDoor.WPlain
end Go.Proofs.YtmnblljenobofaaGreatDoor.WPlain
namespace Go.Proofs.YtmnblljenobofaaGreatDoor.QPlain
end Go.Proofs.YtmnblljenobofaaGreatDoor.QPlain
namespace Go.Proofs.YtmnblljenobofaaGreatDoor.RPlain
end Go.Proofs.YtmnblljenobofaaGreatDoor.RPlain
namespace Go.Proofs.YtmnblljenobofaaGreatDoor.RPlain
open WPlain QPlain

theorem ahead_drop {row : List Nat} {k : Nat} (hk : k < row.length) (a b : Nat) : aheadB a b (row.drop k) = if row[k] = b then false else if row[k] = a then true else aheadB a b (row.drop (k + 1)) := by
  rw [List.drop_eq_getElem_cons hk, aheadB]
/-- rule 3, rule 4, rule 2, of one Op -/
def third1 (l : List Tx) (c : Nat) (row : List Nat) (i k n : Nat) : Bool := match (opsAt l i)[n]? with
  | none => false
  | some o => !o.w && !decide (srcS l i n = (i : Int)) && !decide (k = i) && !decide ((k : Int) = srcS l i n) && wrt l c k o.v && (decide (srcS l i n < 0) || aheadB (srcS l i n).toNat k row)
def fourth1 (l : List Tx) (c : Nat) (row : List Nat) (t i k n : Nat) : Bool := match (opsAt l t)[n]? with
  | none => false
  | some o => !o.w && !decide (srcS l t n = (t : Int)) && decide (srcS l t n = (k : Int)) && !decide (i = t) && !decide (i = k) && wrt l c i o.v && aheadB i k row
def secnd1 (l : List Tx) (i k n : Nat) : Bool := match (opsAt l k)[n]? with
  | none => false
  | some o => !o.w && !decide (i = k) && decide (srcS l k n = (i : Int))
theorem third_any (l : List Tx) (c : Nat) (row : List Nat) (i k : Nat) : third l c row i k = (List.range (opsAt l i).length).any (third1 l c row i k) := rfl
theorem fourth_any (l : List Tx) (c : Nat) (row : List Nat) (t i k : Nat) : fourth l c row t i k = (List.range (opsAt l t).length).any (fourth1 l c row t i k) := rfl
theorem any_hit {p : Nat → Bool} {n k : Nat} (hk : k < n) (h : p k = true) : (List.range n).any p = true := List.any_eq_true.2 ⟨k, List.mem_range.2 hk, h⟩
theorem any_next {p : Nat → Bool} {n : Nat} (h : (List.range n).any p = false) (h2 : p n = false) : (List.range (n + 1)).any p = false := by
  rw [List.range_succ, List.any_append, h]
  simp [h2]
theorem third1_eq {l : List Tx} {c : Nat} {row : List Nat} {i k n : Nat} {o : Rwo} (ho : (opsAt l i)[n]? = some o) : third1 l c row i k n = (!o.w && !decide (srcS l i n = (i : Int)) && !decide (k = i) && !decide ((k : Int) = srcS l i n) && wrt l c k o.v && (decide (srcS l i n < 0) || aheadB (srcS l i n).toNat k row)) := by
  unfold third1
  rw [ho]
theorem fourth1_eq {l : List Tx} {c : Nat} {row : List Nat} {t i k n : Nat} {o : Rwo} (ho : (opsAt l t)[n]? = some o) : fourth1 l c row t i k n = (!o.w && !decide (srcS l t n = (t : Int)) && decide (srcS l t n = (k : Int)) && !decide (i = t) && !decide (i = k) && wrt l c i o.v && aheadB i k row) := by
  unfold fourth1
  rw [ho]
theorem secnd1_eq {l : List Tx} {i k n : Nat} {o : Rwo} (ho : (opsAt l k)[n]? = some o) : secnd1 l i k n = (!o.w && !decide (i = k) && decide (srcS l k n = (i : Int))) := by
  unfold secnd1
  rw [ho]
end Go.Proofs.YtmnblljenobofaaGreatDoor.RPlain
namespace Go.Proofs.YtmnblljenobofaaGreatDoor
open Go.RowKit WPlain QPlain RPlain

set_option maxRecDepth 100000 in
set_option maxHeartbeats 1000000 in
theorem refAhead_any (v : Value) (rn : List Nat) (a b : Nat) (w : World) (hv : Rd w v (ints (rn.map (fun x : Nat => (x : Int))))) (hl : rn.length ≤ 65536) :
    Calls Tryz.prog 105 #[v, .int .i64 (a : Int), .int .i64 (b : Int)] w fun e w' => e = .returned (.bool (aheadB a b rn)) ∧ w' = w := by
  have HV := Lib.hid hv
  have HD := Lib.hid (fun (k : Nat) (hk : k < rn.length) => ahead_drop hk a b)
  have HZ : Hid (aheadB a b (rn.drop 0) = aheadB a b rn) := rfl
  have HE : Hid (aheadB a b (rn.drop rn.length) = false) := by unfold Hid; rw [List.drop_length]; rfl
  obtain ⟨R, hR⟩ : ∃ R, aheadB a b rn = R := ⟨_, rfl⟩
  rw [hR] at HZ ⊢
  obtain ⟨va, vc, rfl⟩ := hv.len
  rw [ints_len, List.length_map] at HV ⊢
  clear hv hR
  go_enter Tryz.func105, Tryz.ntmps105
  go_wp2_with fail
  go_loopw [11] (fun x wr => ∃ k : Nat, k ≤ rn.length ∧ x = .int .i64 k ∧ Hid (aheadB a b (rn.drop k) = R) ∧ wr = w) (fun x _ => rn.length - (intOf x).toNat)
  case atStart => exact ⟨0, by omega, rfl, HZ, rfl⟩
  case round =>
    clear HZ
    obtain ⟨k, hk, rfl, HA, rfl⟩ := hrel
    by_cases hlt : k < rn.length
    · obtain ⟨bb, o, c', he, hbl, hcs⟩ := HV.out.opened (by rw [ints_len, List.length_map]; omega)
      simp only [Value.slice.injEq] at he
      obtain ⟨rfl, -, rfl⟩ := he
      have hck := hcs k (.int .i64 (rn[k] : Int)) (by unfold ints; rw [List.getElem?_map, List.getElem?_map, List.getElem?_eq_getElem hlt]; rfl)
      have hd := HD.out k hlt
      rw [HA.out] at hd
      clear hcs HA
      generalize rn[k] = y at *
      by_cases hyb : y = b
      · have ty : ((y : Int) == (b : Int)) = true := by simp [hyb]
        rw [if_pos hyb] at hd
        subst hd
        clear hyb
        go_wp2
        go_ret
        exact ⟨rfl, rfl⟩
      · have ty : ((y : Int) == (b : Int)) = false := by simp; omega
        rw [if_neg hyb] at hd
        by_cases hya : y = a
        · have tz : ((y : Int) == (a : Int)) = true := by simp [hya]
          rw [if_pos hya] at hd
          subst hd
          clear hyb hya
          go_wp2
          go_ret
          exact ⟨rfl, rfl⟩
        · have tz : ((y : Int) == (a : Int)) = false := by simp; omega
          rw [if_neg hya] at hd
          have HA2 : Hid (aheadB a b (rn.drop (k + 1)) = R) := hd.symm
          clear hyb hya hd
          go_wp2
          go_roundw
          case rel => exact ⟨k + 1, by omega, by go_num, HA2, by trivial⟩
          case measure => simp [intOf]; omega
    · obtain rfl : k = rn.length := by omega
      have hr := HE.out
      rw [HA.out] at hr
      subst hr
      go_wp2
      go_ret
      exact ⟨rfl, rfl⟩
set_option maxRecDepth 100000 in
set_option maxHeartbeats 1000000 in
theorem refWrites17_any (v : Value) (l : List Tx) (cm k : Nat) (x : Int) (w : World) (hv : Txs w v l) (hf : Fine l) (hcm : cm < 4294967296) (hk : k < l.length) :
    Calls Tryz.prog 104 #[v, .int .u32 (cm : Int), .int .i64 (k : Int), .int .i64 x] w fun e w' => e = .returned (.bool (wrt l cm k x)) ∧ Below w.heap.size w w' := by
  have hl6 := hf.six
  obtain ⟨tb, tq, tcc, he⟩ := hv.opened (by omega)
  subst he
  obtain ⟨u, x0, x1, x2, x3, x4, q⟩ := hv.get k hk
  have HB := Lib.hid (refBit9_any cm k hcm (by omega) w)
  have HO := Lib.hid (refOwns_any u l[k].o x w q (hf.ops _ (List.getElem_mem hk)).1)
  have hw : wrt l cm k x = (cm.testBit k && ownsB l[k].o x) := by unfold wrt; rw [opsAt_eq hk]
  rw [hw]
  have hkl : (k : Int) < (l.length : Int) := by omega
  obtain ⟨ua, uc, rfl, -⟩ := q.len
  have HB0 := Lib.hid (Below.refl w.heap.size w)
  clear hv hf hcm q hw x0 x1 x2 x3
  generalize ownsB l[k].o x = r at *
  generalize l[k].o.length = m at *
  clear hk
  generalize l.length = ln at *
  cases hb : cm.testBit k with
  | false =>
    rw [hb] at HB
    rw [Bool.false_and]
    clear hb
    go_enter Tryz.func104, Tryz.ntmps104
    go_wp2_with fail
    refine HB.out.mono ?_
    rintro e w1 ⟨rfl, rfl⟩
    go_wp2
    go_ret
    exact ⟨rfl, HB0.out⟩
  | true =>
    rw [hb] at HB
    rw [Bool.true_and]
    clear hb
    go_enter Tryz.func104, Tryz.ntmps104
    go_wp2_with fail
    refine HB.out.mono ?_
    rintro e w1 ⟨rfl, rfl⟩
    go_wp2_with fail
    refine HO.out.mono ?_
    rintro e w2 ⟨rfl, hb2⟩
    have HB2 := Lib.hid hb2
    go_wp2
    go_ret
    exact ⟨rfl, HB2.out⟩
end Go.Proofs.YtmnblljenobofaaGreatDoor
/- The walks of the reference's third and fourth. (Written by gen_gphR.py.) -/
namespace Go.Proofs.YtmnblljenobofaaGreatDoor.WPlain
end Go.Proofs.YtmnblljenobofaaGreatDoor.WPlain
namespace Go.Proofs.YtmnblljenobofaaGreatDoor.QPlain
end Go.Proofs.YtmnblljenobofaaGreatDoor.QPlain
namespace Go.Proofs.YtmnblljenobofaaGreatDoor.RPlain
end Go.Proofs.YtmnblljenobofaaGreatDoor.RPlain
namespace Go.Proofs.YtmnblljenobofaaGreatDoor
open Go.RowKit WPlain QPlain RPlain

set_option maxRecDepth 100000 in
set_option maxHeartbeats 4000000 in
theorem refThird_any (v : Value) (l : List Tx) (cm : Nat) (ra : Option Addr) (rc : Nat) (rn : List Nat) (i k : Nat) (w : World) (hv : Txs w v l) (hf : Fine l) (hcm : cm < 4294967296) (hr : Rd w (.slice ra rn.length rc) (ints (rn.map (fun x : Nat => (x : Int))))) (hl : rn.length ≤ 65536) (hx : i < l.length) (hy : k < l.length) :
    Calls Tryz.prog 73 #[v, .int .u32 (cm : Int), .slice ra rn.length rc, .int .i64 (i : Int), .int .i64 (k : Int)] w fun e w' => e = .returned (.bool (third l cm rn i k)) ∧ Below w.heap.size w w' := by
  rw [third_any]
  have HS := Lib.hid (fun (n : Nat) (W : World) (hW : Below w.heap.size w W) (hn : n < (opsAt l i).length) => refSource_any v l i n W (hv.below hW (Nat.le_refl _)) hf hx hn)
  have HW := Lib.hid (fun (x : Int) (W : World) (hW : Below w.heap.size w W) => refWrites17_any v l cm k x W (hv.below hW (Nat.le_refl _)) hf hcm hy)
  have HAH := Lib.hid (fun (a b : Nat) (W : World) (hW : Below w.heap.size w W) => refAhead_any _ rn a b W (hr.below hW (Nat.le_refl _)) hl)
  have HKD := Lib.hid (fun (n : Nat) => src_kind l (i := n) hx)
  have HQ := Lib.hid (fun (n : Nat) (o : Rwo) (ho : (opsAt l i)[n]? = some o) => third1_eq (c := cm) (row := rn) (k := k) ho)
  have HH := Lib.hid (fun (n : Nat) (hn : n < (opsAt l i).length) (h : third1 l cm rn i k n = true) => any_hit (p := third1 l cm rn i k) hn h)
  have hoe := opsAt_eq hx
  have hl6 := hf.six
  have hol := (hf.ops _ (List.getElem_mem hx)).1
  obtain ⟨tb, tq, tcc, he⟩ := hv.opened (by omega)
  subst he
  obtain ⟨u, x0, x1, x2, x3, x4, q⟩ := hv.get i hx
  obtain ⟨ua, uc, rfl, huc⟩ := q.len
  have hxl : (i : Int) < (l.length : Int) := by omega
  have HZ : Hid ((List.range 0).any (third1 l cm rn i k) = false) := rfl
  have HB0 := Lib.hid (Below.refl w.heap.size w)
  rw [hoe] at HS HQ HH ⊢
  clear hv hf hcm hr hoe x0 x1 x2 x3
  generalize l[i].o = Xo at *
  have HOP := Lib.hid q
  clear q
  obtain ⟨R, hR⟩ : ∃ R, (List.range Xo.length).any (third1 l cm rn i k) = R := ⟨_, rfl⟩
  rw [hR] at HH ⊢
  have HRR := Lib.hid hR
  clear hR
  generalize rn.length = rl at *
  go_enter Tryz.func73, Tryz.ntmps73
  go_wp2_with fail
  go_loopw [20] (fun x wr => ∃ n : Nat, n ≤ Xo.length ∧ x = .int .i64 n ∧ Hid ((List.range n).any (third1 l cm rn i k) = false) ∧ Hid (Below w.heap.size w wr)) (fun x _ => Xo.length - (intOf x).toNat)
  case atStart => exact ⟨0, by omega, rfl, HZ, HB0⟩
  case round =>
    clear HZ HB0 x4
    obtain ⟨n, hnl, rfl, HN, HB⟩ := hrel
    by_cases hlt : n < Xo.length
    · obtain ⟨b, o, rfl, hbl, c0, c1, c2⟩ := Opv.at (HOP.out.below HB.out (Nat.le_refl _)) n hlt
      have hq := HQ.out n _ (List.getElem?_eq_getElem hlt)
      have HH1 := Lib.hid (HH.out n hlt)
      have hnx := fun h => any_next HN.out (p := third1 l cm rn i k) (n := n) h
      have HK1 := HKD.out n
      have HS1 := Lib.hid (fun (W : World) hW => HS.out n W hW hlt)
      generalize srcS l i n = s at *
      generalize third1 l cm rn i k n = qv at *
      generalize Xo[n] = O at *
      obtain ⟨ow, ov, ox⟩ := O
      dsimp only at *
      have hba : Below wr.heap.size wr (wr.alloc (.cells #[.bool ow, .int .i64 ov, .int .i64 ox] 82)) := (Below.refl _ wr).alloc (Nat.le_refl _) _
      have HA2 := Lib.hid (At.new wr #[.bool ow, .int .i64 ov, .int .i64 ox] 82)
      have HB2 := Lib.hid (HB.out.trans (hba.mono HB.out.size))
      have HSC := Lib.hid (HS1.out _ HB2.out)
      have HQ1 := Lib.hid hq
      have HNX := Lib.hid hnx
      have HK := Lib.hid HK1
      clear hq hnx hba HB HN HS1 HK1
      go_wp2_with fail
      refine HSC.out.mono ?_
      rintro e w3 ⟨rfl, hb3⟩
      have HB3 := Lib.hid (HB2.out.trans (hb3.mono HB2.out.size))
      have HA3 := Lib.hid (HA2.out.below hb3 HA2.out.lt)
      clear hb3 HSC HB2 HA2 c0 c1 c2
      have e0 := HA3.out.cell (i := 0) rfl
      have e1 := HA3.out.cell (i := 1) rfl
      generalize wr.heap.size = NB at *
      cases ow with
      | true =>
        have HN2 := Lib.hid (HNX.out (by rw [HQ1.out]; simp))
        clear HQ1 HNX HH1 HK
        go_wp2
        go_roundw
        case rel => exact ⟨n + 1, by omega, by go_num, HN2, HB3⟩
        case measure => simp [intOf]; omega
      | false =>
        by_cases hs : s = (i : Int)
        · have ts : ((s : Int) != (i : Int)) = false := by simp [hs]
          have HN2 := Lib.hid (HNX.out (by rw [HQ1.out]; simp [hs]))
          clear HQ1 HNX HH1 HK hs
          go_wp2
          go_roundw
          case rel => exact ⟨n + 1, by omega, by go_num, HN2, HB3⟩
          case measure => simp [intOf]; omega
        have ts : ((s : Int) != (i : Int)) = true := by simp; exact hs
        by_cases hki : k = i
        · have tk : ((k : Int) != (i : Int)) = false := by simp [hki]
          have HN2 := Lib.hid (HNX.out (by rw [HQ1.out]; simp [hki]))
          clear HQ1 HNX HH1 HK hki
          go_wp2
          go_roundw
          case rel => exact ⟨n + 1, by omega, by go_num, HN2, HB3⟩
          case measure => simp [intOf]; omega
        have tk : ((k : Int) != (i : Int)) = true := by simp; omega
        by_cases hks : (k : Int) = s
        · have tz : ((k : Int) != s) = false := by simp [hks]
          have HN2 := Lib.hid (HNX.out (by rw [HQ1.out]; simp [hks]))
          clear HQ1 HNX HH1 HK hks
          go_wp2
          go_roundw
          case rel => exact ⟨n + 1, by omega, by go_num, HN2, HB3⟩
          case measure => simp [intOf]; omega
        have tz : ((k : Int) != s) = true := by simp; exact hks
        have HWC := Lib.hid (HW.out ov w3 HB3.out)
        cases hwr : wrt l cm k ov with
        | false =>
          rw [hwr] at HWC HQ1
          go_wp2_with fail
          refine HWC.out.mono ?_
          rintro e w5 ⟨rfl, hb5⟩
          have HB5 := Lib.hid (HB3.out.trans (hb5.mono HB3.out.size))
          clear hb5
          have HN2 := Lib.hid (HNX.out (by rw [HQ1.out]; simp []))
          clear HQ1 HNX HH1 HK 
          go_wp2
          go_roundw
          case rel => exact ⟨n + 1, by omega, by go_num, HN2, HB5⟩
          case measure => simp [intOf]; omega
        | true =>
          rw [hwr] at HWC HQ1
          rcases HK.out with hc | hneg | ⟨j, hjl, hji, rfl⟩
          · exact absurd hc hs
          · have tn : decide (s < 0) = true := decide_eq_true hneg
            go_wp2_with fail
            refine HWC.out.mono ?_
            rintro e w5 ⟨rfl, hb5⟩
            have HB5 := Lib.hid (HB3.out.trans (hb5.mono HB3.out.size))
            clear hb5
            have hr := HH1.out (by rw [HQ1.out]; simp [hs, hki, hks, hneg])
            subst hr
            clear HQ1 HNX HH1 HK
            go_wp2
            go_ret
            exact ⟨rfl, HB5.out⟩
          · have tn : decide ((j : Int) < 0) = false := by simp
            rw [Int.toNat_natCast] at HQ1
            have HAC := Lib.hid (HAH.out j k)
            cases ha : aheadB j k rn with
            | true =>
              rw [ha] at HAC HQ1
              go_wp2_with fail
              refine HWC.out.mono ?_
              rintro e w5 ⟨rfl, hb5⟩
              have HB5 := Lib.hid (HB3.out.trans (hb5.mono HB3.out.size))
              clear hb5
              have HAD := Lib.hid (HAC.out w5 HB5.out)
              clear HAC
              go_wp2_with fail
              refine HAD.out.mono ?_
              rintro e w6 ⟨rfl, rfl⟩
              have hr := HH1.out (by rw [HQ1.out]; simp [hs, hki, hks])
              subst hr
              clear HQ1 HNX HH1 HK
              go_wp2
              go_ret
              exact ⟨rfl, HB5.out⟩
            | false =>
              rw [ha] at HAC HQ1
              go_wp2_with fail
              refine HWC.out.mono ?_
              rintro e w5 ⟨rfl, hb5⟩
              have HB5 := Lib.hid (HB3.out.trans (hb5.mono HB3.out.size))
              clear hb5
              have HAD := Lib.hid (HAC.out w5 HB5.out)
              clear HAC
              go_wp2_with fail
              refine HAD.out.mono ?_
              rintro e w6 ⟨rfl, rfl⟩
              have HN2 := Lib.hid (HNX.out (by rw [HQ1.out]; simp []))
              clear HQ1 HNX HH1 HK 
              go_wp2
              go_roundw
              case rel => exact ⟨n + 1, by omega, by go_num, HN2, HB5⟩
              case measure => simp [intOf]; omega
    · obtain rfl : n = Xo.length := by omega
      have hr := HRR.out
      rw [HN.out] at hr
      subst hr
      go_wp2
      go_ret
      exact ⟨rfl, HB.out⟩
set_option maxRecDepth 100000 in
set_option maxHeartbeats 4000000 in
theorem refFourth_any (v : Value) (l : List Tx) (cm : Nat) (ra : Option Addr) (rc : Nat) (rn : List Nat) (t i k : Nat) (w : World) (hv : Txs w v l) (hf : Fine l) (hcm : cm < 4294967296) (hr : Rd w (.slice ra rn.length rc) (ints (rn.map (fun x : Nat => (x : Int))))) (hl : rn.length ≤ 65536) (hx : t < l.length) (hy : i < l.length) :
    Calls Tryz.prog 75 #[v, .int .u32 (cm : Int), .slice ra rn.length rc, .int .i64 (t : Int), .int .i64 (i : Int), .int .i64 (k : Int)] w fun e w' => e = .returned (.bool (fourth l cm rn t i k)) ∧ Below w.heap.size w w' := by
  rw [fourth_any]
  have HS := Lib.hid (fun (n : Nat) (W : World) (hW : Below w.heap.size w W) (hn : n < (opsAt l t).length) => refSource_any v l t n W (hv.below hW (Nat.le_refl _)) hf hx hn)
  have HW := Lib.hid (fun (x : Int) (W : World) (hW : Below w.heap.size w W) => refWrites17_any v l cm i x W (hv.below hW (Nat.le_refl _)) hf hcm hy)
  have HAH := Lib.hid (fun (a b : Nat) (W : World) (hW : Below w.heap.size w W) => refAhead_any _ rn a b W (hr.below hW (Nat.le_refl _)) hl)
  have HKD := Lib.hid (fun (n : Nat) => src_kind l (i := n) hx)
  have HQ := Lib.hid (fun (n : Nat) (o : Rwo) (ho : (opsAt l t)[n]? = some o) => fourth1_eq (c := cm) (row := rn) (i := i) (k := k) ho)
  have HH := Lib.hid (fun (n : Nat) (hn : n < (opsAt l t).length) (h : fourth1 l cm rn t i k n = true) => any_hit (p := fourth1 l cm rn t i k) hn h)
  have hoe := opsAt_eq hx
  have hl6 := hf.six
  have hol := (hf.ops _ (List.getElem_mem hx)).1
  obtain ⟨tb, tq, tcc, he⟩ := hv.opened (by omega)
  subst he
  obtain ⟨u, x0, x1, x2, x3, x4, q⟩ := hv.get t hx
  obtain ⟨ua, uc, rfl, huc⟩ := q.len
  have hxl : (t : Int) < (l.length : Int) := by omega
  have HZ : Hid ((List.range 0).any (fourth1 l cm rn t i k) = false) := rfl
  have HB0 := Lib.hid (Below.refl w.heap.size w)
  rw [hoe] at HS HQ HH ⊢
  clear hv hf hcm hr hoe x0 x1 x2 x3
  generalize l[t].o = Xo at *
  have HOP := Lib.hid q
  clear q
  obtain ⟨R, hR⟩ : ∃ R, (List.range Xo.length).any (fourth1 l cm rn t i k) = R := ⟨_, rfl⟩
  rw [hR] at HH ⊢
  have HRR := Lib.hid hR
  clear hR
  generalize rn.length = rl at *
  go_enter Tryz.func75, Tryz.ntmps75
  go_wp2_with fail
  go_loopw [22] (fun x wr => ∃ n : Nat, n ≤ Xo.length ∧ x = .int .i64 n ∧ Hid ((List.range n).any (fourth1 l cm rn t i k) = false) ∧ Hid (Below w.heap.size w wr)) (fun x _ => Xo.length - (intOf x).toNat)
  case atStart => exact ⟨0, by omega, rfl, HZ, HB0⟩
  case round =>
    clear HZ HB0 x4
    obtain ⟨n, hnl, rfl, HN, HB⟩ := hrel
    by_cases hlt : n < Xo.length
    · obtain ⟨b, o, rfl, hbl, c0, c1, c2⟩ := Opv.at (HOP.out.below HB.out (Nat.le_refl _)) n hlt
      have hq := HQ.out n _ (List.getElem?_eq_getElem hlt)
      have HH1 := Lib.hid (HH.out n hlt)
      have hnx := fun h => any_next HN.out (p := fourth1 l cm rn t i k) (n := n) h
      have HK1 := HKD.out n
      have HS1 := Lib.hid (fun (W : World) hW => HS.out n W hW hlt)
      generalize srcS l t n = s at *
      generalize fourth1 l cm rn t i k n = qv at *
      generalize Xo[n] = O at *
      obtain ⟨ow, ov, ox⟩ := O
      dsimp only at *
      have hba : Below wr.heap.size wr (wr.alloc (.cells #[.bool ow, .int .i64 ov, .int .i64 ox] 82)) := (Below.refl _ wr).alloc (Nat.le_refl _) _
      have HA2 := Lib.hid (At.new wr #[.bool ow, .int .i64 ov, .int .i64 ox] 82)
      have HB2 := Lib.hid (HB.out.trans (hba.mono HB.out.size))
      have HSC := Lib.hid (HS1.out _ HB2.out)
      have HQ1 := Lib.hid hq
      have HNX := Lib.hid hnx
      have HK := Lib.hid HK1
      clear hq hnx hba HB HN HS1 HK1
      go_wp2_with fail
      refine HSC.out.mono ?_
      rintro e w3 ⟨rfl, hb3⟩
      have HB3 := Lib.hid (HB2.out.trans (hb3.mono HB2.out.size))
      have HA3 := Lib.hid (HA2.out.below hb3 HA2.out.lt)
      clear hb3 HSC HB2 HA2 c0 c1 c2
      have e0 := HA3.out.cell (i := 0) rfl
      have e1 := HA3.out.cell (i := 1) rfl
      generalize wr.heap.size = NB at *
      cases ow with
      | true =>
        have HN2 := Lib.hid (HNX.out (by rw [HQ1.out]; simp))
        clear HQ1 HNX HH1 HK
        go_wp2
        go_roundw
        case rel => exact ⟨n + 1, by omega, by go_num, HN2, HB3⟩
        case measure => simp [intOf]; omega
      | false =>
        by_cases hs : s = (t : Int)
        · have ts : ((s : Int) != (t : Int)) = false := by simp [hs]
          have HN2 := Lib.hid (HNX.out (by rw [HQ1.out]; simp [hs]))
          clear HQ1 HNX HH1 HK hs
          go_wp2
          go_roundw
          case rel => exact ⟨n + 1, by omega, by go_num, HN2, HB3⟩
          case measure => simp [intOf]; omega
        have ts : ((s : Int) != (t : Int)) = true := by simp; exact hs
        by_cases hsk : ¬ s = (k : Int)
        · have tk : ((s : Int) == (k : Int)) = false := by simp; exact hsk
          have HN2 := Lib.hid (HNX.out (by rw [HQ1.out]; simp [hsk]))
          clear HQ1 HNX HH1 HK hsk
          go_wp2
          go_roundw
          case rel => exact ⟨n + 1, by omega, by go_num, HN2, HB3⟩
          case measure => simp [intOf]; omega
        have hsk : s = (k : Int) := Classical.not_not.1 hsk
        have hkt : ¬ k = t := fun hc => hs (by rw [hsk, hc])
        have tk : ((s : Int) == (k : Int)) = true := by simp [hsk]
        by_cases hit' : i = t
        · have tz : ((i : Int) != (t : Int)) = false := by simp [hit']
          have HN2 := Lib.hid (HNX.out (by rw [HQ1.out]; simp [hit']))
          clear HQ1 HNX HH1 HK hit'
          go_wp2
          go_roundw
          case rel => exact ⟨n + 1, by omega, by go_num, HN2, HB3⟩
          case measure => simp [intOf]; omega
        have tz : ((i : Int) != (t : Int)) = true := by simp; omega
        by_cases hik : i = k
        · have ty : ((i : Int) != (k : Int)) = false := by simp [hik]
          have HN2 := Lib.hid (HNX.out (by rw [HQ1.out]; simp [hik]))
          clear HQ1 HNX HH1 HK hik
          go_wp2
          go_roundw
          case rel => exact ⟨n + 1, by omega, by go_num, HN2, HB3⟩
          case measure => simp [intOf]; omega
        have ty : ((i : Int) != (k : Int)) = true := by simp; omega
        have HWC := Lib.hid (HW.out ov w3 HB3.out)
        cases hwr : wrt l cm i ov with
        | false =>
          rw [hwr] at HWC HQ1
          go_wp2_with fail
          refine HWC.out.mono ?_
          rintro e w5 ⟨rfl, hb5⟩
          have HB5 := Lib.hid (HB3.out.trans (hb5.mono HB3.out.size))
          clear hb5
          have HN2 := Lib.hid (HNX.out (by rw [HQ1.out]; simp []))
          clear HQ1 HNX HH1 HK 
          go_wp2
          go_roundw
          case rel => exact ⟨n + 1, by omega, by go_num, HN2, HB5⟩
          case measure => simp [intOf]; omega
        | true =>
          rw [hwr] at HWC HQ1
          have HAC := Lib.hid (HAH.out i k)
          cases ha : aheadB i k rn with
          | true =>
            rw [ha] at HAC HQ1
            go_wp2_with fail
            refine HWC.out.mono ?_
            rintro e w5 ⟨rfl, hb5⟩
            have HB5 := Lib.hid (HB3.out.trans (hb5.mono HB3.out.size))
            clear hb5
            have HAD := Lib.hid (HAC.out w5 HB5.out)
            clear HAC
            go_wp2_with fail
            refine HAD.out.mono ?_
            rintro e w6 ⟨rfl, rfl⟩
            have hr := HH1.out (by rw [HQ1.out]; simp [hsk, hit', hik]; omega)
            subst hr
            clear HQ1 HNX HH1 HK
            go_wp2
            go_ret
            exact ⟨rfl, HB5.out⟩
          | false =>
            rw [ha] at HAC HQ1
            go_wp2_with fail
            refine HWC.out.mono ?_
            rintro e w5 ⟨rfl, hb5⟩
            have HB5 := Lib.hid (HB3.out.trans (hb5.mono HB3.out.size))
            clear hb5
            have HAD := Lib.hid (HAC.out w5 HB5.out)
            clear HAC
            go_wp2_with fail
            refine HAD.out.mono ?_
            rintro e w6 ⟨rfl, rfl⟩
            have HN2 := Lib.hid (HNX.out (by rw [HQ1.out]; simp []))
            clear HQ1 HNX HH1 HK 
            go_wp2
            go_roundw
            case rel => exact ⟨n + 1, by omega, by go_num, HN2, HB5⟩
            case measure => simp [intOf]; omega
    · obtain rfl : n = Xo.length := by omega
      have hr := HRR.out
      rw [HN.out] at hr
      subst hr
      go_wp2
      go_ret
      exact ⟨rfl, HB.out⟩
end Go.Proofs.YtmnblljenobofaaGreatDoor
