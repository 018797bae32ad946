/- Merged: SrlH, OrdJ, WorT. -/
import Derived.Test.YtpjfhdljagkefaaGreatDoorMg21
import Derived.Test.YtpjfhdljagkefaaGreatDoorMg16
import Derived.Test.YtpjfhdljagkefaaGreatDoorTxtS
import Derived.BigQuiet
/- The walks of the reference's left, free. -/
namespace Go.Proofs.YtpjfhdljagkefaaGreatDoor.WPlain
end Go.Proofs.YtpjfhdljagkefaaGreatDoor.WPlain
namespace Go.Proofs.YtpjfhdljagkefaaGreatDoor.QPlain
end Go.Proofs.YtpjfhdljagkefaaGreatDoor.QPlain
namespace Go.Proofs.YtpjfhdljagkefaaGreatDoor.RPlain
end Go.Proofs.YtpjfhdljagkefaaGreatDoor.RPlain
namespace Go.Proofs.YtpjfhdljagkefaaGreatDoor
open Go.RowKit WPlain QPlain RPlain

theorem left_take (who : Nat) (row : List Nat) (k : Nat) : (List.range (k + 1)).filter (fun k => who.testBit k && !row.contains k) = if (who.testBit k && !row.contains k) = true then (List.range k).filter (fun k => who.testBit k && !row.contains k) ++ [k] else (List.range k).filter (fun k => who.testBit k && !row.contains k) := by
  rw [List.range_succ, List.filter_append]
  cases hc : (who.testBit k && !row.contains k) <;> simp only [List.filter_cons, List.filter_nil, hc] <;> simp
/-- a search's terms by value, as they lie in a box -/
def gC (lv : Value) (who c B : Nat) : Array Value := #[lv, .int .u32 (who : Int), .int .u32 (c : Int), .int .i64 (B : Int)]
set_option maxRecDepth 100000 in
set_option maxHeartbeats 2000000 in
theorem refLeft_any (lv rv : Value) (l : List Tx) (who c B : Nat) (row : List Nat) (w : World) (hv : Txs w lv l) (hl : l.length ≤ 6) (hw : who < 4294967296) (hr : Rd w rv (nats row)) (hrl : row.length ≤ 1000) :
    Calls Tryz.prog 73 #[.agg (gC lv who c B), rv] w fun e w' => ∃ v', e = .returned v' ∧ w'.ownsRow w.heap.size 3 1 v' (leftS l who row).length (nats (leftS l who row)) ∧ Below w.heap.size w w' := by
  obtain ⟨j0, hj0, hy0, hy1', hy2'⟩ := info_parts infoN11
  have HFE : Hid (leftS l who row = (List.range l.length).filter (fun k => who.testBit k && !row.contains k)) := rfl
  have HST := Lib.hid (left_take who row)
  obtain ⟨a, c', rfl⟩ := hv.len
  obtain ⟨w1, hw1⟩ : ∃ w1, (w.alloc (.cells #[.slice a l.length c', .int .u32 (who : Int), .int .u32 (c : Int), .int .i64 (B : Int)] 94)).alloc (.cells #[] 3) = w1 := ⟨_, rfl⟩
  obtain ⟨N, hN⟩ : ∃ N, w.heap.size = N := ⟨_, rfl⟩
  have hat : At w1 N (gC (.slice a l.length c') who c B) 94 := by
    rw [← hw1, ← hN]
    exact (At.new w _ _).alloc _
  have hb1 : Below N w w1 := by
    rw [← hw1, ← hN]
    exact ((Below.refl _ w).alloc (Nat.le_refl _) _).alloc (by simp) _
  have HR0 : Hid (w1.ownsRow (N + 1) 3 1 (.slice (some ⟨N + 1, 0, none⟩) 0 0) ((List.range 0).filter (fun k => who.testBit k && !row.contains k)).length (nats ((List.range 0).filter (fun k => who.testBit k && !row.contains k)))) := by
    unfold Hid
    rw [← hw1, ← hN]
    have := World.ownsRow_made (size := 1) (e := 3) (base := w.heap.size + 1) (w.alloc (.cells #[.slice a l.length c', .int .u32 (who : Int), .int .u32 (c : Int), .int .i64 (B : Int)] 94)) #[] 0 (by simp) (by unfold maxLen; omega) rfl
    rwa [World.size_alloc] at this
  have HAT := Lib.hid hat
  have HB1 := Lib.hid hb1
  have HNL : Hid (N + 1 ≤ w1.heap.size) := hat.lt
  have HRV := Lib.hid hr
  have HL : Hid (row.length ≤ 65536) := by show _ ≤ _; omega
  have HW := Lib.hid hw
  obtain ⟨ra, rc, rfl⟩ := hr.len
  obtain ⟨rn, hrn⟩ : ∃ z, (nats row).length = z := ⟨_, rfl⟩
  rw [hrn] at HRV ⊢
  have g0 : w1.cell? ⟨N, 0, none⟩ = some (.slice a l.length c') := hat.cell rfl
  clear hv hr hat hb1 hrl hw hrn
  unfold gC
  go_enter Tryz.func73, Tryz.ntmps73
  go_wp2_with fail
  obtain ⟨pd, hpd⟩ : ∃ pd, (fun k => who.testBit k && !row.contains k) = pd := ⟨_, rfl⟩
  have HPD := Lib.hid hpd
  rw [hpd] at HST HR0 HFE
  clear hpd g0
  go_loopw [5, 11] (fun y x wr => ∃ k : Nat, k ≤ l.length ∧ x = .int .i64 k ∧ Hid (wr.ownsRow (N + 1) 3 1 y ((List.range k).filter pd).length (nats ((List.range k).filter pd))) ∧ Hid (Below (N + 1) w1 wr)) (fun _ x _ => l.length - (intOf x).toNat)
  case atStart => exact ⟨0, by omega, rfl, HR0, ⟨rfl, rfl, rfl, Nat.le_refl _, fun _ _ => rfl⟩⟩
  case round =>
    clear HR0 hw1
    obtain ⟨k, hk, rfl, HR, HB⟩ := hrel
    by_cases hlt : k < l.length
    · have HSK := Lib.hid (HST.out k)
      have hgl : ((List.range k).filter pd).length ≤ 6 := by
        have := List.length_filter_le pd (List.range k)
        rw [List.length_range] at this
        omega
      have ha2 := HAT.out.below HB.out (Nat.lt_succ_self N)
      have g1 : wr.cell? ⟨N, 1, none⟩ = some (.int .u32 (who : Int)) := ha2.cell rfl
      have HBT := Lib.hid (refBit9_any who k HW.out (by omega) wr)
      have HIN := Lib.hid (refInS_any _ row k wr (HRV.out.below (HB1.out.trans (HB.out.mono (by omega))) (by omega)) HL.out)
      have hpk : pd k = (who.testBit k && !row.contains k) := by rw [← HPD.out]
      have hbs := HB.out.size
      have hbN := HNL.out
      generalize (List.range k).filter pd = M at *
      obtain ⟨ma, mc, rfl⟩ := row_slice HR.out
      clear ha2
      cases hb1 : who.testBit k with
      | false =>
        rw [hb1] at HBT hpk
        have HS2 : Hid ((List.range (k + 1)).filter pd = M) := by unfold Hid; rw [HSK.out, hb1]; rfl
        clear hb1 hpk HSK HIN
        go_wp2_with (go_at_call 22; refine HBT.out.mono ?_; rintro e w3 ⟨rfl, hw3⟩; rw [hw3]; clear hw3)
        go_roundw
        case rel => exact ⟨k + 1, by omega, by go_num, by rw [HS2.out]; exact HR, HB⟩
        case measure => simp [intOf]; omega
      | true =>
        rw [hb1] at HBT hpk
        cases hb2 : row.contains k with
        | true =>
          rw [hb2] at HIN hpk
          have HS2 : Hid ((List.range (k + 1)).filter pd = M) := by unfold Hid; rw [HSK.out, hb1, hb2]; rfl
          clear hb1 hb2 hpk HSK
          go_wp2_with (first | (go_at_call 22; refine HBT.out.mono ?_; rintro e w3 ⟨rfl, hw3⟩; rw [hw3]; clear hw3) | (go_at_call 98; refine HIN.out.mono ?_; rintro e w3 ⟨rfl, hw3⟩; rw [← hw3]; clear hw3))
          go_roundw
          case rel => exact ⟨k + 1, by omega, by go_num, by rw [HS2.out]; exact HR, HB⟩
          case measure => simp [intOf]; omega
        | false =>
          rw [hb2] at HIN hpk
          have HS2 : Hid ((List.range (k + 1)).filter pd = M ++ [k]) := by unfold Hid; rw [HSK.out, hb1, hb2]; rfl
          have HNA : Hid (nats M ++ [.int .i64 (k : Int)] = nats (M ++ [k])) := by unfold Hid; simp [nats]
          clear hb1 hb2 hpk HSK
          go_wp2_with (first
            | (go_at_call 22; refine HBT.out.mono ?_; rintro e w3 ⟨rfl, hw3⟩; rw [hw3]; clear hw3)
            | (go_at_call 98; refine HIN.out.mono ?_; rintro e w3 ⟨rfl, hw3⟩; rw [← hw3]; clear hw3)
            | (at_builtin; refine wpList_append_own _ rfl _ _ 24 rfl (N + 1) 3 j0 (.int .i64 0) 1 8 Tryz.underlying24 hj0 hy0 hy1' hy2' rfl (by decide) (.slice ma M.length mc) M.length (nats M) rfl (HR.out.alloc _) ⟨wr.heap.size, 0, none⟩ 1 1 [.int .i64 (k : Int)] rfl rfl (cell_one_at wr _ _) (one_int _ _) (by unfold maxLen; omega) (by omega) (by simp; omega) ?_))
          intro v2 w2 ho2 hg2 _
          have HB2 := Lib.hid ((HB.out.alloc (by omega) _).grown hg2 (by simp; omega) (fun x hx => (HR.out.lt x hx).1))
          rw [HNA.out] at ho2
          have HO2 : Hid (w2.ownsRow (N + 1) 3 1 v2 (M ++ [k]).length (nats (M ++ [k]))) := by
            unfold Hid
            rw [List.length_append]
            exact ho2
          clear ho2 hg2
          go_wp2_with fail
          go_roundw
          case rel => exact ⟨k + 1, by omega, by go_num, by rw [HS2.out]; exact HO2, HB2⟩
          case measure => simp [intOf]; omega
    · obtain rfl : k = l.length := by omega
      rw [← HFE.out] at HR
      obtain ⟨ma, mc, rfl⟩ := row_slice HR.out
      clear HST HPD
      go_wp2_with fail
      go_ret
      exact ⟨_, rfl, by rw [hN]; exact own_monoT HR.out (by omega), by rw [hN]; exact HB1.out.trans (HB.out.mono (by omega))⟩
theorem freeS_cons (l : List Tx) (i : Nat) (r : List Nat) (k : Nat) : freeS l (i :: r) k = (!bfrAt l i k && freeS l r k) := rfl
set_option maxRecDepth 100000 in
set_option maxHeartbeats 2000000 in
theorem refFree_any (lv pv : Value) (l : List Tx) (who c B : Nat) (ps : List Nat) (k : Nat) (w : World) (hv : Txs w lv l) (hl : l.length ≤ 6) (hr : Rd w pv (nats ps)) (hps : ∀ i ∈ ps, i < l.length) (hk : k < l.length) (hrl : ps.length ≤ 1000) :
    Calls Tryz.prog 74 #[.agg (gC lv who c B), pv, .int .i64 (k : Int)] w fun e w' => e = .returned (.bool (freeS l ps k)) ∧ Below w.heap.size w w' := by
  obtain ⟨a, c', rfl⟩ := hv.len
  obtain ⟨w1, hw1⟩ : ∃ w1, w.alloc (.cells #[.slice a l.length c', .int .u32 (who : Int), .int .u32 (c : Int), .int .i64 (B : Int)] 94) = w1 := ⟨_, rfl⟩
  obtain ⟨N, hN⟩ : ∃ N, w.heap.size = N := ⟨_, rfl⟩
  have hat : At w1 N (gC (.slice a l.length c') who c B) 94 := by
    rw [← hw1, ← hN]
    exact At.new w _ _
  have hb1 : Below N w w1 := by
    rw [← hw1, ← hN]
    exact (Below.refl _ w).alloc (Nat.le_refl _) _
  have hv1 := hv.below hb1 (by omega)
  have hr1 := hr.below hb1 (by omega)
  have HBF : Hid (∀ i z (hi : i < l.length), Calls Tryz.prog 46 #[.slice a l.length c', .int .i64 (i : Int), .int .i64 (k : Int)] (w1.drewN z) fun e w' => e = .returned (.bool (bfrAt l i k)) ∧ ∃ y, w' = (w1.drewN z).drewN y) := fun i z hi => by
    have := refBefore_any (.slice a l.length c') l i k (w1.drewN z) (hv1.drewN z) hi hk (by omega)
    rwa [← bfrAt_at hi hk] at this
  have HPS := Lib.hid hps
  have HRV := Lib.hid hr1
  have HAT := Lib.hid hat
  have HB1 := Lib.hid hb1
  have HF0 : Hid (freeS l ps k = freeS l (ps.drop 0) k) := rfl
  have HFE : Hid (freeS l (ps.drop ps.length) k = true) := by unfold Hid; rw [List.drop_length]; rfl
  have HFN : Hid (∀ j (hj : j < ps.length), freeS l (ps.drop j) k = (!bfrAt l ps[j] k && freeS l (ps.drop (j + 1)) k)) := fun j hj => by rw [List.drop_eq_getElem_cons hj, freeS_cons]
  obtain ⟨ra, rc, rfl⟩ := hr.len
  rw [nats_len] at HRV ⊢
  obtain ⟨res, hres⟩ : ∃ res, freeS l ps k = res := ⟨_, rfl⟩
  rw [hres] at HF0 ⊢
  clear hv hr hat hb1 hps hv1 hr1 hres
  unfold gC
  go_enter Tryz.func74, Tryz.ntmps74
  go_wp2_with fail
  go_loopw [11] (fun x wr => ∃ j : Nat, j ≤ ps.length ∧ x = .int .i64 j ∧ Hid (res = freeS l (ps.drop j) k) ∧ ∃ z, wr = w1.drewN z) (fun x _ => ps.length - (intOf x).toNat)
  case atStart => exact ⟨0, by omega, rfl, HF0, 0, rfl⟩
  case round =>
    clear HF0 hw1
    obtain ⟨j, hj, rfl, HF, z, hwz⟩ := hrel
    by_cases hlt : j < ps.length
    · obtain ⟨b, o, pc, he, hbl, hcs⟩ := HRV.out.opened (by rw [nats_len]; omega)
      rw [nats_len] at he
      simp only [Value.slice.injEq] at he
      obtain ⟨rfl, -, rfl⟩ := he
      have hcj : wr.cell? ⟨b, o + j, none⟩ = some (.int .i64 (ps[j] : Int)) := by rw [hwz]; exact hcs j _ (nats_get hlt)
      have g0 : wr.cell? ⟨N, 0, none⟩ = some (.slice a l.length c') := by rw [hwz]; exact HAT.out.cell rfl
      have HBI := Lib.hid (HBF.out ps[j] z (HPS.out _ (List.getElem_mem hlt)))
      rw [← hwz] at HBI
      have HF2 : Hid (res = (!bfrAt l ps[j] k && freeS l (ps.drop (j + 1)) k)) := by unfold Hid; rw [HF.out, HFN.out j hlt]
      have HWZ := Lib.hid hwz
      clear hcs hwz HF hbl
      generalize ps[j] = i at *
      cases hb : bfrAt l i k with
      | true =>
        rw [hb] at HBI HF2
        clear hb
        go_wp2_with (go_at_call 46; refine HBI.out.mono ?_; rintro e w3 ⟨rfl, y, hw3⟩)
        go_ret
        exact ⟨by rw [HF2.out]; rfl, by rw [hN, HWZ.out]; exact below_drN (below_drN HB1.out z) y⟩
      | false =>
        rw [hb] at HBI HF2
        clear hb
        go_wp2_with (go_at_call 46; refine HBI.out.mono ?_; rintro e w3 ⟨rfl, y, hw3⟩)
        go_roundw
        case rel => exact ⟨j + 1, by omega, by go_num, by unfold Hid; rw [HF2.out]; rfl, z + y, by rw [HWZ.out, World.drewN_drewN]⟩
        case measure => simp [intOf]; omega
    · obtain rfl : j = ps.length := by omega
      have HF2 : Hid (res = true) := by unfold Hid; rw [HF.out, HFE.out]
      have HWZ := Lib.hid hwz
      clear hwz HF
      go_wp2_with fail
      go_ret
      exact ⟨by rw [HF2.out]; rfl, by rw [hN, HWZ.out]; exact below_drN HB1.out z⟩
end Go.Proofs.YtpjfhdljagkefaaGreatDoor
/- The walks of the reference's Keeps and After. -/
namespace Go.Proofs.YtpjfhdljagkefaaGreatDoor.WPlain
end Go.Proofs.YtpjfhdljagkefaaGreatDoor.WPlain
namespace Go.Proofs.YtpjfhdljagkefaaGreatDoor.QPlain
end Go.Proofs.YtpjfhdljagkefaaGreatDoor.QPlain
namespace Go.Proofs.YtpjfhdljagkefaaGreatDoor.RPlain
end Go.Proofs.YtpjfhdljagkefaaGreatDoor.RPlain
namespace Go.Proofs.YtpjfhdljagkefaaGreatDoor
open Go.RowKit WPlain QPlain RPlain

/-- a place keeps the order to what is ahead of it, up to a place -/
def okIn (l : List Tx) (rn : List Nat) (i j : Nat) : Prop := ∀ b (_ : b < j) (hb : b < rn.length) (hi : i < rn.length), badP l (rn[i] : Int) (rn[b] : Int) = false
theorem okIn_next {l : List Tx} {rn : List Nat} {i j : Nat} (h : okIn l rn i j) (hn : ∀ (hb : j < rn.length) (hi : i < rn.length), badP l (rn[i] : Int) (rn[j] : Int) = false) : okIn l rn i (j + 1) := by
  intro b hbj hb hi
  by_cases hj : b = j
  · subst hj; exact hn hb hi
  · exact h b (by omega) hb hi
theorem okTo_in {l : List Tx} {rn : List Nat} {i : Nat} (hi : i < rn.length) (h : okTo l (rn.map (fun x : Nat => (x : Int))) i) (hn : okIn l rn i i) : okTo l (rn.map (fun x : Nat => (x : Int))) (i + 1) := by
  refine okTo_next (by simpa using hi) h fun b hb => ?_
  have := hn b hb (by omega) hi
  simpa using this
theorem keeps_in {l : List Tx} {rn : List Nat} {i j : Nat} (hi : i < rn.length) (hj : j < i) (hb : badP l (rn[i] : Int) (rn[j] : Int) = true) : keepsS l (rn.map (fun x : Nat => (x : Int))) = false := by
  refine keeps_not (i := i) (j := j) (by simpa using hi) hj ?_
  simpa using hb
theorem badP_nat {l : List Tx} {a b : Nat} (ha : a < l.length) (hb : b < l.length) : badP l (a : Int) (b : Int) = (decide (a = b) || bfr l[a] l[b]) := by
  unfold badP
  rw [Int.toNat_natCast, Int.toNat_natCast, List.getElem?_eq_getElem ha, List.getElem?_eq_getElem hb]
  congr 1
  exact decide_eq_decide.2 (by omega)
set_option maxRecDepth 100000 in
set_option maxHeartbeats 2000000 in
theorem refKeeps_any (v : Value) (ra : Option Addr) (rc : Nat) (l : List Tx) (rn : List Nat) (w : World) (hv : Txs w v l) (hr : Rd w (.slice ra rn.length rc) (ints (rn.map (fun x : Nat => (x : Int))))) (hrc : rn.length ≤ rc) (hrl : rn.length ≤ 65536) (hl : l.length ≤ 65536) (hrn : ∀ b ∈ rn, b < l.length) :
    Calls Tryz.prog 48 #[v, .slice ra rn.length rc] w fun e w' => e = .returned (.bool (keepsS l (rn.map (fun x : Nat => (x : Int))))) ∧ ∃ z, w' = w.drewN z := by
  have HR := Lib.hid hr
  have HRN := Lib.hid hrn
  have HBF : Hid (∀ i k z (hi : i < l.length) (hk : k < l.length), Calls Tryz.prog 46 #[v, .int .i64 (i : Int), .int .i64 (k : Int)] (w.drewN z) fun e w' => e = .returned (.bool (bfr l[i] l[k])) ∧ ∃ y, w' = (w.drewN z).drewN y) := fun i k z hi hk => refBefore_any v l i k (w.drewN z) (hv.drewN z) hi hk hl
  obtain ⟨a, c, rfl⟩ := hv.len
  clear hr hrn hv
  go_enter Tryz.func48, Tryz.ntmps48
  go_wp2_with fail
  go_loopw [11] (fun x wr => ∃ i : Nat, i ≤ rn.length ∧ x = .int .i64 i ∧ Hid (okTo l (rn.map (fun x : Nat => (x : Int))) i) ∧ ∃ z, wr = w.drewN z) (fun x _ => rn.length - (intOf x).toNat)
  case atStart => exact ⟨0, by omega, rfl, okTo_zero _ _, 0, rfl⟩
  case round =>
    obtain ⟨i, hi, rfl, HO, z, rfl⟩ := hrel
    by_cases hlt : i < rn.length
    · obtain ⟨b, o, c', he, hbl, hcs⟩ := HR.out.opened (by rw [ints_len, List.length_map]; omega)
      simp only [Value.slice.injEq] at he
      obtain ⟨rfl, -, rfl⟩ := he
      have HCS : Hid (∀ z j (hj : j < rn.length), (w.drewN z).cell? ⟨b, o + j, none⟩ = some (.int .i64 (rn[j] : Int))) := fun z j hj => hcs j _ (by unfold ints; rw [List.getElem?_map, List.getElem?_map, List.getElem?_eq_getElem hj]; rfl)
      have hci := HCS.out z i hlt
      have hpi := HRN.out rn[i] (List.getElem_mem hlt)
      have HBI := Lib.hid (fun k z hk => HBF.out rn[i] k z hpi hk)
      have HKI := Lib.hid (fun j (hj : j < i) hb => keeps_in (l := l) (rn := rn) hlt hj hb)
      have HPI := Lib.hid (fun j (hj : j < rn.length) => badP_nat hpi (HRN.out rn[j] (List.getElem_mem hj)))
      have HOI : Hid (okIn l rn i i → okTo l (rn.map (fun x : Nat => (x : Int))) (i + 1)) := fun hn => okTo_in hlt HO.out hn
      have HIN : Hid (∀ j (hb : j < rn.length), okIn l rn i j → badP l (rn[i] : Int) (rn[j] : Int) = false → okIn l rn i (j + 1)) := fun j _ h hn => okIn_next h (fun _ _ => hn)
      obtain ⟨wz, hwz⟩ : ∃ wz, w.drewN z = wz := ⟨_, rfl⟩
      rw [hwz] at hci ⊢
      have HWZ := Lib.hid hwz
      have HSTART : Hid (okIn l rn i 0) := fun b hb => absurd hb (Nat.not_lt_zero _)
      clear hcs hwz HO HBF
      generalize l[rn[i]] = X at *
      generalize hpe : rn[i] = p at *
      clear hpe
      go_wp2_with fail
      go_loopw [20] (fun x wr => ∃ j : Nat, j ≤ i ∧ x = .int .i64 j ∧ Hid (okIn l rn i j) ∧ Hid (∃ z, wr = w.drewN z)) (fun x _ => i - (intOf x).toNat)
      case atStart => exact ⟨0, by omega, rfl, HSTART, _, HWZ.out.symm⟩
      case round =>
        clear HSTART
        obtain ⟨j, hj, rfl, HI, HZ⟩ := hrel
        by_cases hlj : j < i
        · have hjr : j < rn.length := by omega
          have hpj := HRN.out rn[j] (List.getElem_mem hjr)
          obtain ⟨z2, hz2⟩ := HZ.out
          have hcj := HCS.out z2 j hjr
          have hbe := HPI.out j hjr
          have HBJ := Lib.hid (HBI.out rn[j] z2 hpj)
          have HKJ := Lib.hid (HKI.out j hlj)
          have HNJ := Lib.hid (HIN.out j hjr HI.out)
          rw [← hz2] at hcj HBJ
          clear hz2 HI
          generalize l[rn[j]] = Y at *
          generalize rn[j] = q at *
          by_cases heq : p = q
          · have teq : ((p : Int) == (q : Int)) = true := by simp [heq]
            have HF := Lib.hid (HKJ.out (by rw [hbe]; simp [heq]))
            clear hbe HNJ HKJ
            go_wp2
            go_ret
            exact ⟨by rw [HF.out]; rfl, HZ.out⟩
          · have teq : ((p : Int) == (q : Int)) = false := by simp; omega
            have hd : decide (p = q) = false := by simp [heq]
            rw [hd, Bool.false_or] at hbe
            cases hbx : bfr X Y with
            | true =>
              rw [hbx] at hbe HBJ
              have HF := Lib.hid (HKJ.out hbe)
              clear hbe HNJ HKJ hbx heq hd
              go_wp2_with fail
              refine HBJ.out.mono ?_
              rintro e w3 ⟨rfl, y, rfl⟩
              go_wp2
              go_ret
              obtain ⟨z2, hz2⟩ := HZ.out
              exact ⟨by rw [HF.out]; rfl, _, by rw [hz2]; exact World.drewN_drewN _ _ _⟩
            | false =>
              rw [hbx] at hbe HBJ
              have HI2 := Lib.hid (HNJ.out hbe)
              clear hbe HNJ HKJ hbx heq hd
              go_wp2_with fail
              refine HBJ.out.mono ?_
              rintro e w3 ⟨rfl, y, rfl⟩
              have HZ3 : Hid (∃ z, wr.drewN y = w.drewN z) := by
                obtain ⟨z2, hz2⟩ := HZ.out
                exact ⟨_, by rw [hz2]; exact World.drewN_drewN _ _ _⟩
              clear HZ
              go_wp2
              go_roundw
              case rel => exact ⟨j + 1, by omega, by go_num, HI2, HZ3⟩
              case measure => simp [intOf]; omega
        · obtain rfl : j = i := by omega
          have HO2 := Lib.hid (HOI.out HI.out)
          go_wp2
          go_roundw
          case rel => exact ⟨j + 1, by omega, by go_num, HO2, HZ.out⟩
          case measure => simp [intOf]; omega
    · obtain rfl : i = rn.length := by omega
      have HF : Hid (keepsS l (rn.map (fun x : Nat => (x : Int))) = true) := okTo_all (by rw [List.length_map]; exact HO.out)
      go_wp2
      go_ret
      exact ⟨by rw [HF.out]; rfl, _, rfl⟩
end Go.Proofs.YtpjfhdljagkefaaGreatDoor
/- The walks of recantref15's with and Rows: the rows of a set, level by level. -/
namespace Go.Proofs.YtpjfhdljagkefaaGreatDoor.WPlain
end Go.Proofs.YtpjfhdljagkefaaGreatDoor.WPlain
namespace Go.Proofs.YtpjfhdljagkefaaGreatDoor.QPlain
end Go.Proofs.YtpjfhdljagkefaaGreatDoor.QPlain
namespace Go.Proofs.YtpjfhdljagkefaaGreatDoor.RPlain
end Go.Proofs.YtpjfhdljagkefaaGreatDoor.RPlain
namespace Go.Proofs.YtpjfhdljagkefaaGreatDoor.RPlain
open WPlain QPlain

/-- may a place come behind a row, within a set? -/
def canW (l : List Tx) (set : Nat) (r : List Nat) (k : Nat) : Bool := set.testBit k && !r.contains k && keepsS l ((r ++ [k]).map fun x : Nat => (x : Int))
def onW (l : List Tx) (set : Nat) (r : List Nat) (k : Nat) : List (List Nat) := ((List.range k).filter (canW l set r)).map fun x => r ++ [x]
theorem onW_all (l : List Tx) (set : Nat) (r : List Nat) : onW l set r l.length = goW l set r := rfl
theorem onW_snoc (l : List Tx) (set : Nat) (r : List Nat) (k : Nat) : onW l set r (k + 1) = if canW l set r k = true then onW l set r k ++ [r ++ [k]] else onW l set r k := by
  unfold onW
  rw [List.range_succ, List.filter_append, List.map_append]
  cases h : canW l set r k <;> simp [h]
theorem onW_le (l : List Tx) (set : Nat) (r : List Nat) {k m : Nat} (h : k ≤ m) : (onW l set r k).length ≤ (onW l set r m).length := by
  obtain ⟨d, rfl⟩ := Nat.le.dest h
  unfold onW
  rw [List.length_map, List.length_map, List.range_add, List.filter_append, List.length_append]
  omega
def allW (l : List Tx) (set : Nat) (L : List (List Nat)) (q : Nat) : List (List Nat) := (L.take q).flatMap (goW l set)
theorem allW_snoc {l : List Tx} {set : Nat} {L : List (List Nat)} {q : Nat} (h : q < L.length) : allW l set L (q + 1) = allW l set L q ++ goW l set L[q] := by
  unfold allW
  rw [List.take_succ_eq_append_getElem h, List.flatMap_append]
  simp
theorem allW_le (l : List Tx) (set : Nat) (L : List (List Nat)) (q : Nat) : (allW l set L q).length ≤ (allW l set L L.length).length := by
  unfold allW
  rw [List.take_length]
  conv => rhs; rw [← List.take_append_drop q L, List.flatMap_append, List.length_append]
  omega
theorem lvlW_next {l : List Tx} {set i : Nat} (h : set.testBit i = true) : lvlW l set (i + 1) = allW l set (lvlW l set i) (lvlW l set i).length := by
  rw [lvlW, if_pos h]
  unfold allW
  rw [List.take_length]
theorem lvlW_skip {l : List Tx} {set i : Nat} (h : set.testBit i = false) : lvlW l set (i + 1) = lvlW l set i := by
  rw [lvlW, if_neg (by rw [h]; decide)]
theorem lvlW_facts {l : List Tx} (h6 : l.length ≤ 6) (set : Nat) {i : Nat} (hi : i ≤ l.length) : (lvlW l set i).length ≤ 46656 ∧ ∀ r ∈ lvlW l set i, r.length ≤ 6 ∧ ∀ k ∈ r, k < l.length := by
  have hs : (setL i set).length ≤ 6 := setL_six (by omega)
  rw [lvlW_ext]
  refine ⟨?_, fun r hr => ?_⟩
  · have h1 := ext_len l.length (nxtW l set) (setL i set).length []
    have h2 : l.length ^ (setL i set).length ≤ 6 ^ (setL i set).length := Nat.pow_le_pow_left h6 _
    have h3 : 6 ^ (setL i set).length ≤ 6 ^ 6 := Nat.pow_le_pow_right (by decide) hs
    omega
  · obtain ⟨h1, h2, _⟩ := ext_mem hr
    exact ⟨by omega, h2⟩
theorem goW_bound {l : List Tx} (h6 : l.length ≤ 6) {set i : Nat} (hi : i < l.length) (hb : set.testBit i = true) {q : Nat} (hq : q < (lvlW l set i).length) {k : Nat} (hk : k ≤ l.length) : (allW l set (lvlW l set i) q ++ onW l set (lvlW l set i)[q] k).length ≤ 46656 := by
  have h1 := (lvlW_facts h6 set (i := i + 1) (by omega)).1
  rw [lvlW_next hb] at h1
  have h2 := allW_le l set (lvlW l set i) (q + 1)
  rw [allW_snoc hq, List.length_append] at h2
  have h4 := onW_le l set (lvlW l set i)[q] hk
  rw [onW_all] at h4
  rw [List.length_append]
  omega
end Go.Proofs.YtpjfhdljagkefaaGreatDoor.RPlain
namespace Go.Proofs.YtpjfhdljagkefaaGreatDoor
open Go.RowKit WPlain QPlain RPlain

theorem own_nil_intW {w : World} {B : Nat} (hB : B ≤ w.heap.size) : (w.alloc (.cells #[] 3)).ownsRow B 3 1 (.slice (some ⟨w.heap.size, 0, none⟩) 0 0) 0 [] :=
  World.ownsRow_made (e := 3) (size := 1) w #[] 0 hB (by unfold maxLen; omega) (by simp)
theorem cell_slice_atW (w : World) (o : Value) (t : TypeId) : ∀ j u, [o][j]? = some u → (w.alloc (.cells #[o] t)).cell? ((⟨w.heap.size, 0, none⟩ : Addr).add j) = some u := cell_one_at w o t
theorem one_slW (a : Option Addr) (n c : Nat) : ∀ u ∈ [Value.slice a n c], u.oneCell' = true := by intro u hu; simp at hu; subst hu; rfl
theorem own_nil_rowsW {w : World} {B : Nat} (hB : B ≤ w.heap.size) : (w.alloc (.cells #[] 24)).ownsRow B 24 1 (.slice (some ⟨w.heap.size, 0, none⟩) 0 0) 0 [] :=
  World.ownsRow_made (e := 24) (size := 1) w #[] 0 hB (by unfold maxLen; omega) (by simp)
theorem RowsO.atW {B : Nat} {w : World} {vs : List Value} {rows : List (List Nat)} (h : RowsO B w vs rows) {i : Nat} (hi : i < rows.length) {v : Value} (hv : vs[i]? = some v) : w.ownsRow B 3 1 v rows[i].length (nats rows[i]) := by
  have hi' : i < vs.length := by rw [h.1]; exact hi
  rw [List.getElem?_eq_getElem hi', Option.some.injEq] at hv
  rw [← hv]
  exact h.2 i hi hi'
theorem own_lessW {w : World} {B B' : Nat} {e : TypeId} {s : Nat} {v : Value} {n : Nat} {xs : List Value} (h : w.ownsRow B e s v n xs) (hB : B' ≤ B) : w.ownsRow B' e s v n xs := by
  refine ⟨h.1, ?_⟩
  rcases h.2 with h0 | ⟨g, cap, cur, h1, h2, h3⟩
  · exact .inl h0
  · exact .inr ⟨g, cap, cur, h1, Nat.le_trans hB h2, h3⟩
set_option maxRecDepth 100000 in
set_option maxHeartbeats 1000000 in
theorem refWithW_any (v : Value) (row : List Nat) (k : Nat) (w : World) (hv : Rd w v (nats row)) (hs : SrcN v) (hl : row.length ≤ 1000) :
    Calls Tryz.prog 27 #[v, .int .i64 (k : Int)] w fun e w' => ∃ v', e = .returned v' ∧ w'.ownsRow w.heap.size 3 1 v' (row.length + 1) (nats (row ++ [k])) ∧ SrcN v' ∧ Below w.heap.size w w' := by
  obtain ⟨j0, hj0, hy0, hy1', hy2'⟩ := info_parts infoN11
  have HV := Lib.hid hv
  have HS := Lib.hid hs
  obtain ⟨a, c, rfl⟩ := hv.len
  rw [nats_len] at HV HS ⊢
  have hba : Below w.heap.size w (w.alloc (.cells #[] 3)) := (Below.refl _ w).alloc (Nat.le_refl _) _
  have HBA := Lib.hid hba
  have HOA := Lib.hid (World.ownsRow_made (e := 3) (base := w.heap.size) (size := 1) w #[] 0 (Nat.le_refl _) (by unfold maxLen; omega) (by simp))
  have HNA : Hid (nats row ++ [.int .i64 (k : Int)] = nats (row ++ [k])) := by unfold Hid; simp [nats]
  clear hv hs hba
  go_enter Tryz.func27, Tryz.ntmps27
  go_wp2_with (at_builtin; refine wpList_append_srcI rfl _ _ rfl w.heap.size _ 0 [] rfl HOA.out _ row rfl (HV.out.below HBA.out (Nat.le_refl _)) HS.out (by omega) HBA.out.size ?_)
  intro v1 w1 ho1 hg1
  have hb1 := HBA.out.grown hg1 HBA.out.size (fun x hx => (HOA.out.lt x hx).1)
  have HO1 := Lib.hid ho1
  have HB1 := Lib.hid hb1
  obtain ⟨a1, c1, rfl⟩ := row_slice ho1
  clear ho1 hg1 hb1
  go_wp2_with (at_builtin; refine wpList_append_own _ rfl _ _ 24 rfl w.heap.size 3 j0 (.int .i64 0) 1 8 Tryz.underlying24 hj0 hy0 hy1' hy2' rfl (by decide) (.slice a1 row.length c1) row.length (nats row) rfl (HO1.out.alloc _) ⟨w1.heap.size, 0, none⟩ 1 1 [.int .i64 (k : Int)] rfl rfl (cell_one_at w1 _ _) (one_int _ _) (by unfold maxLen; omega) (by omega) (by have := HB1.out.size; simp; omega) ?_)
  intro v2 w2 ho2 hg2 _
  rw [HNA.out] at ho2
  have HO2 := Lib.hid ho2
  have HB2 := Lib.hid ((HB1.out.alloc HB1.out.size _).grown hg2 (by have := HB1.out.size; simp; omega) (fun x hx => (HO1.out.lt x hx).1))
  obtain ⟨a2, c2, rfl⟩ := row_slice ho2
  clear ho2 hg2
  go_wp2
  go_ret
  exact ⟨_, rfl, HO2.out, SrcN.of_row HO2.out, HB2.out⟩
theorem hasW_any (v : Value) (L : List Nat) (x : Nat) (w : World) (h : Rd w v (nats L)) (hl : L.length ≤ 65536) :
    Calls Tryz.prog 47 #[v, .int .i64 (x : Int)] w fun e w' => e = .returned (.bool (L.contains x)) ∧ w = w' := by
  rw [nats_ints] at h
  have he : (L.map fun (y : Nat) => (y : Int)).contains (x : Int) = L.contains x := by
    rw [Bool.eq_iff_iff]
    simp only [List.contains_eq_mem, List.mem_map, decide_eq_true_eq]
    exact ⟨fun ⟨y, hy, e⟩ => by rw [← Int.ofNat_inj.1 e]; exact hy, fun h => ⟨x, h, rfl⟩⟩
  rw [← he]
  exact has_any v _ _ w h (by simp; omega)
set_option maxRecDepth 100000 in
set_option maxHeartbeats 8000000 in
theorem refRowsW_any (lv : Value) (l : List Tx) (set : Nat) (w : World) (hlv : Txs w lv l) (h6 : l.length ≤ 6) (hs : set < 4294967296) :
    Calls Tryz.prog 25 #[lv, .int .u32 (set : Int)] w fun e w' => ∃ v vs, e = .returned v ∧ w'.ownsRow w.heap.size 24 1 v (rowsW l set).length vs ∧ RowsO w.heap.size w' vs (rowsW l set) ∧ Below w.heap.size w w' := by
  obtain ⟨i0, hi0, hz0, hz1, hz2⟩ := info_parts infoSl
  have HLV := Lib.hid hlv
  obtain ⟨la, lc, rfl⟩ := hlv.len
  have hsA : (w.alloc (.cells #[] 3)).heap.size = w.heap.size + 1 := by simp
  have hb0 : Below w.heap.size w ((w.alloc (.cells #[] 3)).alloc (.cells #[.slice (some ⟨w.heap.size, 0, none⟩) 0 0] 24)) := ((Below.refl _ w).alloc (Nat.le_refl _) _).alloc (by simp) _
  have hat : At ((w.alloc (.cells #[] 3)).alloc (.cells #[.slice (some ⟨w.heap.size, 0, none⟩) 0 0] 24)) (w.heap.size + 1) #[.slice (some ⟨w.heap.size, 0, none⟩) 0 0] 24 := by
    have := At.new (w.alloc (.cells #[] 3)) #[.slice (some ⟨w.heap.size, 0, none⟩) 0 0] 24
    rwa [hsA] at this
  have HO0 : Hid (∃ vs, ((w.alloc (.cells #[] 3)).alloc (.cells #[.slice (some ⟨w.heap.size, 0, none⟩) 0 0] 24)).ownsRow w.heap.size 24 1 (.slice (some ⟨w.heap.size + 1, 0, none⟩) 1 1) (lvlW l set 0).length vs ∧ RowsO w.heap.size ((w.alloc (.cells #[] 3)).alloc (.cells #[.slice (some ⟨w.heap.size, 0, none⟩) 0 0] 24)) vs (lvlW l set 0)) := by
    refine ⟨[.slice (some ⟨w.heap.size, 0, none⟩) 0 0], ⟨rfl, .inr ⟨w.heap.size + 1, 1, _, rfl, by omega, hat, Nat.le_refl _, by unfold maxLen; omega, rfl, rfl⟩⟩, rfl, fun i hi hi' => ?_⟩
    obtain rfl : i = 0 := by simp at hi'; exact hi'
    exact (own_nil_intW (Nat.le_refl w.heap.size)).alloc _
  have HB0 := Lib.hid hb0
  have HFIN : Hid (lvlW l set l.length = rowsW l set) := lvlW_rows l set
  have HLF := Lib.hid (fun (i : Nat) (hi : i ≤ l.length) => lvlW_facts h6 set hi)
  have HGB := Lib.hid (fun (i : Nat) (hi : i < l.length) (hb : set.testBit i = true) (q : Nat) (hq : q < (lvlW l set i).length) (k : Nat) (hk : k ≤ l.length) => goW_bound h6 hi hb hq hk)
  have HGE : Hid (∀ i, set.testBit i = true → allW l set (lvlW l set i) (lvlW l set i).length = lvlW l set (i + 1)) := fun i hb => (lvlW_next hb).symm
  have HGN : Hid (∀ i, set.testBit i = false → lvlW l set (i + 1) = lvlW l set i) := fun i hb => lvlW_skip hb
  have HBIT := Lib.hid (fun (k : Nat) (hk : k ≤ 65536) (W : World) => refBit9_any set k hs hk W)
  clear hlv hsA hb0 hat
  go_enter Tryz.func25, Tryz.ntmps25
  go_wp2_with fail
  go_loopw [5, 15] (fun y x wr => ∃ i : Nat, i ≤ l.length ∧ x = .int .i64 i ∧ Hid (∃ vs, wr.ownsRow w.heap.size 24 1 y (lvlW l set i).length vs ∧ RowsO w.heap.size wr vs (lvlW l set i)) ∧ Hid (Below w.heap.size w wr)) (fun _ x _ => l.length - (intOf x).toNat)
  case atStart => exact ⟨0, by omega, rfl, HO0, HB0⟩
  case round =>
    clear HO0 HB0
    obtain ⟨i, hi, rfl, HO, HB⟩ := hrel
    by_cases hlt : i < l.length
    · have hbi := HBIT.out i (by omega)
      cases hb : set.testBit i with
      | false =>
        rw [hb] at hbi
        have HO2 : Hid (∃ vs, wr.ownsRow w.heap.size 24 1 u5 (lvlW l set (i + 1)).length vs ∧ RowsO w.heap.size wr vs (lvlW l set (i + 1))) := by
          unfold Hid; rw [HGN.out i hb]; exact HO.out
        clear hb HO
        go_wp2_with (go_at_call 22; refine (hbi _).mono ?_; rintro e w3 ⟨rfl, rfl⟩)
        go_roundw
        case rel => exact ⟨i + 1, by omega, by go_num, HO2, HB⟩
        case measure => simp [intOf]; omega
      | true =>
        rw [hb] at hbi
        have HGE1 := Lib.hid (HGE.out i hb)
        have HGB1 := Lib.hid (HGB.out i hlt hb)
        have HLF1 := Lib.hid (HLF.out i hi)
        have hLl := HLF1.out.1
        obtain ⟨vs, ho, hr⟩ := HO.out
        have hba : Below wr.heap.size wr (wr.alloc (.cells #[] 24)) := (Below.refl _ wr).alloc (Nat.le_refl _) _
        have HLV0 : Hid (LvlR w.heap.size wr.heap.size w u5 vs (lvlW l set i) (.slice (some ⟨wr.heap.size, 0, none⟩) 0 0) (allW l set (lvlW l set i) 0) (wr.alloc (.cells #[] 24))) :=
          ⟨ho.kept (grownB11 hba) (by cases u5.ownBlock <;> simp), hr.below hba, ⟨[], own_nil_rowsW (Nat.le_refl _), ⟨rfl, fun i hi => by simp [allW] at hi⟩⟩, HB.out.trans (hba.mono HB.out.size), fun g hg => (ho.lt g hg).2, hba.size, HB.out.size⟩
        obtain ⟨ya, yc, hy3⟩ := row_slice ho
        subst hy3
        obtain ⟨B2, hB2⟩ : ∃ z, wr.heap.size = z := ⟨_, rfl⟩
        rw [hB2] at HLV0
        have HB2 := Lib.hid hB2
        clear HO HB ho hr hba hB2 hb
        generalize lvlW l set i = Ls at *
        go_wp2_with (go_at_call 22; refine (hbi _).mono ?_; rintro e w3 ⟨rfl, hw3⟩; have hw3 := hw3.symm; subst hw3)
        go_loopw [7, 25] (fun z x wr2 => ∃ q : Nat, q ≤ Ls.length ∧ x = .int .i64 q ∧ Hid (LvlR w.heap.size B2 w (.slice ya Ls.length yc) vs Ls z (allW l set Ls q) wr2)) (fun _ x _ => Ls.length - (intOf x).toNat)
        case atStart => exact ⟨0, by omega, rfl, by rw [HB2.out]; exact HLV0⟩
        case round =>
          clear HLV0 hbi
          obtain ⟨q, hq, rfl, HLR⟩ := hrel
          by_cases hlt2 : q < Ls.length
          · have hrd := Rd.of_row HLR.out.out
            obtain ⟨b, o, c', he, hb, hc⟩ := hrd.opened (by rw [HLR.out.rows.1]; omega)
            obtain ⟨ra, rc, hget, hown⟩ := HLR.out.rows.get hlt2
            have hcq := hc q _ hget
            simp only [Value.slice.injEq] at he
            obtain ⟨rfl, -, rfl⟩ := he
            obtain ⟨h6r, hk6⟩ := HLF1.out.2 _ (List.getElem_mem hlt2)
            have HGB2 := Lib.hid (fun k hk => HGB1.out q hlt2 k hk)
            have HGS := Lib.hid (allW_snoc (l := l) (set := set) hlt2)
            have HAT := Lib.hid (fun (W : World) (z : Value) (acc : List (List Nat)) (h : LvlR w.heap.size B2 w (.slice (some ⟨b, o, none⟩) Ls.length yc) vs Ls z acc W) => h.rows.atW hlt2 hget)
            have HLV3 : Hid (LvlR w.heap.size B2 w (.slice (some ⟨b, o, none⟩) Ls.length yc) vs Ls u7 (allW l set Ls q ++ onW l set Ls[q] 0) wr) := by
              have h0 : allW l set Ls q ++ onW l set Ls[q] 0 = allW l set Ls q := by simp [onW]
              rw [h0]
              exact HLR.out
            have hrn6 : Ls[q].length ≤ 6 := h6r
            have HK6 := Lib.hid hk6
            have HOA := Lib.hid (onW_all l set Ls[q])
            have hz4 : ∃ a n c, u7 = .slice a n c := by
              obtain ⟨us, hus, _⟩ := HLR.out.acc
              obtain ⟨a, c, h⟩ := row_slice hus
              exact ⟨_, _, _, h⟩
            clear hrd hb hc hget hown h6r hk6 HLR HLF1 HGB1
            generalize Ls[q] = r at *
            obtain ⟨z4a, z4n, z4c, hz4⟩ := hz4
            subst hz4
            go_wp2_with fail
            go_loopw [7, 31] (fun z x wr3 => ∃ k : Nat, k ≤ l.length ∧ x = .int .i64 k ∧ Hid (LvlR w.heap.size B2 w (.slice (some ⟨b, o, none⟩) Ls.length yc) vs Ls z (allW l set Ls q ++ onW l set r k) wr3)) (fun _ x _ => l.length - (intOf x).toNat)
            case atStart => exact ⟨0, by omega, rfl, HLV3⟩
            case round =>
              clear HLV3
              obtain ⟨k, hk, rfl, HLR⟩ := hrel
              by_cases hlt3 : k < l.length
              · have HGO := Lib.hid (onW_snoc l set r k)
                have hbd := HGB2.out k (by omega)
                rw [List.length_append] at hbd
                have hbk := HBIT.out k (by omega)
                have hz4 : ∃ a n c, u7 = .slice a n c := by
                  obtain ⟨us, hus, _⟩ := HLR.out.acc
                  obtain ⟨a, c, h⟩ := row_slice hus
                  exact ⟨_, _, _, h⟩
                obtain ⟨z5a, z5n, z5c, hz4⟩ := hz4
                subst hz4
                have hskip : canW l set r k = false → LvlR w.heap.size B2 w (.slice (some ⟨b, o, none⟩) Ls.length yc) vs Ls (.slice z5a z5n z5c) (allW l set Ls q ++ onW l set r (k + 1)) wr := fun hc => by
                  rw [HGO.out, if_neg (by rw [hc]; decide)]
                  exact HLR.out
                cases hb : set.testBit k with
                | false =>
                  rw [hb] at hbk
                  have HL2 := Lib.hid (hskip (by unfold canW; rw [hb]; rfl))
                  clear hb hskip HGO HLR
                  go_wp2_with (go_at_call 22; refine (hbk _).mono ?_; rintro e w3 ⟨rfl, hw3⟩; have hw3 := hw3.symm; subst hw3)
                  go_roundw
                  case rel => exact ⟨k + 1, by omega, by go_num, HL2⟩
                  case measure => simp [intOf]; omega
                | true =>
                  rw [hb] at hbk
                  have hro := HAT.out wr _ _ HLR.out
                  have hhas := hasW_any (.slice ra r.length rc) r k wr (Rd.of_row hro) (by omega)
                  cases hh : r.contains k with
                  | true =>
                    rw [hh] at hhas
                    have HL2 := Lib.hid (hskip (by unfold canW; rw [hh]; simp))
                    clear hb hh hskip HGO HLR hro
                    go_wp2_with (first
                      | (go_at_call 22; refine (hbk _).mono ?_; rintro e w3 ⟨rfl, hw3⟩; have hw3 := hw3.symm; subst hw3)
                      | (go_at_call 47; refine hhas.mono ?_; rintro e w3 ⟨rfl, hw3⟩; subst hw3))
                    go_roundw
                    case rel => exact ⟨k + 1, by omega, by go_num, HL2⟩
                    case measure => simp [intOf]; omega
                  | false =>
                    rw [hh] at hhas
                    have HWI := Lib.hid (refWithW_any (.slice ra r.length rc) r k wr (Rd.of_row hro) (SrcN.of_row hro) (by omega))
                    have hcan : canW l set r k = keepsS l ((r ++ [k]).map fun x : Nat => (x : Int)) := by unfold canW; rw [hb, hh]; rfl
                    have HCAN := Lib.hid hcan
                    clear hb hh hro hcan hskip
                    go_wp2_with (first
                      | (go_at_call 22; refine (hbk _).mono ?_; rintro e w3 ⟨rfl, hw3⟩; have hw3 := hw3.symm; subst hw3)
                      | (go_at_call 47; refine hhas.mono ?_; rintro e w3 ⟨rfl, hw3⟩; subst hw3)
                      | fail)
                    refine HWI.out.mono ?_
                    rintro e w1 ⟨v1, rfl, g1, g2, g3⟩
                    have HLW := Lib.hid (HLR.out.below g3)
                    have hlt1 := HLV.out.below HLW.out.bel (Nat.le_refl _)
                    have hrk : (r ++ [k]).length = r.length + 1 := by simp
                    obtain ⟨v1a, v1c, rfl⟩ := row_slice g1
                    have hrd1 : Rd w1 (.slice v1a (r ++ [k]).length v1c) (ints ((r ++ [k]).map fun x : Nat => (x : Int))) := by
                      rw [hrk, ← nats_ints]
                      exact Rd.of_row g1
                    have hkeep := refKeeps_any (.slice la l.length lc) v1a v1c l (r ++ [k]) w1 hlt1 hrd1 (by rw [hrk]; exact ownCap11 g1 _ _ _ rfl) (by rw [hrk]; omega) (by omega) (fun x hx => by
                      rcases List.mem_append.1 hx with hx | hx
                      · exact HK6.out x hx
                      · rw [List.mem_singleton.1 hx]; exact hlt3)
                    rw [hrk] at hkeep
                    have HKE := Lib.hid hkeep
                    clear g1 g2 g3 hlt1 hrd1 hkeep HLR HWI hrk hhas hbk
                    cases hkb : keepsS l ((r ++ [k]).map fun x : Nat => (x : Int)) with
                    | false =>
                      rw [hkb] at HKE
                      go_wp2_with fail
                      refine HKE.out.mono ?_
                      rintro e w5 ⟨rfl, z5, hw5⟩
                      have HL2 : Hid (LvlR w.heap.size B2 w (.slice (some ⟨b, o, none⟩) Ls.length yc) vs Ls (.slice z5a z5n z5c) (allW l set Ls q ++ onW l set r (k + 1)) w5) := by
                        unfold Hid
                        rw [HGO.out, if_neg (by rw [HCAN.out, hkb]; decide), hw5]
                        exact HLW.out.below (below_drN (Below.refl _ w1) z5)
                      clear hkb hw5 HGO HLW HKE
                      go_wp2
                      go_roundw
                      case rel => exact ⟨k + 1, by omega, by go_num, HL2⟩
                      case measure => simp [intOf]; omega
                    | true =>
                      rw [hkb] at HKE
                      have HGO2 : Hid (allW l set Ls q ++ onW l set r (k + 1) = allW l set Ls q ++ onW l set r k ++ [r ++ [k]]) := by
                        unfold Hid
                        rw [HGO.out, if_pos (by rw [HCAN.out]; exact hkb), List.append_assoc]
                      clear hkb HGO HCAN
                      go_wp2_with fail
                      refine HKE.out.mono ?_
                      rintro e w5 ⟨rfl, z5, hw5⟩
                      have hlw5 : LvlR w.heap.size B2 w (.slice (some ⟨b, o, none⟩) Ls.length yc) vs Ls (.slice z5a z5n z5c) (allW l set Ls q ++ onW l set r k) w5 := by
                        rw [hw5]
                        exact HLW.out.below (below_drN (Below.refl _ w1) z5)
                      have hro5 := HAT.out w5 _ _ hlw5
                      have HWI2 := Lib.hid (refWithW_any (.slice ra r.length rc) r k w5 (Rd.of_row hro5) (SrcN.of_row hro5) (by omega))
                      have HLW5 := Lib.hid hlw5
                      clear hlw5 hro5 HLW hw5 HKE
                      go_wp2_with fail
                      refine HWI2.out.mono ?_
                      rintro e w7 ⟨v2, rfl, g1, g2, g3⟩
                      have hlw := HLW5.out.below g3
                      have hal2 := ((Below.refl w7.heap.size w7).alloc (Nat.le_refl _))
                      obtain ⟨v2a, v2c, rfl⟩ := row_slice g1
                      have HLA := Lib.hid (hlw.below (hal2 (.cells #[.slice v2a (r.length + 1) v2c] 24)))
                      have hrk : (r ++ [k]).length = r.length + 1 := by simp
                      have HOB := Lib.hid (own_lessW (g1.alloc (.cells #[.slice v2a (r.length + 1) v2c] 24)) HLW5.out.bel.size)
                      obtain ⟨us, hus, hrs⟩ := HLA.out.acc
                      have hacc : (allW l set Ls q ++ onW l set r k).length ≤ 46656 := by rw [List.length_append]; exact hbd
                      have HUS := Lib.hid hus
                      have HRS := Lib.hid hrs
                      have HTOP := Lib.hid HLA.out.top
                      clear hus hrs hlw hal2 g1 g2 g3 HLW5 HWI2 hbd
                      obtain ⟨acc, hac⟩ : ∃ z, allW l set Ls q ++ onW l set r k = z := ⟨_, rfl⟩
                      rw [hac] at HUS HRS HLA HGO2 hacc
                      clear hac
                      go_wp2_with (at_builtin; refine wpList_append_own _ rfl _ _ 62 rfl B2 24 i0 (.slice none 0 0) 1 24 Tryz.underlying62 hi0 hz0 hz1 hz2 rfl (by decide) (.slice z5a z5n z5c) acc.length us rfl HUS.out ⟨w7.heap.size, 0, none⟩ 1 1 [.slice v2a (r.length + 1) v2c] rfl rfl (cell_slice_atW w7 _ _) (one_slW _ _ _) (by unfold maxLen; omega) (by omega) HTOP.out ?_; intro v4 w4 ho4 hg4 _)
                      have hp := LvlR.push (r := r ++ [k]) HLA.out (by rw [hrk]; exact HOB.out) HUS.out HRS.out ho4 hg4
                      rw [← HGO2.out] at hp
                      have HP := Lib.hid hp
                      clear hp ho4 hg4 hrk
                      go_wp2
                      go_roundw
                      case rel => exact ⟨k + 1, by omega, by go_num, HP⟩
                      case measure => simp [intOf]; omega
              · obtain rfl : k = l.length := by omega
                have HLV4 : Hid (LvlR w.heap.size B2 w (.slice (some ⟨b, o, none⟩) Ls.length yc) vs Ls u7 (allW l set Ls (q + 1)) wr) := by
                  unfold Hid
                  rw [HGS.out, ← HOA.out]
                  exact HLR.out
                have hz4 : ∃ a n c, u7 = .slice a n c := by
                  obtain ⟨us, hus, _⟩ := HLR.out.acc
                  obtain ⟨a, c, h⟩ := row_slice hus
                  exact ⟨_, _, _, h⟩
                obtain ⟨z5a, z5n, z5c, hz4⟩ := hz4
                subst hz4
                clear HLR
                go_wp2_with fail
                go_roundw
                case rel => exact ⟨q + 1, by omega, by go_num, HLV4⟩
                case measure => simp [intOf]; omega
          · obtain rfl : q = Ls.length := by omega
            obtain ⟨us, hus, hrs⟩ := HLR.out.acc
            have HO2 : Hid (∃ vs, wr.ownsRow w.heap.size 24 1 u7 (lvlW l set (i + 1)).length vs ∧ RowsO w.heap.size wr vs (lvlW l set (i + 1))) := by
              have h1 := own_lessW hus HLR.out.base
              rw [HGE1.out] at h1 hrs
              refine ⟨us, h1, hrs⟩
            have HBF := Lib.hid HLR.out.bel
            obtain ⟨za, zc, hz4⟩ := row_slice hus
            subst hz4
            clear hus hrs HLR
            go_wp2_with fail
            go_roundw
            case rel => exact ⟨i + 1, by omega, by go_num, HO2, HBF⟩
            case measure => simp [intOf]; omega
    · obtain rfl : i = l.length := by omega
      obtain ⟨vs, ho, hr⟩ := HO.out
      rw [HFIN.out] at ho hr
      have HO1 := Lib.hid ho
      have HR1 := Lib.hid hr
      obtain ⟨ya, yc, hy3⟩ := row_slice ho
      subst hy3
      clear HO ho hr HLF HGB HGE HGN
      go_wp2_with fail
      go_ret
      exact ⟨_, vs, rfl, HO1.out, HR1.out, HB.out⟩
end Go.Proofs.YtpjfhdljagkefaaGreatDoor
