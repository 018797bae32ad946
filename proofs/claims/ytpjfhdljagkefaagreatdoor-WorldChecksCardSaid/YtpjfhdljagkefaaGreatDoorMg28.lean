/- Merged: WorW, WorX. -/
import Derived.Test.YtpjfhdljagkefaaGreatDoorMg24
import Derived.Test.YtpjfhdljagkefaaGreatDoorMg21
import Derived.Test.YtpjfhdljagkefaaGreatDoorMg26
/- The walk of recantref15's choice. -/
namespace Go.Proofs.YtpjfhdljagkefaaGreatDoor.WPlain
end Go.Proofs.YtpjfhdljagkefaaGreatDoor.WPlain
namespace Go.Proofs.YtpjfhdljagkefaaGreatDoor.QPlain
end Go.Proofs.YtpjfhdljagkefaaGreatDoor.QPlain
namespace Go.Proofs.YtpjfhdljagkefaaGreatDoor.RPlain
end Go.Proofs.YtpjfhdljagkefaaGreatDoor.RPlain
namespace Go.Proofs.YtpjfhdljagkefaaGreatDoor.RPlain
open WPlain QPlain
theorem ownW_def {B : Nat} {l : List Tx} {c t s : Nat} (hc : c.testBit t = false) (r : List Nat) :
    ownG B l c (t :: r) s = if (oneS B l t c s).1 ≠ 0 then ((oneS B l t c s).1, [], (oneS B l t c s).2.2.2)
      else joinO [((oneS B l t c s).2.1, (oneS B l t c s).2.2.1, (oneS B l t c s).2.2.2 - s)] (ownG B l c r (oneS B l t c s).2.2.2) := by
  rw [ownG, if_neg (by rw [hc]; decide)]
  unfold joinO
  rfl
theorem one_range {B s : Nat} {l : List Tx} {t c : Nat} (hs : s ≤ B) : ((oneS B l t c s).1 = 0 ∨ (oneS B l t c s).1 = 1 ∨ (oneS B l t c s).1 = 2) ∧ s ≤ (oneS B l t c s).2.2.2 ∧ (oneS B l t c s).2.2.2 ≤ B := by
  obtain ⟨h1, h2, h3, _⟩ := one_tells (B := B) (l := l) (t := t) (c := c) (pairsW l t c) s hs
  exact ⟨h1, h2, h3⟩
end Go.Proofs.YtpjfhdljagkefaaGreatDoor.RPlain
namespace Go.Proofs.YtpjfhdljagkefaaGreatDoor
open Go.RowKit WPlain QPlain RPlain

set_option maxRecDepth 100000 in
set_option maxHeartbeats 8000000 in
theorem refChoiceW_any (h : List Ev) (h0 : (checkS h).2 = 0) (lv : Value) (c B s0 : Nat) (w : World) (hlv : Txs w lv (tableS h)) (hol : ∀ i, (opsAt (tableS h) i).length ≤ 60) (hcl : c < 2 ^ (tableS h).length) (hB : B ≤ 1000000) (hs0 : s0 ≤ B) :
    Calls Tryz.prog 33 #[lv, .int .u32 (c : Int), .int .i64 (B : Int), .int .i64 (s0 : Int)] w fun e w' => ∃ rv ov, e = .returned (wldV (choiceW B (tableS h) c s0).1 (if (choiceW B (tableS h) c s0).1 = 0 then c else 0) rv ov (choiceW B (tableS h) c s0).2.2.2) ∧
      RdX (fun k => k < w.heap.size) w' rv (nats (choiceW B (tableS h) c s0).2.1) ∧ FOwnS (fun k => k < w.heap.size) w.heap.size w' ov ((choiceW B (tableS h) c s0).2.2.1.map toFd) ∧ Below w.heap.size w w' := by
  have h6 := table_six h0
  obtain ⟨w1, hw1⟩ : ∃ w1, w.alloc (.cells #[.int .i64 0, .int .u32 0, .slice none 0 0, .slice none 0 0, .int .i64 0] 40) = w1 := ⟨_, rfl⟩
  have HB1 : Hid (Below w.heap.size w w1) := by
    rw [← hw1]
    exact (Below.refl _ w).alloc (Nat.le_refl _) _
  obtain ⟨N, hN⟩ : ∃ N, w.heap.size = N := ⟨_, rfl⟩
  have HA1 : Hid (At w1 N (wldA 0 0 (.slice none 0 0) (.slice none 0 0) 0) 40) := by
    rw [← hw1, ← hN]
    exact At.new w _ _
  have hN1 : N < w1.heap.size := HA1.out.lt
  have hs1 : w1.heap.size = N + 1 := by rw [← hw1, ← hN]; simp
  obtain ⟨wa, hwa⟩ : ∃ wa, w1.alloc (.cells #[] 3) = wa := ⟨_, rfl⟩
  have hba : Below w1.heap.size w1 wa := by rw [← hwa]; exact (Below.refl _ w1).alloc (Nat.le_refl _) _
  have hsa : wa.heap.size = N + 2 := by rw [← hwa]; simp; omega
  have hb0a : Below w.heap.size w wa := HB1.out.trans (hba.mono HB1.out.size)
  have h64 := Nat.lt_of_lt_of_le hcl (pow_le_64 h6)
  have hc32 : c < 4294967296 := by omega
  have HFR := Lib.hid (refFrom_any h h0 w lv c c B hlv hcl hc32 hB hol ((tableS h).length + 1) (fun k => k < w1.heap.size) [] s0 (.slice (some ⟨w1.heap.size, 0, none⟩) 0 0) wa (fun k hk => Nat.lt_of_lt_of_le hk hba.size) hb0a
    (.inl ⟨rfl, _, _, rfl⟩) (.inr ⟨_, _, _, rfl⟩) (fun a n c he => by simp only [Value.slice.injEq] at he; omega) List.nodup_nil (by simp) hs0 (by have := left_le (tableS h) c []; omega))
  have HAN := Lib.hid (from_ans (B := B) (l := tableS h) (who := c) (c := c) ((tableS h).length + 1) [] s0 hs0 (by have := left_le (tableS h) c []; omega))
  have hst : choiceW B (tableS h) c s0 = if (fromS B (tableS h) c c ((tableS h).length + 1) [] s0).1 ≠ 0 then ((fromS B (tableS h) c c ((tableS h).length + 1) [] s0).1, [], [], (fromS B (tableS h) c c ((tableS h).length + 1) [] s0).2.2)
    else if (ownG B (tableS h) c (List.range (tableS h).length) (fromS B (tableS h) c c ((tableS h).length + 1) [] s0).2.2).1 ≠ 0 then ((ownG B (tableS h) c (List.range (tableS h).length) (fromS B (tableS h) c c ((tableS h).length + 1) [] s0).2.2).1, [], [], (ownG B (tableS h) c (List.range (tableS h).length) (fromS B (tableS h) c c ((tableS h).length + 1) [] s0).2.2).2.2)
    else (0, (fromS B (tableS h) c c ((tableS h).length + 1) [] s0).2.1, (ownG B (tableS h) c (List.range (tableS h).length) (fromS B (tableS h) c c ((tableS h).length + 1) [] s0).2.2).2) := rfl
  obtain ⟨X, hX⟩ : ∃ X, choiceW B (tableS h) c s0 = X := ⟨_, rfl⟩
  rw [hX] at hst ⊢
  obtain ⟨cx, hcx⟩ : ∃ z, (if X.1 = 0 then c else 0) = z := ⟨_, rfl⟩
  rw [hcx]
  have HCX := Lib.hid hcx
  clear hcx
  obtain ⟨x, hx⟩ : ∃ x, fromS B (tableS h) c c ((tableS h).length + 1) [] s0 = x := ⟨_, rfl⟩
  rw [hx] at hst HFR HAN
  have HX := Lib.hid hst
  unfold gC refX fndV at HFR
  obtain ⟨cy, hcy⟩ : ∃ cy, (if x.1 = 0 then c else 0) = cy := ⟨_, rfl⟩
  rw [hcy] at HFR
  have HV := Lib.hid hlv
  have HONE := Lib.hid (fun (t : Nat) (ht : t < (tableS h).length) (s : Nat) (hs : s ≤ B) (W : World) (hb : Below w.heap.size w W) => refOneW_any lv (tableS h) t c B s W (hlv.below hb (Nat.le_refl _)) h6 hol ht hcl hB hs)
  have hBIT := fun (k : Nat) (hk : k ≤ 65536) (W : World) => refBit9_any c k hc32 hk W
  have HBIT := Lib.hid hBIT
  obtain ⟨la, lc, rfl⟩ := hlv.len
  have hxa := HAN.out
  have hx22 : x.2.2 ≤ B := hxa.le
  have HS1 := Lib.hid hs1
  have HSA := Lib.hid hsa
  clear hX hx hst hcy hlv hb0a hba hBIT hxa hol h0 hs1 hsa
  go_enter Tryz.func33, Tryz.ntmps33
  go_wp2_with fail
  refine HFR.out.mono ?_
  rintro e w2 ⟨rv, rfl, hr2, hb2⟩
  obtain ⟨ra, rc, rfl⟩ := hr2.rd.len
  obtain ⟨M, hM⟩ : ∃ M, w2.heap.size = M := ⟨_, rfl⟩
  obtain ⟨rn, hrn⟩ : ∃ z, (nats x.2.1).length = z := ⟨_, rfl⟩
  rw [hrn] at hr2 ⊢
  obtain ⟨w3, hw3⟩ : ∃ w3, w2.alloc (.cells #[.int .i64 (x.1 : Int), .int .u32 (cy : Int), .slice ra rn rc, .int .i64 (x.2.2 : Int)] 26) = w3 := ⟨_, rfl⟩
  have HB3 : Hid (Below w1.heap.size w1 w3) := by
    rw [← hw3]
    have h1 : Below w1.heap.size w1 wa := by rw [← hwa]; exact (Below.refl _ w1).alloc (Nat.le_refl _) _
    exact (h1.trans (hb2.mono h1.size)).alloc (by have := hb2.size; have := h1.size; omega) _
  have HF3 : Hid (At w3 M #[.int .i64 (x.1 : Int), .int .u32 (cy : Int), .slice ra rn rc, .int .i64 (x.2.2 : Int)] 26) := by
    rw [← hw3, ← hM]
    exact At.new w2 _ _
  have HR3 : Hid (RdX (fun k => k < w1.heap.size) w3 (.slice ra rn rc) (nats x.2.1)) := by
    rw [← hw3]
    exact hr2.below ((Below.refl w2.heap.size w2).alloc (Nat.le_refl _) _)
  have hM3 : w3.heap.size = M + 1 := by rw [← hw3, ← hM]; simp
  have hs1 : w1.heap.size = N + 1 := HS1.out
  have hM1 : N + 2 ≤ M := by rw [← hM, ← HSA.out]; exact hb2.size
  have q0 : w3.cell? ⟨M, 0, none⟩ = some (.int .i64 (x.1 : Int)) := HF3.out.cell rfl
  have q3 : w3.cell? ⟨M, 3, none⟩ = some (.int .i64 (x.2.2 : Int)) := HF3.out.cell rfl
  have HA3 := Lib.hid (HA1.out.below HB3.out hN1)
  have HB03 : Hid (Below N w w3) := by
    have := HB1.out.trans (HB3.out.mono HB1.out.size)
    rwa [hN] at this
  clear hr2 hb2 HFR hrn hwa
  by_cases hv : x.1 = 0
  · have hXe := HX.out
    rw [if_neg (show ¬ x.1 ≠ 0 by omega)] at hXe
    have HXE := Lib.hid hXe
    clear hXe
    have hvz : (x.1 : Int) = 0 := by omega
    rw [hvz] at hw3 HF3 q0
    obtain ⟨TT, hTT⟩ : ∃ TT, ownG B (tableS h) c (List.range (tableS h).length) x.2.2 = TT := ⟨_, rfl⟩
    have HT0 : Hid (joinO [] (ownG B (tableS h) c ((List.range (tableS h).length).drop 0) x.2.2) = TT) := by
      unfold Hid
      rw [List.drop_zero, joinO_nil]
      exact hTT
    unfold Hid at HXE
    rw [hTT] at HXE
    have HXE2 := Lib.hid HXE
    have HO0 : Hid (FOwnS (fun k => k < w1.heap.size) (M + 1) (w3.alloc (.cells #[] 26)) (.slice (some ⟨M + 1, 0, none⟩) 0 0) (([] : List (Nat × List Nat × Nat)).map toFd)) := by
      refine ⟨[], rfl, ?_, fun _ h => by cases h⟩
      have := World.ownsRow_made (size := 4) (e := 26) (base := M + 1) w3 #[] 0 (by omega) (by unfold maxLen; omega) rfl
      rw [hM3] at this
      exact this
    have HB33 : Hid (Below (M + 1) w3 (w3.alloc (.cells #[] 26))) := by rw [← hM3]; exact (Below.refl _ w3).alloc (Nat.le_refl _) _
    clear HXE hTT
    have HNX : Hid (∀ i (hi : i < (tableS h).length) s, c.testBit i = false → ownG B (tableS h) c ((List.range (tableS h).length).drop i) s = if (oneS B (tableS h) i c s).1 ≠ 0 then ((oneS B (tableS h) i c s).1, [], (oneS B (tableS h) i c s).2.2.2)
      else joinO [((oneS B (tableS h) i c s).2.1, (oneS B (tableS h) i c s).2.2.1, (oneS B (tableS h) i c s).2.2.2 - s)] (ownG B (tableS h) c ((List.range (tableS h).length).drop (i + 1)) (oneS B (tableS h) i c s).2.2.2)) := fun i hi s hb => by
      rw [List.drop_eq_getElem_cons (by rw [List.length_range]; exact hi), List.getElem_range]
      exact ownW_def hb _
    have HSK : Hid (∀ i (hi : i < (tableS h).length) s, c.testBit i = true → ownG B (tableS h) c ((List.range (tableS h).length).drop i) s = ownG B (tableS h) c ((List.range (tableS h).length).drop (i + 1)) s) := fun i hi s hb => by
      rw [List.drop_eq_getElem_cons (by rw [List.length_range]; exact hi), List.getElem_range]
      exact ownW_skip hb _
    have HEND : Hid (∀ s, ownG B (tableS h) c ((List.range (tableS h).length).drop (tableS h).length) s = (0, [], s)) := fun s => by
      rw [List.drop_eq_nil_of_le (by rw [List.length_range]; exact Nat.le_refl _)]
      rfl
    have e3 : (w3.alloc (.cells #[] 26)).cell? ⟨M, 3, none⟩ = some (.int .i64 (x.2.2 : Int)) := (HF3.out.alloc _).cell rfl
    clear HA1 q3
    go_wp2_with fail
    go_loopw [3, 10, 35] (fun y ov z wr => ∃ (i s : Nat) (acc : List (Nat × List Nat × Nat)), i ≤ (tableS h).length ∧ z = .int .i64 (i : Int) ∧ y = .int .i64 (s : Int) ∧ s ≤ B ∧ acc.length ≤ i ∧ Hid (joinO acc (ownG B (tableS h) c ((List.range (tableS h).length).drop i) s) = TT) ∧ Hid (FOwnS (fun k => k < w1.heap.size) (M + 1) wr ov (acc.map toFd)) ∧ Hid (Below (M + 1) w3 wr))
      (fun _ _ z _ => (tableS h).length - (intOf z).toNat)
    case atStart => exact ⟨0, x.2.2, [], by omega, rfl, rfl, hx22, Nat.le_refl _, HT0, HO0, HB33⟩
    case round =>
      clear HT0 HO0 HB33 q0 e3
      obtain ⟨i, s, acc, hi, rfl, rfl, hs, hac, HT, HO, HB⟩ := hrel
      have HBW : Hid (Below N w wr) := HB03.out.trans (HB.out.mono (by omega))
      by_cases hlt : i < (tableS h).length
      · have hbk := HBIT.out i (by omega)
        cases hb : c.testBit i with
        | true =>
          rw [hb] at hbk
          have HT2 : Hid (joinO acc (ownG B (tableS h) c ((List.range (tableS h).length).drop (i + 1)) s) = TT) := by
            unfold Hid; rw [← HSK.out i hlt s hb]; exact HT.out
          clear hb HT
          go_wp2_with (go_at_call 22; refine (hbk _).mono ?_; rintro e w4 ⟨rfl, hw4⟩; have hw4 := hw4.symm; subst hw4)
          go_roundw
          case rel => exact ⟨i + 1, s, acc, by omega, by go_num, rfl, hs, by omega, HT2, HO, HB⟩
          case measure => simp [intOf]; omega
        | false =>
          rw [hb] at hbk
          have hnx := HNX.out i hlt s hb
          have HTT := HT.out
          rw [hnx] at HTT
          have HTT2 := Lib.hid HTT
          obtain ⟨hb1, hb2, hb3⟩ := one_range (B := B) (s := s) (l := tableS h) (t := i) (c := c) hs
          obtain ⟨oa, oc, rfl⟩ := HO.out.fds.len
          have hone := HONE.out i hlt s hs wr (by rw [hN]; exact HBW.out)
          obtain ⟨o1, ho1⟩ : ∃ o1, oneS B (tableS h) i c s = o1 := ⟨_, rfl⟩
          rw [ho1] at hone HTT2 hb1 hb2 hb3
          unfold fndV at hone
          have hacl : (acc.map toFd).length = acc.length := List.length_map _
          have HSE := Lib.hid hone
          clear hb HT hnx HTT ho1 hone hacl
          go_wp2_with (first | (go_at_call 22; refine (hbk _).mono ?_; rintro e w4 ⟨rfl, hw4⟩; have hw4 := hw4.symm; subst hw4) | fail)
          refine HSE.out.mono ?_
          rintro e w4 ⟨rv4, rfl, hr4, hcv4, hsn4, hb4⟩
          obtain ⟨ra4, rc4, rfl⟩ := hr4.rd.len
          obtain ⟨M5, hM5⟩ : ∃ M5, w4.heap.size = M5 := ⟨_, rfl⟩
          obtain ⟨rn4, hrn4⟩ : ∃ z, (nats o1.2.2.1).length = z := ⟨_, rfl⟩
          obtain ⟨w5, hw5⟩ : ∃ w5, w4.alloc (.cells #[.int .i64 (o1.1 : Int), .int .u32 (o1.2.1 : Int), .slice ra4 rn4 rc4, .int .i64 (o1.2.2.2 : Int)] 26) = w5 := ⟨_, rfl⟩
          rw [hrn4] at hr4 hcv4 hsn4 ⊢
          have hb5 : Below w4.heap.size w4 w5 := by
            rw [← hw5]
            exact (Below.refl w4.heap.size w4).alloc (Nat.le_refl _) _
          have HF5 : Hid (At w5 M5 #[.int .i64 (o1.1 : Int), .int .u32 (o1.2.1 : Int), .slice ra4 rn4 rc4, .int .i64 (o1.2.2.2 : Int)] 26) := by
            rw [← hw5, ← hM5]
            exact At.new w4 _ _
          have hbr5 : Below wr.heap.size wr w5 := hb4.trans (hb5.mono hb4.size)
          have hwrs : M + 1 ≤ wr.heap.size := by rw [← hM3]; exact HB.out.size
          have hM5s : wr.heap.size ≤ M5 := by rw [← hM5]; exact hb4.size
          have HB5 : Hid (Below (M + 1) w3 w5) := HB.out.trans (hbr5.mono hwrs)
          have HB45 : Hid (Below M5 w4 w5) := by rw [← hM5]; exact hb5
          have HR4 := Lib.hid (hr4.less (Y := fun k => k < w1.heap.size ∨ (Value.slice oa (acc.map toFd).length oc).ownBlock = some k) (fun k hk => by
            rcases hk with hk | hk
            · show k < _; omega
            · exact (HO.out.top hk).2))
          have HCV5 := Lib.hid hcv4
          have HSN5 := Lib.hid hsn4
          have HO4 := Lib.hid (HO.out.later hb4)
          have q0 : w5.cell? ⟨M5, 0, none⟩ = some (.int .i64 (o1.1 : Int)) := HF5.out.cell rfl
          have q1 : w5.cell? ⟨M5, 1, none⟩ = some (.int .u32 (o1.2.1 : Int)) := HF5.out.cell rfl
          have q2 : w5.cell? ⟨M5, 2, none⟩ = some (.slice ra4 rn4 rc4) := HF5.out.cell rfl
          have q3 : w5.cell? ⟨M5, 3, none⟩ = some (.int .i64 (o1.2.2.2 : Int)) := HF5.out.cell rfl
          clear hr4 hcv4 hsn4 hb4 hb5 hbr5 HSE HO HB hrn4
          by_cases hv1 : o1.1 = 0
          · have HT2 := HTT2.out
            rw [if_neg (show ¬ o1.1 ≠ 0 by omega), joinO_join] at HT2
            have HT3 := Lib.hid HT2
            have hvz1 : (o1.1 : Int) = 0 := by omega
            rw [hvz1] at hw5 HF5 q0
            clear HT2 HTT2
            have u3 : w5.frozen? ⟨M5, 3, none⟩ = false := HF5.out.free 3
            obtain ⟨df, hdf⟩ : ∃ df, o1.2.2.2 - s = df := ⟨_, rfl⟩
            rw [hdf] at HT3
            have hdfi : (o1.2.2.2 : Int) - (s : Int) = (df : Int) := by omega
            have hdfb : df ≤ B := by omega
            go_upto_region 16 with fail
            have HF6 : Hid (At (w5.setCell ⟨M5, 3, none⟩ (.int .i64 (df : Int))) M5 #[.int .i64 0, .int .u32 (o1.2.1 : Int), .slice ra4 rn4 rc4, .int .i64 (df : Int)] 26) := HF5.out.set 3 _
            have HB46 : Hid (Below w4.heap.size w4 (w5.setCell ⟨M5, 3, none⟩ (.int .i64 (df : Int)))) := by
              rw [← hM5] at HB45 ⊢
              exact HB45.out.setCell (Nat.le_refl _) _
            have HB6 : Hid (Below (M + 1) w3 (w5.setCell ⟨M5, 3, none⟩ (.int .i64 (df : Int)))) := HB5.out.setCell (by dsimp only; omega) _
            generalize w5.setCell ⟨M5, 3, none⟩ (.int .i64 (df : Int)) = w6 at *
            clear q0 q1 q2 q3 u3
            have q0 : w6.cell? ⟨M5, 0, none⟩ = some (.int .i64 0) := HF6.out.cell rfl
            have q1 : w6.cell? ⟨M5, 1, none⟩ = some (.int .u32 (o1.2.1 : Int)) := HF6.out.cell rfl
            have q2 : w6.cell? ⟨M5, 2, none⟩ = some (.slice ra4 rn4 rc4) := HF6.out.cell rfl
            have q3 : w6.cell? ⟨M5, 3, none⟩ = some (.int .i64 (df : Int)) := HF6.out.cell rfl
            obtain ⟨j0, hj0, hy0, hy1', hy2'⟩ := info_parts infoFd
            obtain ⟨ps, hpe, hpr, hpq⟩ := HO4.out.later HB46.out
            have hpl : ps.length = acc.length := by rw [← List.length_map (f := fun p : Fd × Value => p.1), hpe, List.length_map]
            have hol : (acc.map toFd).length = ps.length := by rw [List.length_map, hpl]
            have hr6 := HR4.out.below HB46.out
            rw [hol] at hpr hpq hr6
            rw [← hpl]
            have HPE := Lib.hid hpe
            have hal := At.new w6 #[.int .i64 0, .int .u32 (o1.2.1 : Int), .slice ra4 rn4 rc4, .int .i64 (df : Int)] 26
            have hba : Below w6.heap.size w6 (w6.alloc (.cells #[.int .i64 0, .int .u32 (o1.2.1 : Int), .slice ra4 rn4 rc4, .int .i64 (df : Int)] 26)) := (Below.refl _ w6).alloc (Nat.le_refl _) _
            have HPQ : Hid (∀ p ∈ ps, RdX (fun k => k < w1.heap.size ∨ (Value.slice oa ps.length oc).ownBlock = some k) (w6.alloc (.cells #[.int .i64 0, .int .u32 (o1.2.1 : Int), .slice ra4 rn4 rc4, .int .i64 (df : Int)] 26)) p.2 (ints p.1.r) ∧ SrcN p.2 ∧ CapV p.2) := fun p hp => ⟨(hpq p hp).1.below hba, (hpq p hp).2⟩
            have hro : RdX (fun k => k < w1.heap.size ∨ (Value.slice oa ps.length oc).ownBlock = some k) (w6.alloc (.cells #[.int .i64 0, .int .u32 (o1.2.1 : Int), .slice ra4 rn4 rc4, .int .i64 (df : Int)] 26)) (.slice ra4 rn4 rc4) (ints (toFd (o1.2.1, o1.2.2.1, df)).r) := by
              rw [toFd_row]
              exact hr6.below hba
            have HRO := Lib.hid hro
            have HPR := Lib.hid hpr
            have HAL := Lib.hid hal
            have hw6s : M + 1 ≤ w6.heap.size := by rw [← hM3]; exact HB6.out.size
            have hpn : ps.length ≤ 6 := by omega
            have HBA := Lib.hid hba
            have HONE6 : Hid (∀ u ∈ fdC (toFd (o1.2.1, o1.2.2.1, df), .slice ra4 rn4 rc4), u.oneCell' = true) := by
              intro u hu
              simp only [fdC, List.mem_cons, List.not_mem_nil, or_false] at hu
              rcases hu with rfl | rfl | rfl | rfl <;> rfl
            have hal2 : (acc ++ [(o1.2.1, o1.2.2.1, df)]).map toFd = ps.map (·.1) ++ [toFd (o1.2.1, o1.2.2.1, df)] := by rw [List.map_append, HPE.out]; rfl
            have HAL2 := Lib.hid hal2
            clear hpe hpr hpq hol hal hba hro hal2 HO4 hpl hr6
            go_wp2_with (at_builtin; refine wpList_append_apart _ rfl _ _ 38 rfl (M + 1) 26 j0 _ 4 48 Tryz.underlying38 hj0 hy0 hy1' hy2' rfl (by decide) (.slice oa ps.length oc) ps.length (ps.flatMap fdC) rfl (HPR.out.alloc _) ⟨w6.heap.size, 0, none⟩ 1 1 (fdC (toFd (o1.2.1, o1.2.2.1, df), .slice ra4 rn4 rc4)) rfl rfl (cells_at HAL.out) HONE6.out (by unfold maxLen; omega) (by omega) (by simp; omega) ?_)
            intro v7 w7 ho7 hg7 hl7
            have hadd := FOwnS.add (S := fun k => k < w1.heap.size) (B := M + 1) HPQ.out ⟨HRO.out, HSN5.out, HCV5.out⟩ ho7 hg7 hl7
            have HB7 : Hid (Below (M + 1) w3 w7) := (HB6.out.trans (HBA.out.mono hw6s)).grown hg7 (by have := HB6.out.size; simp; omega) (fun k hk => (HPR.out.lt k hk).1)
            rw [← HAL2.out] at hadd
            have HADD := Lib.hid hadd
            obtain ⟨va7, vc7, rfl⟩ := row_slice ho7
            clear ho7 hg7 hl7 hadd q0 q1 q2 q3
            go_wp2
            go_roundw
            case rel => exact ⟨i + 1, o1.2.2.2, acc ++ [(o1.2.1, o1.2.2.1, df)], by omega, by go_num, rfl, hb3, by rw [List.length_append, List.length_singleton]; omega, HT3, HADD, HB7⟩
            case measure => simp [intOf]; omega
          · have HT2 := HTT2.out
            rw [if_pos hv1] at HT2
            have HT3 := Lib.hid HT2
            have tv1 : ((o1.1 : Int) != 0) = true := by simp; omega
            clear HT2 HTT2
            have HA5 := Lib.hid (HA3.out.below HB5.out (by omega))
            have r0 : w5.cell? ⟨N, 0, none⟩ = some (.int .i64 0) := HA5.out.cell rfl
            have r1 : w5.cell? ⟨N, 1, none⟩ = some (.int .u32 0) := HA5.out.cell rfl
            have r2 : w5.cell? ⟨N, 2, none⟩ = some (.slice none 0 0) := HA5.out.cell rfl
            have r3 : w5.cell? ⟨N, 3, none⟩ = some (.slice none 0 0) := HA5.out.cell rfl
            have r4 : w5.cell? ⟨N, 4, none⟩ = some (.int .i64 0) := HA5.out.cell rfl
            have f0 : w5.frozen? ⟨N, 0, none⟩ = false := HA5.out.free 0
            have f1 : w5.frozen? ⟨N, 1, none⟩ = false := HA5.out.free 1
            have f2 : w5.frozen? ⟨N, 2, none⟩ = false := HA5.out.free 2
            have f3 : w5.frozen? ⟨N, 3, none⟩ = false := HA5.out.free 3
            have f4 : w5.frozen? ⟨N, 4, none⟩ = false := HA5.out.free 4
            go_wp2_with fail
            have HZ7 := Lib.hid (wld_set HA5.out (.int .i64 (o1.1 : Int)) (.int .u32 0) (.slice none 0 0) (.slice none 0 0) (.int .i64 (o1.2.2.2 : Int)))
            have HO7 := Lib.hid (wld_only w5 N (.int .i64 (o1.1 : Int)) (.int .u32 0) (.slice none 0 0) (.slice none 0 0) (.int .i64 (o1.2.2.2 : Int)))
            generalize (((((w5.setCell ⟨N, 0, none⟩ (.int .i64 (o1.1 : Int))).setCell ⟨N, 1, none⟩ (.int .u32 0)).setCell ⟨N, 2, none⟩ (.slice none 0 0)).setCell ⟨N, 3, none⟩ (.slice none 0 0)).setCell ⟨N, 4, none⟩ (.int .i64 (o1.2.2.2 : Int))) = w7 at *
            clear r0 r1 r2 r3 r4 f0 f1 f2 f3 f4
            have r0 : w7.cell? ⟨N, 0, none⟩ = some (.int .i64 (o1.1 : Int)) := HZ7.out.cell rfl
            have r1 : w7.cell? ⟨N, 1, none⟩ = some (.int .u32 0) := HZ7.out.cell rfl
            have r2 : w7.cell? ⟨N, 2, none⟩ = some (.slice none 0 0) := HZ7.out.cell rfl
            have r3 : w7.cell? ⟨N, 3, none⟩ = some (.slice none 0 0) := HZ7.out.cell rfl
            have r4 : w7.cell? ⟨N, 4, none⟩ = some (.int .i64 (o1.2.2.2 : Int)) := HZ7.out.cell rfl
            have HB6 : Hid (Below N w w7) := (HB03.out.trans (HB5.out.mono (by omega))).trans (HO7.out.below (by have := HB5.out.size; omega) (fun k _ hk => by omega))
            try rw [Exit.noGoto_ret]
            refine bodyPost_ret (v := wldV o1.1 0 (.slice none 0 0) (.slice none 0 0) o1.2.2.2) (by simp [results, Tryz.results33, go_sem, r0, r1, r2, r3, r4]; rfl) rfl ?_
            have hTT := HT3.out
            unfold joinO at hTT
            rw [if_pos hv1] at hTT
            have hXe := HXE2.out
            rw [← hTT, if_pos hv1] at hXe
            have hcx := HCX.out
            rw [hXe, if_neg hv1] at hcx
            rw [hXe, ← hcx]
            try rw [hN]
            exact ⟨_, _, rfl, .inl ⟨rfl, _, _, rfl⟩, FOwnS.nil0 _ _ _, HB6.out⟩
      · obtain rfl : i = (tableS h).length := by omega
        obtain ⟨oa, oc, rfl⟩ := HO.out.fds.len
        obtain ⟨onn, honn⟩ : ∃ z, (acc.map toFd).length = z := ⟨_, rfl⟩
        rw [honn] at HO ⊢
        clear honn
        have HAW := Lib.hid (HA3.out.below HB.out (by omega))
        have m2 : wr.cell? ⟨M, 2, none⟩ = some (.slice ra rn rc) := (HF3.out.below HB.out (by omega)).cell rfl
        have r0 : wr.cell? ⟨N, 0, none⟩ = some (.int .i64 0) := HAW.out.cell rfl
        have r1 : wr.cell? ⟨N, 1, none⟩ = some (.int .u32 0) := HAW.out.cell rfl
        have r2 : wr.cell? ⟨N, 2, none⟩ = some (.slice none 0 0) := HAW.out.cell rfl
        have r3 : wr.cell? ⟨N, 3, none⟩ = some (.slice none 0 0) := HAW.out.cell rfl
        have r4 : wr.cell? ⟨N, 4, none⟩ = some (.int .i64 0) := HAW.out.cell rfl
        have f0 : wr.frozen? ⟨N, 0, none⟩ = false := HAW.out.free 0
        have f1 : wr.frozen? ⟨N, 1, none⟩ = false := HAW.out.free 1
        have f2 : wr.frozen? ⟨N, 2, none⟩ = false := HAW.out.free 2
        have f3 : wr.frozen? ⟨N, 3, none⟩ = false := HAW.out.free 3
        have f4 : wr.frozen? ⟨N, 4, none⟩ = false := HAW.out.free 4
        go_wp2_with fail
        have HZ7 := Lib.hid (wld_set HAW.out (.int .i64 0) (.int .u32 (c : Int)) (.slice ra rn rc) (.slice oa onn oc) (.int .i64 (s : Int)))
        have HO7 := Lib.hid (wld_only wr N (.int .i64 0) (.int .u32 (c : Int)) (.slice ra rn rc) (.slice oa onn oc) (.int .i64 (s : Int)))
        generalize (((((wr.setCell ⟨N, 0, none⟩ (.int .i64 0)).setCell ⟨N, 1, none⟩ (.int .u32 (c : Int))).setCell ⟨N, 2, none⟩ (.slice ra rn rc)).setCell ⟨N, 3, none⟩ (.slice oa onn oc)).setCell ⟨N, 4, none⟩ (.int .i64 (s : Int))) = w7 at *
        clear r0 r1 r2 r3 r4 f0 f1 f2 f3 f4
        have r0 : w7.cell? ⟨N, 0, none⟩ = some (.int .i64 0) := HZ7.out.cell rfl
        have r1 : w7.cell? ⟨N, 1, none⟩ = some (.int .u32 (c : Int)) := HZ7.out.cell rfl
        have r2 : w7.cell? ⟨N, 2, none⟩ = some (.slice ra rn rc) := HZ7.out.cell rfl
        have r3 : w7.cell? ⟨N, 3, none⟩ = some (.slice oa onn oc) := HZ7.out.cell rfl
        have r4 : w7.cell? ⟨N, 4, none⟩ = some (.int .i64 (s : Int)) := HZ7.out.cell rfl
        have HB6 : Hid (Below N w w7) := HBW.out.trans (HO7.out.below (by have := HB.out.size; omega) (fun k _ hk => by omega))
        have HR6 := Lib.hid (((HR3.out.below (by rw [hM3]; exact HB.out)).only HO7.out (fun k hk => by show k < _; omega)).less (Y := fun k => k < w.heap.size) (fun k hk => by show k < _; omega))
        have HO8 := Lib.hid (((HO.out.only HO7.out (fun k hk => by show k < _; omega) (fun k hk => by have := (HO.out.top hk).1; omega)).less (T := fun k => k < w.heap.size) (fun k hk => by show k < _; omega)).low (show w.heap.size ≤ M + 1 by omega))
        try rw [Exit.noGoto_ret]
        refine bodyPost_ret (v := wldV 0 c (.slice ra rn rc) (.slice oa onn oc) s) (by simp [results, Tryz.results33, go_sem, r0, r1, r2, r3, r4]; rfl) rfl ?_
        have hTT := HT.out
        rw [HEND.out] at hTT
        unfold joinO at hTT
        rw [if_neg (fun h => h rfl), List.append_nil] at hTT
        have hXe := HXE2.out
        rw [← hTT, if_neg (fun h => h rfl)] at hXe
        have hcx := HCX.out
        rw [hXe, if_pos rfl] at hcx
        rw [hXe, ← hcx]
        exact ⟨_, _, rfl, HR6.out, HO8.out, by rw [hN]; exact HB6.out⟩
  · have hXe := HX.out
    rw [if_pos hv] at hXe
    have tv : ((x.1 : Int) != 0) = true := by simp; omega
    have HXE := Lib.hid hXe
    clear hXe
    have r0 : w3.cell? ⟨N, 0, none⟩ = some (.int .i64 0) := HA3.out.cell rfl
    have r1 : w3.cell? ⟨N, 1, none⟩ = some (.int .u32 0) := HA3.out.cell rfl
    have r2 : w3.cell? ⟨N, 2, none⟩ = some (.slice none 0 0) := HA3.out.cell rfl
    have r3 : w3.cell? ⟨N, 3, none⟩ = some (.slice none 0 0) := HA3.out.cell rfl
    have r4 : w3.cell? ⟨N, 4, none⟩ = some (.int .i64 0) := HA3.out.cell rfl
    have f0 : w3.frozen? ⟨N, 0, none⟩ = false := HA3.out.free 0
    have f1 : w3.frozen? ⟨N, 1, none⟩ = false := HA3.out.free 1
    have f2 : w3.frozen? ⟨N, 2, none⟩ = false := HA3.out.free 2
    have f3 : w3.frozen? ⟨N, 3, none⟩ = false := HA3.out.free 3
    have f4 : w3.frozen? ⟨N, 4, none⟩ = false := HA3.out.free 4
    go_wp2_with fail
    have HZ7 := Lib.hid (wld_set HA3.out (.int .i64 (x.1 : Int)) (.int .u32 0) (.slice none 0 0) (.slice none 0 0) (.int .i64 (x.2.2 : Int)))
    have HO7 := Lib.hid (wld_only w3 N (.int .i64 (x.1 : Int)) (.int .u32 0) (.slice none 0 0) (.slice none 0 0) (.int .i64 (x.2.2 : Int)))
    generalize (((((w3.setCell ⟨N, 0, none⟩ (.int .i64 (x.1 : Int))).setCell ⟨N, 1, none⟩ (.int .u32 0)).setCell ⟨N, 2, none⟩ (.slice none 0 0)).setCell ⟨N, 3, none⟩ (.slice none 0 0)).setCell ⟨N, 4, none⟩ (.int .i64 (x.2.2 : Int))) = w7 at *
    clear r0 r1 r2 r3 r4 f0 f1 f2 f3 f4
    have r0 : w7.cell? ⟨N, 0, none⟩ = some (.int .i64 (x.1 : Int)) := HZ7.out.cell rfl
    have r1 : w7.cell? ⟨N, 1, none⟩ = some (.int .u32 0) := HZ7.out.cell rfl
    have r2 : w7.cell? ⟨N, 2, none⟩ = some (.slice none 0 0) := HZ7.out.cell rfl
    have r3 : w7.cell? ⟨N, 3, none⟩ = some (.slice none 0 0) := HZ7.out.cell rfl
    have r4 : w7.cell? ⟨N, 4, none⟩ = some (.int .i64 (x.2.2 : Int)) := HZ7.out.cell rfl
    have HB4 : Hid (Below N w w7) := HB03.out.trans (HO7.out.below (by omega) (fun k _ hk => by omega))
    try rw [Exit.noGoto_ret]
    refine bodyPost_ret (v := wldV x.1 0 (.slice none 0 0) (.slice none 0 0) x.2.2) (by simp [results, Tryz.results33, go_sem, r0, r1, r2, r3, r4]; rfl) rfl ?_
    have hcx := HCX.out
    have hXe := HXE.out
    rw [hXe, if_neg hv] at hcx
    rw [hXe, ← hcx]
    try rw [hN]
    exact ⟨_, _, rfl, .inl ⟨rfl, _, _, rfl⟩, FOwnS.nil0 _ _ _, HB4.out⟩
end Go.Proofs.YtpjfhdljagkefaaGreatDoor
/- The walk of recantref15's Check. -/
namespace Go.Proofs.YtpjfhdljagkefaaGreatDoor.WPlain
end Go.Proofs.YtpjfhdljagkefaaGreatDoor.WPlain
namespace Go.Proofs.YtpjfhdljagkefaaGreatDoor.QPlain
end Go.Proofs.YtpjfhdljagkefaaGreatDoor.QPlain
namespace Go.Proofs.YtpjfhdljagkefaaGreatDoor.RPlain
end Go.Proofs.YtpjfhdljagkefaaGreatDoor.RPlain
namespace Go.Proofs.YtpjfhdljagkefaaGreatDoor
open Go.RowKit WPlain QPlain RPlain

theorem only_transS {s : Nat → Prop} {a c d : World} (h : Only s a c) (k : Only s c d) : Only s a d := h.trans k (fun _ _ e => e)

set_option maxRecDepth 100000 in
set_option maxHeartbeats 1000000 in
theorem refChoicesX_any (v : Value) (l : List Tx) (w : World) (hv : Txs w v l) (hl : l.length ≤ 65536) :
    Calls Tryz.prog 32 #[v] w fun e w' => ∃ v', e = .returned v' ∧ w'.ownsRow w.heap.size 23 1 v' (choicesS l).length (u32s (choicesS l)) ∧ Below w.heap.size w w' := by
  obtain ⟨i0, hi0, hz0, hz1, hz2⟩ := info_parts infoU
  have HV := Lib.hid hv
  have HFE : Hid (choicesS l = (List.range 64).filter (choiceS l)) := rfl
  have HST := Lib.hid (choices_step l)
  have HB0 := Lib.hid ((Below.refl w.heap.size w).alloc (Nat.le_refl _) (.cells #[] 23))
  have HR0 : Hid ((w.alloc (.cells #[] 23)).ownsRow w.heap.size 23 1 (.slice (some ⟨w.heap.size, 0, none⟩) 0 0) ((List.range 0).filter (choiceS l)).length (u32s ((List.range 0).filter (choiceS l)))) := World.ownsRow_made (size := 1) (e := 23) (base := w.heap.size) w #[] 0 (Nat.le_refl _) (by unfold maxLen; omega) rfl
  obtain ⟨a, c, rfl⟩ := hv.len
  clear hv
  go_enter Tryz.func32, Tryz.ntmps32
  go_wp2_with fail
  go_loopw [3, 4] (fun y x wr => ∃ k : Nat, k ≤ 64 ∧ x = .int .u32 k ∧ Hid (wr.ownsRow w.heap.size 23 1 y ((List.range k).filter (choiceS l)).length (u32s ((List.range k).filter (choiceS l)))) ∧ Hid (Below w.heap.size w wr)) (fun _ x _ => 64 - (intOf x).toNat)
  case atStart => exact ⟨0, by omega, rfl, HR0, HB0⟩
  case round =>
    clear HR0 HB0
    obtain ⟨k, hk, rfl, HR, HB⟩ := hrel
    have hgl : ((List.range k).filter (choiceS l)).length ≤ 64 := by
      have := List.length_filter_le (choiceS l) (List.range k)
      rw [List.length_range] at this
      omega
    by_cases hlt : k < 64
    · have HC := Lib.hid (refChoice_any _ l k wr (HV.out.below HB.out (Nat.le_refl _)) hl (by omega))
      have HSK := Lib.hid (HST.out k)
      generalize (List.range k).filter (choiceS l) = M at *
      obtain ⟨ma, mc, rfl⟩ := row_slice HR.out
      cases hb : choiceS l k with
      | true =>
        have HS2 : Hid ((List.range (k + 1)).filter (choiceS l) = M ++ [k]) := by unfold Hid; rw [HSK.out, if_pos hb]
        rw [hb] at HC
        clear hb HSK
        go_wp2_with (first | (go_at_call 9; refine HC.out.mono ?_; rintro e w3 ⟨rfl, hb3⟩; have hr3 := row_belowT HR.out hb3; have hbb := HB.out.trans (hb3.mono HB.out.size)) | (at_builtin; go_must (refine wpList_append_own _ rfl _ _ 46 rfl w.heap.size 23 i0 (.int .u32 0) 1 4 Tryz.underlying46 hi0 hz0 hz1 hz2 rfl (by decide) _ _ _ rfl (hr3.alloc _) ⟨w3.heap.size, 0, none⟩ 1 1 [.int .u32 (k : Int)] rfl rfl ?c1 ?c2 ?c3 ?c4 ?c5 ?_)))
        case c1 => exact cell_one_at w3 _ _
        case c2 => exact one_int _ _
        case c3 => unfold maxLen; omega
        case c4 => omega
        case c5 => have := hbb.size; simp; omega
        intro v5 w5 hv5 hg5 _
        have HB5 : Hid (Below w.heap.size w w5) := (hbb.alloc hbb.size (.cells #[.int .u32 (k : Int)] 23)).grown hg5 (by have := hbb.size; simp; omega) (fun k' hk' => (hr3.lt k' hk').1)
        have HR5 : Hid (w5.ownsRow w.heap.size 23 1 v5 (M ++ [k]).length (u32s (M ++ [k]))) := by rw [← u32s_snoc, List.length_append]; exact hv5
        clear hv5 hg5 hr3 hb3 hbb HR HB HC
        go_wp2
        go_roundw
        case rel => exact ⟨k + 1, by omega, by go_num, by rw [HS2.out]; exact HR5, HB5⟩
        case measure => simp [intOf]; omega
      | false =>
        have HS2 : Hid ((List.range (k + 1)).filter (choiceS l) = M) := by unfold Hid; rw [HSK.out, if_neg (by rw [hb]; decide)]
        rw [hb] at HC
        clear hb HSK
        go_wp2_with (go_at_call 9; refine HC.out.mono ?_; rintro e w3 ⟨rfl, hb3⟩; have HR3 := Lib.hid (row_belowT HR.out hb3); have HB3 := Lib.hid (HB.out.trans (hb3.mono HB.out.size)); clear hb3)
        go_roundw
        case rel => exact ⟨k + 1, by omega, by go_num, by rw [HS2.out]; exact HR3, HB3⟩
        case measure => simp [intOf]; omega
    · obtain rfl : k = 64 := by omega
      rw [← HFE.out] at HR
      obtain ⟨ma, mc, rfl⟩ := row_slice HR.out
      go_wp2
      go_ret
      exact ⟨_, rfl, HR.out, HB.out⟩
set_option maxRecDepth 100000 in
set_option maxHeartbeats 8000000 in
theorem refCheckW_any (h : List Ev) (h0 : (checkS h).2 = 0) (lv : Value) (B : Nat) (w : World) (hlv : Txs w lv (tableS h)) (hol : ∀ i, (opsAt (tableS h) i).length ≤ 60) (hB : B ≤ 1000000) :
    Calls Tryz.prog 16 #[lv, .int .i64 (B : Int)] w fun e w' => ∃ rv ov, e = .returned (wldV (worldS B (tableS h)).1 (worldS B (tableS h)).2.1 rv ov (worldS B (tableS h)).2.2.2.2) ∧
      Rd w' rv (nats (worldS B (tableS h)).2.2.1) ∧ Fds w' ov ((worldS B (tableS h)).2.2.2.1.map toFd) ∧ Below w.heap.size w w' := by
  have h6 := table_six h0
  obtain ⟨cs, hcs⟩ : ∃ cs, choicesS (tableS h) = cs := ⟨_, rfl⟩
  have HCP : Hid (∀ c ∈ cs, c < 2 ^ (tableS h).length) := fun c hc => by
    rw [← hcs, choices_chL h6] at hc
    exact (mem_chL.1 hc).1
  have hcl : cs.length ≤ 64 := by rw [← hcs]; exact choices_count _
  have h64 := pow_le_64 h6
  obtain ⟨N, hN⟩ : ∃ N, w.heap.size = N := ⟨_, rfl⟩
  obtain ⟨w1, hw1⟩ : ∃ w1, (w.alloc (.cells #[.int .i64 0, .int .u32 0, .slice none 0 0, .slice none 0 0, .int .i64 0] 40)).alloc (.cells #[.int .i64 1, .int .u32 0, .slice none 0 0, .slice none 0 0, .int .i64 0] 40) = w1 := ⟨_, rfl⟩
  have hb1 : Below N w w1 := by
    rw [← hw1, ← hN]
    exact ((Below.refl _ w).alloc (Nat.le_refl _) _).alloc (by simp) _
  have HA1 : Hid (At w1 N (wldA 0 0 (.slice none 0 0) (.slice none 0 0) 0) 40) := by
    rw [← hw1, ← hN]
    exact (At.new w _ _).alloc _
  have HO1 : Hid (At w1 (N + 1) (wldA 1 0 (.slice none 0 0) (.slice none 0 0) 0) 40) := by
    rw [← hw1, ← hN]
    have := At.new (w.alloc (.cells #[.int .i64 0, .int .u32 0, .slice none 0 0, .slice none 0 0, .int .i64 0] 40)) (wldA 1 0 (.slice none 0 0) (.slice none 0 0) 0) 40
    rwa [World.size_alloc] at this
  have hN1 : N + 1 < w1.heap.size := HO1.out.lt
  have hs1 : w1.heap.size = N + 2 := by rw [← hw1, ← hN]; simp
  have hv1 := hlv.below hb1 (by omega)
  have HCH := Lib.hid (refChoicesX_any lv (tableS h) w1 hv1 (by omega))
  rw [hcs] at HCH
  obtain ⟨x0, hx0⟩ : ∃ x0, worldS B (tableS h) = x0 := ⟨_, rfl⟩
  rw [hx0]
  have HZR : Hid (worldG B (tableS h) (cs.drop 0) 0 = x0) := by
    rw [List.drop_zero, ← hcs]
    exact hx0
  have HNX : Hid (∀ i (hi : i < cs.length) s, worldG B (tableS h) (cs.drop i) s = if (choiceW B (tableS h) cs[i] s).1 = 1 then worldG B (tableS h) (cs.drop (i + 1)) (choiceW B (tableS h) cs[i] s).2.2.2
      else ((choiceW B (tableS h) cs[i] s).1, (if (choiceW B (tableS h) cs[i] s).1 = 0 then cs[i] else 0), (choiceW B (tableS h) cs[i] s).2.1, (choiceW B (tableS h) cs[i] s).2.2.1, (choiceW B (tableS h) cs[i] s).2.2.2)) := fun i hi s => by
    rw [List.drop_eq_getElem_cons hi, worldG]
  have HEND : Hid (∀ s, worldG B (tableS h) (cs.drop cs.length) s = (1, 0, [], [], s)) := fun s => by rw [List.drop_length]; rfl
  have HSELF := Lib.hid (self_table h)
  have HB1 : Hid (Below w.heap.size w w1) := by rw [hN]; exact hb1
  have HCC := Lib.hid (fun (ci s : Nat) (W : World) (hW : Below w.heap.size w W) hcp hs => refChoiceW_any h h0 lv ci B s W (hlv.below hW (Nat.le_refl _)) hol hcp hB hs)
  obtain ⟨la, lc, rfl⟩ := hlv.len
  have HS1 := Lib.hid hs1
  have HW1 := Lib.hid hw1
  have HNN := Lib.hid hN
  clear hlv hb1 hv1 hx0 hcs hol h0 hs1 hw1 hN
  go_enter Tryz.func16, Tryz.ntmps16
  go_wp2_with fail
  rw [HW1.out]
  refine HCH.out.mono ?_
  rintro e w2 ⟨v2, rfl, hr2, hb2⟩
  have hN : w.heap.size = N := HNN.out
  have HB2 := Lib.hid hb2
  have HR2 : Hid (RdX (fun k => k < w1.heap.size) w2 v2 (u32s cs)) := RdX.of_row hr2 (fun k hk => hk)
  have HA2 := Lib.hid (HA1.out.below hb2 (by omega))
  have HO2 := Lib.hid (HO1.out.below hb2 hN1)
  obtain ⟨ca, cc, rfl⟩ := row_slice hr2
  clear hr2 hb2 HCH HO1 HA1
  have HR22 : Hid (Only (fun k => k = N + 1) w2 w2) := Only.refl _ _
  have hs1 : w1.heap.size = N + 2 := HS1.out
  have hs2 : N + 2 ≤ w2.heap.size := by have := HB2.out.size; omega
  have HNIL0 : Hid (∃ a b c d, Value.slice none 0 0 = .slice a 0 b ∧ Value.slice none 0 0 = .slice c 0 d) := ⟨_, _, _, _, rfl, rfl⟩
  go_wp2_with fail
  go_loopw [12] (fun x wr => ∃ (i s : Nat) (rv ov : Value), i ≤ cs.length ∧ x = .int .i64 i ∧ s ≤ B ∧ Hid (worldG B (tableS h) (cs.drop i) s = x0) ∧ Hid (At wr (N + 1) (wldA 1 0 rv ov s) 40) ∧ Hid (∃ a b c d, rv = .slice a 0 b ∧ ov = .slice c 0 d) ∧ Hid (Only (fun k => k = N + 1) w2 wr)) (fun x _ => cs.length - (intOf x).toNat)
  case atStart => exact ⟨0, 0, _, _, by omega, rfl, by omega, HZR, HO2, HNIL0, HR22⟩
  case round =>
    clear HZR HO2 HNIL0 HR22
    obtain ⟨i, s, rv0, ov0, hi, rfl, hs, HT, HO, HNIL, HON⟩ := hrel
    obtain ⟨a0, b0, c0, d0, rfl, rfl⟩ := HNIL.out
    have HBR : Hid (Below w.heap.size w wr) := by
      have h1 := HB1.out.trans (HB2.out.mono HB1.out.size)
      exact h1.trans (HON.out.below (by omega) (fun k _ hk => by omega))
    have HAR := Lib.hid (HA2.out.only HON.out (by omega))
    have hws : w2.heap.size ≤ wr.heap.size := HON.out.size
    by_cases hlt : i < cs.length
    · obtain ⟨b, o, pc, he, hbl, hcells⟩ := ((HR2.out.only HON.out (fun k hk => by show k < _; omega)).rd).opened (by rw [u32s_len]; omega)
      rw [u32s_len] at he
      simp only [Value.slice.injEq] at he
      obtain ⟨rfl, -, rfl⟩ := he
      have hcj := hcells i _ (u32s_get hlt)
      have hcp := HCP.out _ (List.getElem_mem hlt)
      have hnx := HNX.out i hlt s
      clear hcells hbl
      generalize cs[i] = ci at *
      have hcc := HCC.out ci s wr HBR.out hcp hs
      obtain ⟨hv3, hv4, hv5, -, -, hv6, -⟩ := choice_tells (B := B) (l := tableS h) (c := ci) HSELF.out s hs
      obtain ⟨X, hX⟩ : ∃ X, choiceW B (tableS h) ci s = X := ⟨_, rfl⟩
      obtain ⟨cx, hcx⟩ : ∃ z, (if X.1 = 0 then ci else 0) = z := ⟨_, rfl⟩
      rw [hX] at hcc hnx hv3 hv4 hv5 hv6
      rw [hcx] at hcc hnx
      have HT2 := Lib.hid (hnx.symm.trans HT.out)
      unfold wldV at hcc
      have HC2 := Lib.hid hcc
      have HV6 := Lib.hid hv6
      have HCX := Lib.hid hcx
      have e4 : wr.cell? ⟨N + 1, 4, none⟩ = some (.int .i64 (s : Int)) := HO.out.cell rfl
      clear hX hcx hnx HT hcc hv6
      go_wp2_with fail
      refine HC2.out.mono ?_
      rintro e w4 ⟨rv, ov, rfl, hr4, ho4, hb4⟩
      obtain ⟨ra, rc, rfl⟩ := hr4.rd.len
      obtain ⟨oa, oc, rfl⟩ := ho4.fds.len
      obtain ⟨rn, hrn⟩ : ∃ z, (nats X.2.1).length = z := ⟨_, rfl⟩
      obtain ⟨on, hon⟩ : ∃ z, (X.2.2.1.map toFd).length = z := ⟨_, rfl⟩
      rw [hrn] at hr4 ⊢
      rw [hon] at ho4 ⊢
      have HRN := Lib.hid hrn
      have HON2 := Lib.hid hon
      have HR4 := Lib.hid hr4
      have HO4 := Lib.hid ho4
      have HO5 := Lib.hid (HO.out.below hb4 HO.out.lt)
      have HN4 := Lib.hid (only_transS HON.out (Only.of_below hb4))
      clear hr4 ho4 hb4 HC2 hcj e4 hrn hon
      have r0 : w4.cell? ⟨N + 1, 0, none⟩ = some (.int .i64 1) := HO5.out.cell rfl
      have r1 : w4.cell? ⟨N + 1, 1, none⟩ = some (.int .u32 0) := HO5.out.cell rfl
      have r2 : w4.cell? ⟨N + 1, 2, none⟩ = some (.slice a0 0 b0) := HO5.out.cell rfl
      have r3 : w4.cell? ⟨N + 1, 3, none⟩ = some (.slice c0 0 d0) := HO5.out.cell rfl
      have r4 : w4.cell? ⟨N + 1, 4, none⟩ = some (.int .i64 (s : Int)) := HO5.out.cell rfl
      have f0 : w4.frozen? ⟨N + 1, 0, none⟩ = false := HO5.out.free 0
      have f1 : w4.frozen? ⟨N + 1, 1, none⟩ = false := HO5.out.free 1
      have f2 : w4.frozen? ⟨N + 1, 2, none⟩ = false := HO5.out.free 2
      have f3 : w4.frozen? ⟨N + 1, 3, none⟩ = false := HO5.out.free 3
      have f4 : w4.frozen? ⟨N + 1, 4, none⟩ = false := HO5.out.free 4
      go_upto_region 6 with fail
      have HZ5 := Lib.hid (wld_set HO5.out (.int .i64 (X.1 : Int)) (.int .u32 (cx : Int)) (.slice ra rn rc) (.slice oa on oc) (.int .i64 (X.2.2.2 : Int)))
      have HP5 := Lib.hid (wld_only w4 (N + 1) (.int .i64 (X.1 : Int)) (.int .u32 (cx : Int)) (.slice ra rn rc) (.slice oa on oc) (.int .i64 (X.2.2.2 : Int)))
      generalize (((((w4.setCell ⟨N + 1, 0, none⟩ (.int .i64 (X.1 : Int))).setCell ⟨N + 1, 1, none⟩ (.int .u32 (cx : Int))).setCell ⟨N + 1, 2, none⟩ (.slice ra rn rc)).setCell ⟨N + 1, 3, none⟩ (.slice oa on oc)).setCell ⟨N + 1, 4, none⟩ (.int .i64 (X.2.2.2 : Int))) = w5 at *
      have HN5 := Lib.hid (only_transS HN4.out HP5.out)
      have HB5 : Hid (Below w.heap.size w w5) := by
        have h1 := HB1.out.trans (HB2.out.mono HB1.out.size)
        exact h1.trans (HN5.out.below (by omega) (fun k _ hk => by omega))
      have HR5 := Lib.hid (HR4.out.only HP5.out (fun k hk => by show k < _; omega))
      have HO6 := Lib.hid (HO4.out.only HP5.out (fun k hk => by show k < _; omega) (fun k hk => by have := (HO4.out.top hk).1; omega))
      clear r0 r1 r2 r3 r4 f0 f1 f2 f3 f4 HO HO5
      have u0 : w5.cell? ⟨N + 1, 0, none⟩ = some (.int .i64 (X.1 : Int)) := HZ5.out.cell rfl
      have u1 : w5.cell? ⟨N + 1, 1, none⟩ = some (.int .u32 (cx : Int)) := HZ5.out.cell rfl
      have u2 : w5.cell? ⟨N + 1, 2, none⟩ = some (.slice ra rn rc) := HZ5.out.cell rfl
      have u3 : w5.cell? ⟨N + 1, 3, none⟩ = some (.slice oa on oc) := HZ5.out.cell rfl
      have u4 : w5.cell? ⟨N + 1, 4, none⟩ = some (.int .i64 (X.2.2.2 : Int)) := HZ5.out.cell rfl
      by_cases hv1 : X.1 = 1
      · have HT3 := HT2.out
        rw [if_pos hv1] at HT3
        have HT4 := Lib.hid HT3
        have tv1 : ((X.1 : Int) != 1) = false := by simp [hv1]
        have hnil := HV6.out (by omega)
        have hcx0 : cx = 0 := by rw [← HCX.out, if_neg (by omega)]
        have HNN2 : Hid (∃ a b c d, Value.slice ra rn rc = .slice a 0 b ∧ Value.slice oa on oc = .slice c 0 d) := ⟨ra, rc, oa, oc, by rw [← HRN.out, hnil.1]; rfl, by rw [← HON2.out, hnil.2]; rfl⟩
        have HZ6 : Hid (At w5 (N + 1) (wldA 1 0 (.slice ra rn rc) (.slice oa on oc) X.2.2.2) 40) := by
          have := HZ5.out
          rw [hv1, hcx0] at this
          exact this
        clear HT3 HT2 hv1 hnil hcx0 HR5 HO6 HR4 HO4
        go_wp2_with fail
        go_roundw
        case rel => exact ⟨i + 1, X.2.2.2, _, _, by omega, by go_num, hv5, HT4, HZ6, HNN2, HN5⟩
        case measure => simp [intOf]; omega
      · have HT3 := HT2.out
        rw [if_neg hv1] at HT3
        have HT4 := Lib.hid HT3
        have tv1 : ((X.1 : Int) != 1) = true := by simp; omega
        have HA5 := Lib.hid (HA2.out.only HN5.out (by omega))
        clear HT3 HT2
        have r0 : w5.cell? ⟨N, 0, none⟩ = some (.int .i64 0) := HA5.out.cell rfl
        have r1 : w5.cell? ⟨N, 1, none⟩ = some (.int .u32 0) := HA5.out.cell rfl
        have r2 : w5.cell? ⟨N, 2, none⟩ = some (.slice none 0 0) := HA5.out.cell rfl
        have r3 : w5.cell? ⟨N, 3, none⟩ = some (.slice none 0 0) := HA5.out.cell rfl
        have r4 : w5.cell? ⟨N, 4, none⟩ = some (.int .i64 0) := HA5.out.cell rfl
        have f0 : w5.frozen? ⟨N, 0, none⟩ = false := HA5.out.free 0
        have f1 : w5.frozen? ⟨N, 1, none⟩ = false := HA5.out.free 1
        have f2 : w5.frozen? ⟨N, 2, none⟩ = false := HA5.out.free 2
        have f3 : w5.frozen? ⟨N, 3, none⟩ = false := HA5.out.free 3
        have f4 : w5.frozen? ⟨N, 4, none⟩ = false := HA5.out.free 4
        go_wp2_with fail
        have HZ7 := Lib.hid (wld_set HA5.out (.int .i64 (X.1 : Int)) (.int .u32 (cx : Int)) (.slice ra rn rc) (.slice oa on oc) (.int .i64 (X.2.2.2 : Int)))
        have HO7 := Lib.hid (wld_only w5 N (.int .i64 (X.1 : Int)) (.int .u32 (cx : Int)) (.slice ra rn rc) (.slice oa on oc) (.int .i64 (X.2.2.2 : Int)))
        generalize (((((w5.setCell ⟨N, 0, none⟩ (.int .i64 (X.1 : Int))).setCell ⟨N, 1, none⟩ (.int .u32 (cx : Int))).setCell ⟨N, 2, none⟩ (.slice ra rn rc)).setCell ⟨N, 3, none⟩ (.slice oa on oc)).setCell ⟨N, 4, none⟩ (.int .i64 (X.2.2.2 : Int))) = w7 at *
        clear r0 r1 r2 r3 r4 f0 f1 f2 f3 f4
        have r0 : w7.cell? ⟨N, 0, none⟩ = some (.int .i64 (X.1 : Int)) := HZ7.out.cell rfl
        have r1 : w7.cell? ⟨N, 1, none⟩ = some (.int .u32 (cx : Int)) := HZ7.out.cell rfl
        have r2 : w7.cell? ⟨N, 2, none⟩ = some (.slice ra rn rc) := HZ7.out.cell rfl
        have r3 : w7.cell? ⟨N, 3, none⟩ = some (.slice oa on oc) := HZ7.out.cell rfl
        have r4 : w7.cell? ⟨N, 4, none⟩ = some (.int .i64 (X.2.2.2 : Int)) := HZ7.out.cell rfl
        have HB7 : Hid (Below w.heap.size w w7) := HB5.out.trans (HO7.out.below (by have := HB5.out.size; omega) (fun k _ hk => by omega))
        have HR7 := Lib.hid (HR5.out.only HO7.out (fun k hk => by show k < _; omega))
        have HO8 := Lib.hid (HO6.out.only HO7.out (fun k hk => by show k < _; omega) (fun k hk => by have := (HO6.out.top hk).1; omega))
        try rw [Exit.noGoto_ret]
        refine bodyPost_ret (v := wldV X.1 cx (.slice ra rn rc) (.slice oa on oc) X.2.2.2) (by simp [results, Tryz.results16, go_sem, r0, r1, r2, r3, r4]; rfl) rfl ?_
        rw [← HT4.out]
        exact ⟨_, _, rfl, HR7.out.rd, HO8.out.fds, HB7.out⟩
    · obtain rfl : i = cs.length := by omega
      have u0 : wr.cell? ⟨N + 1, 0, none⟩ = some (.int .i64 1) := HO.out.cell rfl
      have u1 : wr.cell? ⟨N + 1, 1, none⟩ = some (.int .u32 0) := HO.out.cell rfl
      have u2 : wr.cell? ⟨N + 1, 2, none⟩ = some (.slice a0 0 b0) := HO.out.cell rfl
      have u3 : wr.cell? ⟨N + 1, 3, none⟩ = some (.slice c0 0 d0) := HO.out.cell rfl
      have u4 : wr.cell? ⟨N + 1, 4, none⟩ = some (.int .i64 (s : Int)) := HO.out.cell rfl
      have r0 : wr.cell? ⟨N, 0, none⟩ = some (.int .i64 0) := HAR.out.cell rfl
      have r1 : wr.cell? ⟨N, 1, none⟩ = some (.int .u32 0) := HAR.out.cell rfl
      have r2 : wr.cell? ⟨N, 2, none⟩ = some (.slice none 0 0) := HAR.out.cell rfl
      have r3 : wr.cell? ⟨N, 3, none⟩ = some (.slice none 0 0) := HAR.out.cell rfl
      have r4 : wr.cell? ⟨N, 4, none⟩ = some (.int .i64 0) := HAR.out.cell rfl
      have f0 : wr.frozen? ⟨N, 0, none⟩ = false := HAR.out.free 0
      have f1 : wr.frozen? ⟨N, 1, none⟩ = false := HAR.out.free 1
      have f2 : wr.frozen? ⟨N, 2, none⟩ = false := HAR.out.free 2
      have f3 : wr.frozen? ⟨N, 3, none⟩ = false := HAR.out.free 3
      have f4 : wr.frozen? ⟨N, 4, none⟩ = false := HAR.out.free 4
      go_wp2_with fail
      have HZ7 := Lib.hid (wld_set HAR.out (.int .i64 1) (.int .u32 0) (.slice a0 0 b0) (.slice c0 0 d0) (.int .i64 (s : Int)))
      have HO7 := Lib.hid (wld_only wr N (.int .i64 1) (.int .u32 0) (.slice a0 0 b0) (.slice c0 0 d0) (.int .i64 (s : Int)))
      generalize (((((wr.setCell ⟨N, 0, none⟩ (.int .i64 1)).setCell ⟨N, 1, none⟩ (.int .u32 0)).setCell ⟨N, 2, none⟩ (.slice a0 0 b0)).setCell ⟨N, 3, none⟩ (.slice c0 0 d0)).setCell ⟨N, 4, none⟩ (.int .i64 (s : Int))) = w7 at *
      clear r0 r1 r2 r3 r4 f0 f1 f2 f3 f4
      have r0 : w7.cell? ⟨N, 0, none⟩ = some (.int .i64 1) := HZ7.out.cell rfl
      have r1 : w7.cell? ⟨N, 1, none⟩ = some (.int .u32 0) := HZ7.out.cell rfl
      have r2 : w7.cell? ⟨N, 2, none⟩ = some (.slice a0 0 b0) := HZ7.out.cell rfl
      have r3 : w7.cell? ⟨N, 3, none⟩ = some (.slice c0 0 d0) := HZ7.out.cell rfl
      have r4 : w7.cell? ⟨N, 4, none⟩ = some (.int .i64 (s : Int)) := HZ7.out.cell rfl
      have HB7 : Hid (Below w.heap.size w w7) := HBR.out.trans (HO7.out.below (by have := HBR.out.size; omega) (fun k _ hk => by omega))
      try rw [Exit.noGoto_ret]
      refine bodyPost_ret (v := wldV 1 0 (.slice a0 0 b0) (.slice c0 0 d0) s) (by simp [results, Tryz.results16, go_sem, r0, r1, r2, r3, r4]; rfl) rfl ?_
      have hT := HT.out
      rw [HEND.out] at hT
      rw [← hT]
      exact ⟨_, _, rfl, .inl ⟨rfl, _, _, rfl⟩, Fds.nil _ _ _, HB7.out⟩
end Go.Proofs.YtpjfhdljagkefaaGreatDoor
