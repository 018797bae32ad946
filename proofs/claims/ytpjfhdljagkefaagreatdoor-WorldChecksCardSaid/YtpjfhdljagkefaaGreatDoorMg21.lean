/- Merged: WorQ, CmpF, ExtK, ExtN, OrdH, SrlG. -/
import Derived.Test.YtpjfhdljagkefaaGreatDoorWorP
import Derived.Test.YtpjfhdljagkefaaGreatDoorMg14
import Derived.Test.YtpjfhdljagkefaaGreatDoorMg12
import Derived.Test.YtpjfhdljagkefaaGreatDoorTxtS
import Derived.Test.YtpjfhdljagkefaaGreatDoorMg3
import Derived.Test.YtpjfhdljagkefaaGreatDoorMg17
import Derived.Test.YtpjfhdljagkefaaGreatDoorMg16
import Derived.Test.YtpjfhdljagkefaaGreatDoorMg10
import Derived.Test.YtpjfhdljagkefaaGreatDoorMg11
import Derived.BigQuiet
/- The walk of package world's Check. -/
namespace Go.Proofs.YtpjfhdljagkefaaGreatDoor.WPlain
end Go.Proofs.YtpjfhdljagkefaaGreatDoor.WPlain
namespace Go.Proofs.YtpjfhdljagkefaaGreatDoor.QPlain
end Go.Proofs.YtpjfhdljagkefaaGreatDoor.QPlain
namespace Go.Proofs.YtpjfhdljagkefaaGreatDoor.RPlain
end Go.Proofs.YtpjfhdljagkefaaGreatDoor.RPlain
namespace Go.Proofs.YtpjfhdljagkefaaGreatDoor.RPlain
open WPlain QPlain
theorem worldW_step {B s : Nat} (hs : s ≤ B) (l : List Tx) (c : Nat) (r : List Nat) : worldG B l (c :: r) s = if (choiceW (B - s) l c 0).1 = 1 then worldG B l r (s + (choiceW (B - s) l c 0).2.2.2)
    else ((choiceW (B - s) l c 0).1, (if (choiceW (B - s) l c 0).1 = 0 then c else 0), (choiceW (B - s) l c 0).2.1, (choiceW (B - s) l c 0).2.2.1, s + (choiceW (B - s) l c 0).2.2.2) := by
  rw [worldG, choiceW_left hs]
end Go.Proofs.YtpjfhdljagkefaaGreatDoor.RPlain
namespace Go.Proofs.YtpjfhdljagkefaaGreatDoor
open Go.RowKit WPlain QPlain RPlain

/-- what Check of package world finds -/
def wldF (h : List Ev) (B : Int) : Nat × Nat × List Nat × List (Nat × List Nat × Nat) × Nat := if srchE h B = 0 then worldS B.toNat (tableS h) else (0, 0, [], [], 0)
theorem rowE_none (h : List Ev) (B : Int) : rowE h 0 0 B = srchE h B := by
  unfold rowE
  by_cases h0 : srchE h B = 0
  · rw [if_pos h0, h0, if_pos (by exact Nat.two_pow_pos _)]
  · rw [if_neg h0]
set_option maxRecDepth 100000 in
set_option maxHeartbeats 8000000 in
theorem checkW_any (v : Value) (h : List Ev) (B : Int) (w : World) (hK : HasK w) (hv : Evs w v h) (hl : h.length ≤ 65536) (hw1 : -9223372036854775808 ≤ B) (hw2 : B < 9223372036854775808) :
    Calls Tryz.prog 13 #[v, .int .i64 B] w fun e w' => ∃ rv ov, e = .returned (.tuple #[wldV (wldF h B).1 (wldF h B).2.1 rv ov (wldF h B).2.2.2.2, .int .i64 ((srchE h B : Nat) : Int)]) ∧
      RdX (fun k => k < w.heap.size) w' rv (nats (wldF h B).2.2.1) ∧ CapV rv ∧ FOwnS (fun k => k < w.heap.size) w.heap.size w' ov ((wldF h B).2.2.2.1.map toFd) ∧ Below w.heap.size w w' := by
  obtain ⟨w1, hw1'⟩ : ∃ w1, w.alloc (.cells #[.int .i64 0, .int .u32 0, .slice none 0 0, .slice none 0 0, .int .i64 0] 40) = w1 := ⟨_, rfl⟩
  have HB1 : Hid (Below w.heap.size w w1) := by
    rw [← hw1']
    exact (Below.refl _ w).alloc (Nat.le_refl _) _
  obtain ⟨N, hN⟩ : ∃ N, w.heap.size = N := ⟨_, rfl⟩
  have HA1 : Hid (At w1 N (wldA 0 0 (.slice none 0 0) (.slice none 0 0) 0) 40) := by
    rw [← hw1', ← hN]
    exact At.new w _ _
  have HK1 := Lib.hid (hK.later HB1.out (Nat.le_refl _))
  have HV1 := Lib.hid (hv.below HB1.out (Nat.le_refl _))
  have hN1 : N < w1.heap.size := HA1.out.lt
  obtain ⟨hva, hvc, rfl⟩ : ∃ a c, v = .slice a h.length c := hv.len
  have HTR := Lib.hid (traceOf_any hva hvc h 0 B w1 HK1.out HV1.out hl (by decide))
  rw [rowE_none] at HTR
  unfold wldF
  clear hK hv
  by_cases hB : srchE h B = 0
  · obtain ⟨hc0, hB0, hB1⟩ := srchE_zero hB
    have h6 := table_six hc0
    obtain ⟨BN, rfl⟩ : ∃ BN : Nat, B = (BN : Int) := ⟨B.toNat, by omega⟩
    simp only [hB, if_true, Int.toNat_natCast]
    rw [hB] at HTR
    have HCL : Hid (∀ c ∈ chL (tableS h), c < 2 ^ (tableS h).length) := fun c hc => (mem_chL.1 hc).1
    have HCN : Hid ((chL (tableS h)).length ≤ 65536) := by have h1 := choices_count (tableS h); rw [choices_chL h6] at h1; show _ ≤ _; omega
    have hcn := HCN.out
    have HSELF := Lib.hid (self_table h)
    have HWW := Lib.hid (fun (aa ca : Option Addr) (ac cn cc c s : Nat) (W : World) hE hcl (S : Nat → Prop) hS hr => worldW_any hva aa ca hvc ac cn cc h c (BN - s) W hE hcl (by omega) S hS hr)
    obtain ⟨x0, hx0⟩ : ∃ x0, worldS BN (tableS h) = x0 := ⟨_, rfl⟩
    rw [hx0]
    have HZ0 : Hid (worldG BN (tableS h) ((chL (tableS h)).drop 0) 0 = x0) := by
      rw [← hx0]
      unfold Hid worldS
      rw [List.drop_zero, choices_chL h6]
    have HNX : Hid (∀ i (hi : i < (chL (tableS h)).length) s, s ≤ BN → worldG BN (tableS h) ((chL (tableS h)).drop i) s = if (choiceW (BN - s) (tableS h) (chL (tableS h))[i] 0).1 = 1 then worldG BN (tableS h) ((chL (tableS h)).drop (i + 1)) (s + (choiceW (BN - s) (tableS h) (chL (tableS h))[i] 0).2.2.2)
        else ((choiceW (BN - s) (tableS h) (chL (tableS h))[i] 0).1, (if (choiceW (BN - s) (tableS h) (chL (tableS h))[i] 0).1 = 0 then (chL (tableS h))[i] else 0), (choiceW (BN - s) (tableS h) (chL (tableS h))[i] 0).2.1, (choiceW (BN - s) (tableS h) (chL (tableS h))[i] 0).2.2.1, s + (choiceW (BN - s) (tableS h) (chL (tableS h))[i] 0).2.2.2)) := fun i hi s hs => by
      rw [List.drop_eq_getElem_cons hi]
      exact worldW_step hs _ _ _
    have HEND : Hid (∀ s, worldG BN (tableS h) ((chL (tableS h)).drop (chL (tableS h)).length) s = (1, 0, [], [], s)) := fun s => by rw [List.drop_length]; rfl
    have HC0 := Lib.hid hc0
    clear hx0 hB hc0 h6
    go_enter Tryz.func13, Tryz.ntmps13
    go_wp2_with fail
    refine HTR.out.mono ?_
    rintro e w2 ⟨hb2, -, hok⟩
    obtain ⟨aa, ac, ca, cc, rfl, haf, hch⟩ := hok trivial
    obtain ⟨M, hM⟩ : ∃ M, w2.heap.size = M := ⟨_, rfl⟩
    obtain ⟨w3, hw3⟩ : ∃ w3, w2.alloc (.cells #[.slice hva h.length hvc, .slice aa (tableS h).length ac, .slice ca (chL (tableS h)).length cc] 48) = w3 := ⟨_, rfl⟩
    have hb23 : Below w2.heap.size w2 w3 := by
      rw [← hw3]
      exact (Below.refl w2.heap.size w2).alloc (Nat.le_refl _) _
    have HB3 : Hid (Below w1.heap.size w1 w3) := hb2.trans (hb23.mono hb2.size)
    have HE3 : Hid (At w3 M #[.slice hva h.length hvc, .slice aa (tableS h).length ac, .slice ca (chL (tableS h)).length cc] 48) := by
      rw [← hw3, ← hM]
      exact At.new w2 _ _
    have hM3 : w3.heap.size = M + 1 := by rw [← hw3, ← hM]; simp
    have hM1 : w1.heap.size ≤ M := by rw [← hM]; exact hb2.size
    have HAF := Lib.hid (haf.below hb23)
    have HCH := Lib.hid (hch.below hb23 (Nat.le_refl _))
    have e2 : w3.cell? ⟨M, 2, none⟩ = some (.slice ca (chL (tableS h)).length cc) := HE3.out.cell rfl
    have HTE : Hid (TrE w3 (.slice hva h.length hvc) (.slice aa (tableS h).length ac) h) := ⟨HK1.out.later HB3.out (Nat.le_refl _), HV1.out.below HB3.out (Nat.le_refl _), hl, HC0.out, HAF.out.rd⟩
    have HB33 : Hid (Below (M + 1) w3 w3) := Below.refl _ _
    clear hb2 hb23 haf hch hok HTR
    go_wp2_with fail
    go_loopw [8, 26] (fun y z wr => ∃ (i s : Nat), i ≤ (chL (tableS h)).length ∧ z = .int .i64 (i : Int) ∧ y = .int .i64 (s : Int) ∧ s ≤ BN ∧ Hid (worldG BN (tableS h) ((chL (tableS h)).drop i) s = x0) ∧ Hid (Below (M + 1) w3 wr))
      (fun _ z _ => (chL (tableS h)).length - (intOf z).toNat)
    case atStart => exact ⟨0, 0, by omega, rfl, rfl, by omega, HZ0, HB33⟩
    case round =>
      clear HZ0 HB33 e2
      obtain ⟨i, s, hi, rfl, rfl, hs, HT, HB⟩ := hrel
      have HBW : Hid (Below w1.heap.size w1 wr) := HB3.out.trans (HB.out.mono (by omega))
      have HAW := Lib.hid (HA1.out.below HBW.out hN1)
      by_cases hlt : i < (chL (tableS h)).length
      · obtain ⟨b, o, pc, he, hbl, hcells⟩ := (HCH.out.below HB.out (by omega)).opened (by rw [u32s_len]; omega)
        rw [u32s_len] at he
        simp only [Value.slice.injEq] at he
        obtain ⟨rfl, -, rfl⟩ := he
        have hcj := hcells i _ (u32s_get hlt)
        have hcp := HCL.out _ (List.getElem_mem hlt)
        have hnx := HNX.out i hlt s hs
        clear hcells hbl
        generalize (chL (tableS h))[i] = ci at *
        have hww := HWW.out aa (some ⟨b, o, none⟩) ac (chL (tableS h)).length cc ci s wr (HTE.out.later (by rw [hM3]; exact HB.out)) hcp (fun k => k < w1.heap.size) (fun k hk => Nat.lt_of_lt_of_le hk HBW.out.size) (HAF.out.below (by rw [hM3]; exact HB.out))
        rw [Int.ofNat_sub hs] at hww
        obtain ⟨hv3, -, hv5, -⟩ := choice_tells (B := BN - s) (l := tableS h) (c := ci) HSELF.out 0 (Nat.zero_le _)
        obtain ⟨X, hX⟩ : ∃ X, choiceW (BN - s) (tableS h) ci 0 = X := ⟨_, rfl⟩
        obtain ⟨cx, hcx⟩ : ∃ z, (if X.1 = 0 then ci else 0) = z := ⟨_, rfl⟩
        rw [hX] at hww hnx hv3 hv5
        rw [hcx] at hww hnx
        have HT2 := Lib.hid (hnx.symm.trans HT.out)
        unfold wldV at hww
        have HWW2 := Lib.hid hww
        have he4 := HE3.out.below HB.out (by omega)
        have e0 : wr.cell? ⟨M, 0, none⟩ = some (.slice hva h.length hvc) := he4.cell rfl
        have e1 : wr.cell? ⟨M, 1, none⟩ = some (.slice aa (tableS h).length ac) := he4.cell rfl
        have e2 : wr.cell? ⟨M, 2, none⟩ = some (.slice (some ⟨b, o, none⟩) (chL (tableS h)).length cc) := he4.cell rfl
        have HCX := Lib.hid hcx
        clear hX hcx hnx HT hww he4
        go_wp2_with fail
        refine HWW2.out.mono ?_
        rintro e w4 ⟨rv, ov, rfl, hr4, hcv4, ho4, hb4⟩
        clear e0 e1 e2 HWW2 hcj
        obtain ⟨ra, rc, rfl⟩ := hr4.rd.len
        obtain ⟨oa, oc, rfl⟩ := ho4.fds.len
        obtain ⟨rn, hrn⟩ : ∃ z, (nats X.2.1).length = z := ⟨_, rfl⟩
        obtain ⟨on, hon⟩ : ∃ z, (X.2.2.1.map toFd).length = z := ⟨_, rfl⟩
        rw [hrn] at hr4 hcv4 ⊢
        rw [hon] at ho4 ⊢
        obtain ⟨M5, hM5⟩ : ∃ M5, w4.heap.size = M5 := ⟨_, rfl⟩
        obtain ⟨w5, hw5⟩ : ∃ w5, w4.alloc (.cells #[.int .i64 (X.1 : Int), .int .u32 (cx : Int), .slice ra rn rc, .slice oa on oc, .int .i64 (X.2.2.2 : Int)] 40) = w5 := ⟨_, rfl⟩
        have hb5 : Below w4.heap.size w4 w5 := by
          rw [← hw5]
          exact (Below.refl w4.heap.size w4).alloc (Nat.le_refl _) _
        have HF5 : Hid (At w5 M5 (wldA X.1 cx (.slice ra rn rc) (.slice oa on oc) X.2.2.2) 40) := by
          rw [← hw5, ← hM5]
          exact At.new w4 _ _
        have hwrs : M + 1 ≤ wr.heap.size := by rw [← hM3]; exact HB.out.size
        have hM5s : wr.heap.size ≤ M5 := by rw [← hM5]; exact hb4.size
        have HB5 : Hid (Below (M + 1) w3 w5) := HB.out.trans ((hb4.trans (hb5.mono hb4.size)).mono hwrs)
        have HR4 := Lib.hid hr4
        have HCV4 := Lib.hid hcv4
        have HO4 := Lib.hid ho4
        have HB45 : Hid (Below M5 w4 w5) := by rw [← hM5]; exact hb5
        have q0 : w5.cell? ⟨M5, 0, none⟩ = some (.int .i64 (X.1 : Int)) := HF5.out.cell rfl
        have q4 : w5.cell? ⟨M5, 4, none⟩ = some (.int .i64 (X.2.2.2 : Int)) := HF5.out.cell rfl
        clear hr4 hcv4 ho4 hb4 hb5 HBW HAW hrn hon
        have hsb : s + X.2.2.2 ≤ BN := by omega
        by_cases hv1 : X.1 = 1
        · have HT3 := HT2.out
          rw [if_pos hv1] at HT3
          have HT4 := Lib.hid HT3
          have tv1 : ((X.1 : Int) != 1) = false := by simp [hv1]
          clear HT3 HT2 HR4 HCV4 HO4 hv1
          go_wp2_with fail
          go_roundw
          case rel => exact ⟨i + 1, s + X.2.2.2, by omega, by go_num, by go_num, hsb, HT4, HB5⟩
          case measure => simp [intOf]; omega
        · have HT3 := HT2.out
          rw [if_neg hv1] at HT3
          have HT4 := Lib.hid HT3
          have tv1 : ((X.1 : Int) != 1) = true := by simp; omega
          clear HT3 HT2
          have u4 : w5.frozen? ⟨M5, 4, none⟩ = false := HF5.out.free 4
          go_upto_region 14 with fail
          have HF6 : Hid (At (w5.setCell ⟨M5, 4, none⟩ (.int .i64 ((s : Int) + (X.2.2.2 : Int)))) M5 (wldA X.1 cx (.slice ra rn rc) (.slice oa on oc) (s + X.2.2.2)) 40) := HF5.out.set 4 _
          have HB46 : Hid (Below w4.heap.size w4 (w5.setCell ⟨M5, 4, none⟩ (.int .i64 ((s : Int) + (X.2.2.2 : Int))))) := by
            rw [← hM5] at HB45 ⊢
            exact HB45.out.setCell (Nat.le_refl _) _
          have HB6 : Hid (Below (M + 1) w3 (w5.setCell ⟨M5, 4, none⟩ (.int .i64 ((s : Int) + (X.2.2.2 : Int))))) := HB5.out.setCell (by dsimp only; omega) _
          generalize w5.setCell ⟨M5, 4, none⟩ (.int .i64 ((s : Int) + (X.2.2.2 : Int))) = w6 at *
          have HA6 := Lib.hid (HA1.out.below (HB3.out.trans (HB6.out.mono (by omega))) hN1)
          clear u4 q0 q4
          have u0 : w6.cell? ⟨M5, 0, none⟩ = some (.int .i64 (X.1 : Int)) := HF6.out.cell rfl
          have u1 : w6.cell? ⟨M5, 1, none⟩ = some (.int .u32 (cx : Int)) := HF6.out.cell rfl
          have u2 : w6.cell? ⟨M5, 2, none⟩ = some (.slice ra rn rc) := HF6.out.cell rfl
          have u3 : w6.cell? ⟨M5, 3, none⟩ = some (.slice oa on oc) := HF6.out.cell rfl
          have u4 : w6.cell? ⟨M5, 4, none⟩ = some (.int .i64 ((s : Int) + (X.2.2.2 : Int))) := HF6.out.cell rfl
          have r0 : w6.cell? ⟨N, 0, none⟩ = some (.int .i64 0) := HA6.out.cell rfl
          have r1 : w6.cell? ⟨N, 1, none⟩ = some (.int .u32 0) := HA6.out.cell rfl
          have r2 : w6.cell? ⟨N, 2, none⟩ = some (.slice none 0 0) := HA6.out.cell rfl
          have r3 : w6.cell? ⟨N, 3, none⟩ = some (.slice none 0 0) := HA6.out.cell rfl
          have r4 : w6.cell? ⟨N, 4, none⟩ = some (.int .i64 0) := HA6.out.cell rfl
          have f0 : w6.frozen? ⟨N, 0, none⟩ = false := HA6.out.free 0
          have f1 : w6.frozen? ⟨N, 1, none⟩ = false := HA6.out.free 1
          have f2 : w6.frozen? ⟨N, 2, none⟩ = false := HA6.out.free 2
          have f3 : w6.frozen? ⟨N, 3, none⟩ = false := HA6.out.free 3
          have f4 : w6.frozen? ⟨N, 4, none⟩ = false := HA6.out.free 4
          go_wp2_with fail
          have HZ7 := Lib.hid (wld_set HA6.out (.int .i64 (X.1 : Int)) (.int .u32 (cx : Int)) (.slice ra rn rc) (.slice oa on oc) (.int .i64 ((s : Int) + (X.2.2.2 : Int))))
          have HO7 := Lib.hid (wld_only w6 N (.int .i64 (X.1 : Int)) (.int .u32 (cx : Int)) (.slice ra rn rc) (.slice oa on oc) (.int .i64 ((s : Int) + (X.2.2.2 : Int))))
          generalize (((((w6.setCell ⟨N, 0, none⟩ (.int .i64 (X.1 : Int))).setCell ⟨N, 1, none⟩ (.int .u32 (cx : Int))).setCell ⟨N, 2, none⟩ (.slice ra rn rc)).setCell ⟨N, 3, none⟩ (.slice oa on oc)).setCell ⟨N, 4, none⟩ (.int .i64 ((s : Int) + (X.2.2.2 : Int)))) = w7 at *
          clear r0 r1 r2 r3 r4 f0 f1 f2 f3 f4
          have r0 : w7.cell? ⟨N, 0, none⟩ = some (.int .i64 (X.1 : Int)) := HZ7.out.cell rfl
          have r1 : w7.cell? ⟨N, 1, none⟩ = some (.int .u32 (cx : Int)) := HZ7.out.cell rfl
          have r2 : w7.cell? ⟨N, 2, none⟩ = some (.slice ra rn rc) := HZ7.out.cell rfl
          have r3 : w7.cell? ⟨N, 3, none⟩ = some (.slice oa on oc) := HZ7.out.cell rfl
          have r4 : w7.cell? ⟨N, 4, none⟩ = some (.int .i64 ((s : Int) + (X.2.2.2 : Int))) := HZ7.out.cell rfl
          have HB7 : Hid (Below N w w7) := by
            have h1 := HB1.out.trans ((HB3.out.trans (HB6.out.mono (by omega))).mono HB1.out.size)
            rw [hN] at h1
            exact h1.trans (HO7.out.below (by have := HB6.out.size; omega) (fun k _ hk => by omega))
          have HR7 := Lib.hid (((HR4.out.below HB46.out).only HO7.out (fun k hk => by show k < _; omega)).less (Y := fun k => k < w.heap.size) (fun k hk => by show k < _; omega))
          have HO8 := Lib.hid ((((HO4.out.later HB46.out).only HO7.out (fun k hk => by show k < _; omega) (fun k hk => by have := (HO4.out.top hk).1; omega)).less (T := fun k => k < w.heap.size) (fun k hk => by show k < _; omega)).low (show w.heap.size ≤ wr.heap.size by omega))
          try rw [Exit.noGoto_ret]
          refine bodyPost_ret (v := .tuple #[wldV X.1 cx (.slice ra rn rc) (.slice oa on oc) (s + X.2.2.2), .int .i64 0]) (by simp [results, Tryz.results13, go_sem, r0, r1, r2, r3, r4]; rfl) rfl ?_
          rw [← HT4.out]
          exact ⟨_, _, rfl, HR7.out, HCV4.out, HO8.out, by rw [hN]; exact HB7.out⟩
      · obtain rfl : i = (chL (tableS h)).length := by omega
        have r0 : wr.cell? ⟨N, 0, none⟩ = some (.int .i64 0) := HAW.out.cell rfl
        have r1 : wr.cell? ⟨N, 1, none⟩ = some (.int .u32 0) := HAW.out.cell rfl
        have r2 : wr.cell? ⟨N, 2, none⟩ = some (.slice none 0 0) := HAW.out.cell rfl
        have r3 : wr.cell? ⟨N, 3, none⟩ = some (.slice none 0 0) := HAW.out.cell rfl
        have r4 : wr.cell? ⟨N, 4, none⟩ = some (.int .i64 0) := HAW.out.cell rfl
        have f0 : wr.frozen? ⟨N, 0, none⟩ = false := HAW.out.free 0
        have f1 : wr.frozen? ⟨N, 1, none⟩ = false := HAW.out.free 1
        have f2 : wr.frozen? ⟨N, 2, none⟩ = false := HAW.out.free 2
        have f3 : wr.frozen? ⟨N, 3, none⟩ = false := HAW.out.free 3
        have f4 : wr.frozen? ⟨N, 4, none⟩ = false := HAW.out.free 4
        go_wp2_with fail
        have HZ7 := Lib.hid (wld_set HAW.out (.int .i64 1) (.int .u32 0) (.slice none 0 0) (.slice none 0 0) (.int .i64 (s : Int)))
        have HO7 := Lib.hid (wld_only wr N (.int .i64 1) (.int .u32 0) (.slice none 0 0) (.slice none 0 0) (.int .i64 (s : Int)))
        generalize (((((wr.setCell ⟨N, 0, none⟩ (.int .i64 1)).setCell ⟨N, 1, none⟩ (.int .u32 0)).setCell ⟨N, 2, none⟩ (.slice none 0 0)).setCell ⟨N, 3, none⟩ (.slice none 0 0)).setCell ⟨N, 4, none⟩ (.int .i64 (s : Int))) = w7 at *
        clear r0 r1 r2 r3 r4 f0 f1 f2 f3 f4
        have r0 : w7.cell? ⟨N, 0, none⟩ = some (.int .i64 1) := HZ7.out.cell rfl
        have r1 : w7.cell? ⟨N, 1, none⟩ = some (.int .u32 0) := HZ7.out.cell rfl
        have r2 : w7.cell? ⟨N, 2, none⟩ = some (.slice none 0 0) := HZ7.out.cell rfl
        have r3 : w7.cell? ⟨N, 3, none⟩ = some (.slice none 0 0) := HZ7.out.cell rfl
        have r4 : w7.cell? ⟨N, 4, none⟩ = some (.int .i64 (s : Int)) := HZ7.out.cell rfl
        have HB7 : Hid (Below N w w7) := by
          have h1 := HB1.out.trans (HBW.out.mono HB1.out.size)
          rw [hN] at h1
          exact h1.trans (HO7.out.below (by have := HBW.out.size; omega) (fun k _ hk => by omega))
        try rw [Exit.noGoto_ret]
        refine bodyPost_ret (v := .tuple #[wldV 1 0 (.slice none 0 0) (.slice none 0 0) s, .int .i64 0]) (by simp [results, Tryz.results13, go_sem, r0, r1, r2, r3, r4]; rfl) rfl ?_
        have hT := HT.out
        rw [HEND.out] at hT
        rw [← hT]
        exact ⟨_, _, rfl, .inl ⟨rfl, _, _, rfl⟩, capV_nil, FOwnS.nil0 _ _ _, by rw [hN]; exact HB7.out⟩
  · obtain ⟨er, her⟩ : ∃ er, srchE h B = er := ⟨_, rfl⟩
    rw [her] at HTR hB ⊢
    rw [if_neg hB]
    have te : ((er : Int) != 0) = true := by simp; omega
    clear her
    go_enter Tryz.func13, Tryz.ntmps13
    go_wp2_with fail
    refine HTR.out.mono ?_
    rintro e w2 ⟨hb2, hbad, -⟩
    obtain rfl := hbad hB
    have hba := (Below.refl w2.heap.size w2).alloc (Nat.le_refl _) (.cells #[.slice none 0 0, .slice none 0 0, .slice none 0 0] 48)
    have HB3 : Hid (Below w1.heap.size w1 (w2.alloc (.cells #[.slice none 0 0, .slice none 0 0, .slice none 0 0] 48))) := hb2.trans (hba.mono hb2.size)
    have HA3 := Lib.hid (HA1.out.below HB3.out hN1)
    clear hb2 hba hbad
    have r0 : (w2.alloc (.cells #[.slice none 0 0, .slice none 0 0, .slice none 0 0] 48)).cell? ⟨N, 0, none⟩ = some (.int .i64 0) := HA3.out.cell rfl
    have r1 : (w2.alloc (.cells #[.slice none 0 0, .slice none 0 0, .slice none 0 0] 48)).cell? ⟨N, 1, none⟩ = some (.int .u32 0) := HA3.out.cell rfl
    have r2 : (w2.alloc (.cells #[.slice none 0 0, .slice none 0 0, .slice none 0 0] 48)).cell? ⟨N, 2, none⟩ = some (.slice none 0 0) := HA3.out.cell rfl
    have r3 : (w2.alloc (.cells #[.slice none 0 0, .slice none 0 0, .slice none 0 0] 48)).cell? ⟨N, 3, none⟩ = some (.slice none 0 0) := HA3.out.cell rfl
    have r4 : (w2.alloc (.cells #[.slice none 0 0, .slice none 0 0, .slice none 0 0] 48)).cell? ⟨N, 4, none⟩ = some (.int .i64 0) := HA3.out.cell rfl
    have f0 : (w2.alloc (.cells #[.slice none 0 0, .slice none 0 0, .slice none 0 0] 48)).frozen? ⟨N, 0, none⟩ = false := HA3.out.free 0
    have f1 : (w2.alloc (.cells #[.slice none 0 0, .slice none 0 0, .slice none 0 0] 48)).frozen? ⟨N, 1, none⟩ = false := HA3.out.free 1
    have f2 : (w2.alloc (.cells #[.slice none 0 0, .slice none 0 0, .slice none 0 0] 48)).frozen? ⟨N, 2, none⟩ = false := HA3.out.free 2
    have f3 : (w2.alloc (.cells #[.slice none 0 0, .slice none 0 0, .slice none 0 0] 48)).frozen? ⟨N, 3, none⟩ = false := HA3.out.free 3
    have f4 : (w2.alloc (.cells #[.slice none 0 0, .slice none 0 0, .slice none 0 0] 48)).frozen? ⟨N, 4, none⟩ = false := HA3.out.free 4
    go_wp2_with fail
    have HZ7 := Lib.hid (wld_set HA3.out (.int .i64 0) (.int .u32 0) (.slice none 0 0) (.slice none 0 0) (.int .i64 0))
    have HO7 := Lib.hid (wld_only (w2.alloc (.cells #[.slice none 0 0, .slice none 0 0, .slice none 0 0] 48)) N (.int .i64 0) (.int .u32 0) (.slice none 0 0) (.slice none 0 0) (.int .i64 0))
    generalize ((((((w2.alloc (.cells #[.slice none 0 0, .slice none 0 0, .slice none 0 0] 48)).setCell ⟨N, 0, none⟩ (.int .i64 0)).setCell ⟨N, 1, none⟩ (.int .u32 0)).setCell ⟨N, 2, none⟩ (.slice none 0 0)).setCell ⟨N, 3, none⟩ (.slice none 0 0)).setCell ⟨N, 4, none⟩ (.int .i64 0)) = w7 at *
    clear r0 r1 r2 r3 r4 f0 f1 f2 f3 f4
    have r0 : w7.cell? ⟨N, 0, none⟩ = some (.int .i64 0) := HZ7.out.cell rfl
    have r1 : w7.cell? ⟨N, 1, none⟩ = some (.int .u32 0) := HZ7.out.cell rfl
    have r2 : w7.cell? ⟨N, 2, none⟩ = some (.slice none 0 0) := HZ7.out.cell rfl
    have r3 : w7.cell? ⟨N, 3, none⟩ = some (.slice none 0 0) := HZ7.out.cell rfl
    have r4 : w7.cell? ⟨N, 4, none⟩ = some (.int .i64 0) := HZ7.out.cell rfl
    have HB7 : Hid (Below N w w7) := by
      have h1 := HB1.out.trans (HB3.out.mono HB1.out.size)
      rw [hN] at h1
      exact h1.trans (HO7.out.below (by have := HB3.out.size; omega) (fun k _ hk => by omega))
    try rw [Exit.noGoto_ret]
    refine bodyPost_ret (v := .tuple #[wldV 0 0 (.slice none 0 0) (.slice none 0 0) 0, .int .i64 (er : Int)]) (by simp [results, Tryz.results13, go_sem, r0, r1, r2, r3, r4]; rfl) rfl ?_
    exact ⟨_, _, rfl, .inl ⟨rfl, _, _, rfl⟩, capV_nil, FOwnS.nil0 _ _ _, by rw [hN]; exact HB7.out⟩
end Go.Proofs.YtpjfhdljagkefaaGreatDoor
/- The walks of the reference's Bit, Choice and Choices. -/
namespace Go.Proofs.YtpjfhdljagkefaaGreatDoor.WPlain
end Go.Proofs.YtpjfhdljagkefaaGreatDoor.WPlain
namespace Go.Proofs.YtpjfhdljagkefaaGreatDoor.QPlain
end Go.Proofs.YtpjfhdljagkefaaGreatDoor.QPlain
namespace Go.Proofs.YtpjfhdljagkefaaGreatDoor.RPlain
end Go.Proofs.YtpjfhdljagkefaaGreatDoor.RPlain
namespace Go.Proofs.YtpjfhdljagkefaaGreatDoor
open Go.RowKit WPlain QPlain RPlain

set_option maxRecDepth 100000 in
theorem refBit9_any (n k : Nat) (hn : n < 4294967296) (hk : k ≤ 65536) (w : World) : Calls Tryz.prog 22 #[.int .u32 (n : Int), .int .i64 (k : Int)] w fun e w' => e = .returned (.bool (n.testBit k)) ∧ w' = w := by
  have HFIN : Hid (n.testBit k = decide (n / 2 ^ k % 2 = 1)) := Nat.testBit_eq_decide_div_mod_eq
  go_enter Tryz.func22, Tryz.ntmps22
  go_wp2_with fail
  go_loopw [0, 5] (fun y x wr => ∃ i : Nat, i ≤ k ∧ x = .int .i64 i ∧ (∃ p : Nat, y = .int .u32 p ∧ p < 4294967296 ∧ Hid (p = n / 2 ^ i)) ∧ wr = w) (fun _ x _ => k - (intOf x).toNat)
  case atStart => exact ⟨0, by omega, rfl, ⟨n, rfl, hn, by unfold Hid; rw [Nat.pow_zero, Nat.div_one]⟩, rfl⟩
  case round =>
    obtain ⟨i, hi, rfl, ⟨p, rfl, hp, HP⟩, rfl⟩ := hrel
    by_cases hlt : i < k
    · have HP2 : Hid (p / 2 = n / 2 ^ (i + 1)) := by unfold Hid; rw [HP.out, Nat.div_div_eq_div_mul, Nat.pow_succ]
      clear HP
      go_wp2
      go_roundw
      case rel => exact ⟨i + 1, by omega, by go_num, ⟨p / 2, by go_num, by omega, HP2⟩, trivial⟩
      case measure => simp [intOf]; omega
    · obtain rfl : i = k := by omega
      rw [← HP.out] at HFIN
      clear HP
      go_wp2
      go_ret
      exact ⟨ret_bool (by rw [HFIN.out, Bool.eq_iff_iff]; simp; omega), rfl⟩
theorem choice_take {n : Nat} {l : List Tx} {k : Nat} (hk : k < l.length) : choiceG n 0 (l.take (k + 1)) = (choiceG n 0 (l.take k) && okBit l[k].s (n.testBit k)) := by
  rw [List.take_succ_eq_append_getElem hk, choiceG_snoc, List.length_take, Nat.min_eq_left (by omega), Nat.zero_add]
theorem choice_stop {n : Nat} {l : List Tx} {k : Nat} (hk : k < l.length) (h : okBit l[k].s (n.testBit k) = false) : choiceS l n = false := by
  unfold choiceS
  rw [Bool.and_eq_false_iff]
  left
  cases hc : choiceG n 0 l with
  | false => rfl
  | true =>
    have := choice_at hc hk
    rw [Nat.zero_add, h] at this
    exact absurd this (by decide)
set_option maxRecDepth 100000 in
set_option maxHeartbeats 1000000 in
theorem refChoice_any (v : Value) (l : List Tx) (n : Nat) (w : World) (hv : Txs w v l) (hl : l.length ≤ 65536) (hn : n < 4294967296) :
    Calls Tryz.prog 9 #[v, .int .u32 (n : Int)] w fun e w' => e = .returned (.bool (choiceS l n)) ∧ Below w.heap.size w w' := by
  have HV := Lib.hid hv
  have HB0 := Lib.hid (Below.refl w.heap.size w)
  obtain ⟨a, c, rfl⟩ := hv.len
  clear hv
  go_enter Tryz.func9, Tryz.ntmps9
  go_wp2_with fail
  go_loopw [9] (fun x wr => ∃ k : Nat, k ≤ l.length ∧ x = .int .i64 k ∧ Hid (choiceG n 0 (l.take k) = true) ∧ Hid (Below w.heap.size w wr)) (fun x _ => l.length - (intOf x).toNat)
  case atStart => exact ⟨0, by omega, rfl, rfl, HB0⟩
  case round =>
    clear HB0
    obtain ⟨k, hk, rfl, HC, HB⟩ := hrel
    by_cases hlt : k < l.length
    · have hT := HV.out.below HB.out (Nat.le_refl _)
      obtain ⟨b, o, c', he⟩ := hT.opened (by omega)
      simp only [Value.slice.injEq] at he
      obtain ⟨rfl, -, rfl⟩ := he
      obtain ⟨u, x0, x1, x2, x3, x4, q⟩ := hT.get k hlt
      obtain ⟨ua, uc, rfl, -⟩ := q.len
      have HB2 := Lib.hid (HB.out.alloc HB.out.size (.cells #[.int .i64 l[k].n, .int .i64 l[k].f, .int .i64 l[k].l, .int .i64 l[k].s, .slice ua l[k].o.length uc] 56))
      have hA := At.new wr #[.int .i64 l[k].n, .int .i64 l[k].f, .int .i64 l[k].l, .int .i64 l[k].s, .slice ua l[k].o.length uc] 56
      have HBT := Lib.hid (fun (W : World) => refBit9_any n k hn (by omega) W)
      have HTK := Lib.hid (choice_take (n := n) hlt)
      have HST := Lib.hid (choice_stop (n := n) hlt)
      generalize n.testBit k = bb at *
      generalize l[k] = X at *
      have y3 := hA.cell (i := 3) rfl
      have hok : okBit X.s bb = (if bb = true then decide (X.s = 1) || decide (X.s = 2) else !decide (X.s = 2)) := rfl
      clear hT q hA HB
      cases bb with
      | true =>
        by_cases h2 : X.s = 2
        · have HC2 : Hid (choiceG n 0 (l.take (k + 1)) = true) := by unfold Hid; rw [HTK.out, HC.out, hok, if_pos rfl]; simp [h2]
          have t2 : ((X.s : Int) != 2) = false := by simp [h2]
          clear hok h2 HTK HST HC
          go_wp2_with (go_at_call 22; refine (HBT.out _).mono ?_; rintro e w3 ⟨rfl, rfl⟩)
          all_goals go_roundw
          case rel => exact ⟨k + 1, by omega, by go_num, HC2, HB2⟩
          case measure => simp [intOf]; omega
        · by_cases h1 : X.s = 1
          · have HC2 : Hid (choiceG n 0 (l.take (k + 1)) = true) := by unfold Hid; rw [HTK.out, HC.out, hok, if_pos rfl]; simp [h1]
            have t2 : ((X.s : Int) != 2) = true := by simp [h2]
            have t1 : ((X.s : Int) != 1) = false := by simp [h1]
            clear hok h1 h2 HTK HST HC
            go_wp2_with (go_at_call 22; refine (HBT.out _).mono ?_; rintro e w3 ⟨rfl, rfl⟩)
            all_goals go_roundw
            case rel => exact ⟨k + 1, by omega, by go_num, HC2, HB2⟩
            case measure => simp [intOf]; omega
          · have HC2 : Hid (choiceS l n = false) := HST.out (by rw [hok, if_pos rfl]; simp [h1, h2])
            have t2 : ((X.s : Int) != 2) = true := by simp [h2]
            have t1 : ((X.s : Int) != 1) = true := by simp [h1]
            clear hok h1 h2 HTK HST HC
            go_wp2_with (go_at_call 22; refine (HBT.out _).mono ?_; rintro e w3 ⟨rfl, rfl⟩)
            go_ret
            exact ⟨ret_bool HC2.out.symm, HB2.out⟩
      | false =>
        by_cases h2 : X.s = 2
        · have HC2 : Hid (choiceS l n = false) := HST.out (by rw [hok, if_neg (by decide)]; simp [h2])
          have t2 : ((X.s : Int) == 2) = true := by simp [h2]
          clear hok h2 HTK HST HC
          go_wp2_with (go_at_call 22; refine (HBT.out _).mono ?_; rintro e w3 ⟨rfl, rfl⟩)
          go_ret
          exact ⟨ret_bool HC2.out.symm, HB2.out⟩
        · have HC2 : Hid (choiceG n 0 (l.take (k + 1)) = true) := by unfold Hid; rw [HTK.out, HC.out, hok, if_neg (by decide)]; simp [h2]
          have t2 : ((X.s : Int) == 2) = false := by simp [h2]
          clear hok h2 HTK HST HC
          go_wp2_with (go_at_call 22; refine (HBT.out _).mono ?_; rintro e w3 ⟨rfl, rfl⟩)
          all_goals go_roundw
          case rel => exact ⟨k + 1, by omega, by go_num, HC2, HB2⟩
          case measure => simp [intOf]; omega
    · obtain rfl : k = l.length := by omega
      have HF : Hid (choiceS l n = decide (n / 2 ^ l.length = 0)) := by
        unfold Hid choiceS
        have := HC.out
        rw [List.take_length] at this
        rw [this, Bool.true_and, Bool.eq_iff_iff, decide_eq_true_eq, decide_eq_true_eq, Nat.div_eq_zero_iff]
        have := Nat.two_pow_pos l.length
        omega
      clear HC
      obtain ⟨w9, hw9⟩ : ∃ w9 : World, w9 = wr := ⟨wr, rfl⟩
      subst hw9
      go_wp2_with fail
      go_loopw [1, 41] (fun y x wr => ∃ i : Nat, i ≤ l.length ∧ x = .int .i64 i ∧ (∃ p : Nat, y = .int .u32 p ∧ p < 4294967296 ∧ Hid (p = n / 2 ^ i)) ∧ wr = w9) (fun _ x _ => l.length - (intOf x).toNat)
      case atStart => exact ⟨0, by omega, rfl, ⟨n, rfl, hn, by unfold Hid; rw [Nat.pow_zero, Nat.div_one]⟩, rfl⟩
      case round =>
        obtain ⟨i, hi, rfl, ⟨p, rfl, hp, HP⟩, rfl⟩ := hrel
        by_cases hlt : i < l.length
        · have HP2 : Hid (p / 2 = n / 2 ^ (i + 1)) := by unfold Hid; rw [HP.out, Nat.div_div_eq_div_mul, Nat.pow_succ]
          clear HP
          go_wp2
          go_roundw
          case rel => exact ⟨i + 1, by omega, by go_num, ⟨p / 2, by go_num, by omega, HP2⟩, trivial⟩
          case measure => simp [intOf]; omega
        · obtain rfl : i = l.length := by omega
          rw [← HP.out] at HF
          clear HP
          go_wp2
          go_ret
          exact ⟨ret_bool (by rw [HF.out, Bool.eq_iff_iff]; simp), HB.out⟩
theorem choices_step (l : List Tx) (k : Nat) : (List.range (k + 1)).filter (choiceS l) = if choiceS l k = true then (List.range k).filter (choiceS l) ++ [k] else (List.range k).filter (choiceS l) := by
  rw [List.range_succ, List.filter_append]
  cases hc : choiceS l k <;> simp [hc]
end Go.Proofs.YtpjfhdljagkefaaGreatDoor
/- The walks of the reference's with, Keeps. -/
namespace Go.Proofs.YtpjfhdljagkefaaGreatDoor.RPlain
end Go.Proofs.YtpjfhdljagkefaaGreatDoor.RPlain
namespace Go.Proofs.YtpjfhdljagkefaaGreatDoor
open Go.RowKit RPlain

end Go.Proofs.YtpjfhdljagkefaaGreatDoor
/- The walk of the reference's All. -/
namespace Go.Proofs.YtpjfhdljagkefaaGreatDoor.RPlain
end Go.Proofs.YtpjfhdljagkefaaGreatDoor.RPlain
namespace Go.Proofs.YtpjfhdljagkefaaGreatDoor
open Go.RowKit RPlain

/-- rows of places, each a row of the call's own -/
def RowsO (B : Nat) (w : World) (vs : List Value) (rows : List (List Nat)) : Prop :=
  vs.length = rows.length ∧ ∀ i (hi : i < rows.length) (h : i < vs.length), w.ownsRow B 3 1 vs[i] rows[i].length (nats rows[i])
theorem RowsO.below {B : Nat} {w w' : World} {vs : List Value} {rows : List (List Nat)} (h : RowsO B w vs rows) (hb : Below w.heap.size w w') : RowsO B w' vs rows :=
  ⟨h.1, fun i hi hi' => (h.2 i hi hi').kept (grownB11 hb) (by cases (vs[i]).ownBlock <;> simp)⟩
theorem RowsO.grown {B B2 : Nat} {w w' : World} {vs us : List Value} {rows : List (List Nat)} {z : Value} {n : Nat} (h : RowsO B w vs rows) (hz : w.ownsRow B2 24 1 z n us) (hg : w.grownBy w' z.ownBlock) : RowsO B w' vs rows :=
  ⟨h.1, fun i hi hi' => (h.2 i hi hi').kept hg (row_apart (h.2 i hi hi') hz (by decide))⟩
theorem RowsO.snoc {B : Nat} {w : World} {vs : List Value} {rows : List (List Nat)} {v : Value} {r : List Nat} (h : RowsO B w vs rows) (hv : w.ownsRow B 3 1 v r.length (nats r)) : RowsO B w (vs ++ [v]) (rows ++ [r]) := by
  obtain ⟨h1, h2⟩ := h
  refine ⟨by simp [h1], fun i hi hi' => ?_⟩
  by_cases hlt : i < rows.length
  · simp only [List.getElem_append_left hlt, List.getElem_append_left (show i < vs.length by omega)]
    exact h2 i hlt (by omega)
  · obtain rfl : i = rows.length := by simp at hi; omega
    have e1 : (rows ++ [r])[rows.length] = r := by simp
    have e2 : (vs ++ [v])[rows.length]'hi' = v := by simp [← h1]
    rw [e1, e2]
    exact hv
theorem RowsO.get {B : Nat} {w : World} {vs : List Value} {rows : List (List Nat)} (h : RowsO B w vs rows) {i : Nat} (hi : i < rows.length) : ∃ a c, vs[i]? = some (.slice a rows[i].length c) ∧ w.ownsRow B 3 1 (.slice a rows[i].length c) rows[i].length (nats rows[i]) := by
  have hi' : i < vs.length := by rw [h.1]; exact hi
  have h2 := h.2 i hi hi'
  obtain ⟨a, c, he⟩ := row_slice h2
  refine ⟨a, c, by rw [List.getElem?_eq_getElem hi', he], ?_⟩
  rw [← he]
  exact h2
theorem ownCap11 {w : World} {B : Nat} {e : TypeId} {s : Nat} {v : Value} {n : Nat} {xs : List Value} (h : w.ownsRow B e s v n xs) : ∀ a m c, v = .slice a m c → m ≤ c := by
  intro a m c he
  rcases h.2 with ⟨rfl, rfl⟩ | ⟨g, cap, cur, rfl, _, _, hc, _⟩
  · simp only [Value.slice.injEq] at he
    obtain ⟨-, rfl, rfl⟩ := he
    omega
  · simp only [Value.slice.injEq] at he
    obtain ⟨-, rfl, rfl⟩ := he
    exact hc
theorem ext_mem {n : Nat} {p : List Nat → Nat → Bool} {s : Nat} {r : List Nat} (h : r ∈ extP n p s []) : r.length = s ∧ (∀ k ∈ r, k < n) ∧ stepsP p [] r = true := by
  rw [ext_filter] at h
  simp only [List.nil_append, List.map_id'] at h
  obtain ⟨h1, h2⟩ := List.mem_filter.1 h
  obtain ⟨h3, h4⟩ := allT_mem.1 h1
  exact ⟨h3, h4, h2⟩
/-- what holds while the next rows are gathered -/
structure LvlR (B B2 : Nat) (w0 : World) (y : Value) (vs : List Value) (L : List (List Nat)) (z : Value) (acc : List (List Nat)) (w : World) : Prop where
  out : w.ownsRow B 24 1 y L.length vs
  rows : RowsO B w vs L
  acc : ∃ us, w.ownsRow B2 24 1 z acc.length us ∧ RowsO B w us acc
  bel : Below B w0 w
  low : ∀ g, y.ownBlock = some g → g < B2
  top : B2 ≤ w.heap.size
  base : B ≤ B2
theorem LvlR.below {B B2 : Nat} {w0 : World} {y : Value} {vs : List Value} {L : List (List Nat)} {z : Value} {acc : List (List Nat)} {w w' : World} (h : LvlR B B2 w0 y vs L z acc w) (hb : Below w.heap.size w w') : LvlR B B2 w0 y vs L z acc w' := by
  obtain ⟨h1, h2, ⟨us, h3, h4⟩, h5, h6, h7, h8⟩ := h
  exact ⟨h1.kept (grownB11 hb) (by cases y.ownBlock <;> simp), h2.below hb, ⟨us, h3.kept (grownB11 hb) (by cases z.ownBlock <;> simp), h4.below hb⟩, h5.trans (hb.mono (by omega)), h6, Nat.le_trans h7 hb.size, h8⟩
theorem LvlR.push {B B2 : Nat} {w0 : World} {y : Value} {vs us : List Value} {L : List (List Nat)} {z : Value} {acc : List (List Nat)} {w w' : World} {v : Value} {r : List Nat} {z' : Value} (h : LvlR B B2 w0 y vs L z acc w)
    (hv : w.ownsRow B 3 1 v r.length (nats r)) (hu : w.ownsRow B2 24 1 z acc.length us) (hr : RowsO B w us acc) (hz : w'.ownsRow B2 24 1 z' (acc.length + 1) (us ++ [v])) (hg : w.grownBy w' z.ownBlock) : LvlR B B2 w0 y vs L z' (acc ++ [r]) w' := by
  obtain ⟨h1, h2, _, h5, h6, h7, h8⟩ := h
  refine ⟨h1.kept hg ?_, h2.grown hu hg, ⟨us ++ [v], by simpa using hz, RowsO.snoc (hr.grown hu hg) (hv.kept hg (row_apart hv hu (by decide)))⟩, h5.grown hg (by omega) (fun k e => Nat.le_trans h8 (hu.lt k e).1), h6, Nat.le_trans h7 hg.size, h8⟩
  cases hy : y.ownBlock with
  | none => exact .inl rfl
  | some g =>
    refine .inr fun e => ?_
    have h9 := (hu.lt g e.symm).1
    have h10 := h6 g hy
    omega
end Go.Proofs.YtpjfhdljagkefaaGreatDoor
/- The walks of the reference's Before, Bit and After. -/
namespace Go.Proofs.YtpjfhdljagkefaaGreatDoor.WPlain
end Go.Proofs.YtpjfhdljagkefaaGreatDoor.WPlain
namespace Go.Proofs.YtpjfhdljagkefaaGreatDoor.QPlain
end Go.Proofs.YtpjfhdljagkefaaGreatDoor.QPlain
namespace Go.Proofs.YtpjfhdljagkefaaGreatDoor.RPlain
end Go.Proofs.YtpjfhdljagkefaaGreatDoor.RPlain
namespace Go.Proofs.YtpjfhdljagkefaaGreatDoor
open Go.RowKit WPlain QPlain RPlain

set_option maxRecDepth 100000 in
set_option maxHeartbeats 1000000 in
theorem refBefore_any (v : Value) (l : List Tx) (i k : Nat) (w : World) (hv : Txs w v l) (hi : i < l.length) (hk : k < l.length) (hl : l.length ≤ 65536) :
    Calls Tryz.prog 46 #[v, .int .i64 (i : Int), .int .i64 (k : Int)] w fun e w' => e = .returned (.bool (bfr l[i] l[k])) ∧ ∃ z, w' = w.drewN z := by
  obtain ⟨b, o, c, rfl⟩ := hv.opened (by omega)
  obtain ⟨u, x0, x1, x2, x3, x4, q⟩ := hv.get i hi
  obtain ⟨u', y0, y1, y2, y3, y4, q'⟩ := hv.get k hk
  clear q q' x0 x4 y0 y2 y3 y4 hv
  generalize l[i] = X at *
  generalize l[k] = Y at *
  by_cases h2 : X.s = 2
  · have HF : Hid (bfr X Y = decide (X.l < Y.f)) := by unfold Hid bfr; simp [h2]
    rw [h2] at x3
    clear h2
    go_enter Tryz.func46, Tryz.ntmps46
    go_wp2_with fail
    go_quiet (fail)
    go_wp2
    go_ret
    exact ⟨by rw [HF.out]; rfl, _, rfl⟩
  · by_cases h3 : X.s = 3
    · have HF : Hid (bfr X Y = decide (X.l < Y.f)) := by unfold Hid bfr; simp [h3]
      rw [h3] at x3
      clear h2 h3
      go_enter Tryz.func46, Tryz.ntmps46
      go_wp2_with fail
      go_quiet (fail)
      go_wp2
      go_ret
      exact ⟨by rw [HF.out]; rfl, _, rfl⟩
    · have HF : Hid (bfr X Y = false) := by unfold Hid bfr; simp [h2, h3]
      have t2 : (X.s == 2) = false := by simp [h2]
      have t3 : (X.s == 3) = false := by simp [h3]
      clear h2 h3
      go_enter Tryz.func46, Tryz.ntmps46
      go_wp2_with fail
      go_quiet (fail)
      go_wp2
      go_ret
      exact ⟨by rw [HF.out]; rfl, _, rfl⟩
end Go.Proofs.YtpjfhdljagkefaaGreatDoor
/- The walks of the reference's small functions: in, with, Bits, Of, Why, All, left, free. -/
namespace Go.Proofs.YtpjfhdljagkefaaGreatDoor.WPlain
end Go.Proofs.YtpjfhdljagkefaaGreatDoor.WPlain
namespace Go.Proofs.YtpjfhdljagkefaaGreatDoor.QPlain
end Go.Proofs.YtpjfhdljagkefaaGreatDoor.QPlain
namespace Go.Proofs.YtpjfhdljagkefaaGreatDoor.RPlain
end Go.Proofs.YtpjfhdljagkefaaGreatDoor.RPlain
namespace Go.Proofs.YtpjfhdljagkefaaGreatDoor
open Go.RowKit WPlain QPlain RPlain

set_option maxHeartbeats 1000000 in
theorem refIn0_any (v : Value) (xs : List Int) (x : Int) (w : World) (h : Rd w v (ints xs)) (hl : xs.length ≤ 2147483648) :
    Calls Tryz.prog 98 #[v, .int .i64 x] w fun e w' => e = .returned (.bool (xs.contains x)) ∧ w = w' := by
  obtain ⟨r, hr⟩ : ∃ r, r = xs.contains x := ⟨_, rfl⟩
  rw [← hr]
  have HR := Lib.hid hr
  have HH := Lib.hid h
  obtain ⟨a, c, rfl⟩ := h.len
  rw [ints_len] at HH ⊢
  clear hr h
  go_enter Tryz.func98, Tryz.ntmps98
  go_wp2_with fail
  go_loop [9] (fun i => ∃ k : Nat, k ≤ xs.length ∧ i = .int .i64 k ∧ Hid (∀ j, j < k → xs[j]? ≠ some x)) (fun i => xs.length - (intOf i).toNat)
  case atStart => exact ⟨0, by omega, rfl, fun j hj => absurd hj (Nat.not_lt_zero _)⟩
  case round =>
    obtain ⟨k, hk, rfl, HN⟩ := hrel
    by_cases hlt : k < xs.length
    · obtain ⟨b, o, c', he, hb, hc⟩ := HH.out.opened (by rw [ints_len]; omega)
      have hck := hc k (.int .i64 xs[k]) (by unfold ints; rw [List.getElem?_map, List.getElem?_eq_getElem hlt]; rfl)
      simp only [ints_len, Value.slice.injEq, true_and] at he
      obtain ⟨rfl, rfl⟩ := he
      clear hc
      have hg : xs[k]? = some xs[k] := List.getElem?_eq_getElem hlt
      by_cases hx : xs[k] = x
      · have HF : Hid (r = true) := by
          unfold Hid
          rw [HR.out]
          rw [List.contains_iff_mem]
          rw [← hx]
          exact List.getElem_mem _
        rw [hx] at hck
        clear hx hg
        go_wp2
        go_ret
        exact ⟨by rw [HF.out]; rfl, rfl⟩
      · have HN2 : Hid (∀ j, j < k + 1 → xs[j]? ≠ some x) := by
          intro j hj
          by_cases hj' : j < k
          · exact HN.out j hj'
          · obtain rfl : j = k := by omega
            rw [hg]
            intro h
            exact hx (Option.some.inj h)
        have tx : ((xs[k] : Int) == x) = false := by simpa using hx
        clear hx hg
        generalize xs[k] = y at *
        go_wp2
        go_round
        case rel => exact ⟨k + 1, by omega, by go_num, HN2⟩
        case measure => simp [intOf]; omega
    · have HF : Hid (r = false) := by
        unfold Hid
        rw [HR.out]
        cases hcn : xs.contains x with
        | false => rfl
        | true =>
          rw [List.contains_iff_mem] at hcn
          obtain ⟨j, hj, hjx⟩ := List.mem_iff_getElem.1 hcn
          exact absurd (by rw [List.getElem?_eq_getElem hj, hjx]) (HN.out j (by omega))
      go_wp2
      go_ret
      exact ⟨by rw [HF.out]; rfl, rfl⟩

theorem refInS_any (v : Value) (L : List Nat) (x : Nat) (w : World) (h : Rd w v (nats L)) (hl : L.length ≤ 65536) :
    Calls Tryz.prog 98 #[v, .int .i64 (x : Int)] w fun e w' => e = .returned (.bool (L.contains x)) ∧ w = w' := by
  rw [nats_intsS] at h
  have he : (L.map fun (y : Nat) => (y : Int)).contains (x : Int) = L.contains x := by
    rw [Bool.eq_iff_iff]
    simp only [List.contains_eq_mem, List.mem_map, decide_eq_true_eq]
    exact ⟨fun ⟨y, hy, e⟩ => by rw [← Int.ofNat_inj.1 e]; exact hy, fun h => ⟨x, h, rfl⟩⟩
  rw [← he]
  exact refIn0_any v _ _ w h (by simp; omega)
set_option maxRecDepth 100000 in
set_option maxHeartbeats 1000000 in
theorem refWithS_any (v : Value) (row : List Nat) (k : Nat) (w : World) (hv : Rd w v (nats row)) (hs : SrcN v) (hl : row.length ≤ 1000) :
    Calls Tryz.prog 75 #[v, .int .i64 (k : Int)] w fun e w' => ∃ v', e = .returned v' ∧ w'.ownsRow w.heap.size 3 1 v' (row.length + 1) (nats (row ++ [k])) ∧ SrcN v' ∧ Below w.heap.size w w' := by
  obtain ⟨j0, hj0, hy0, hy1', hy2'⟩ := info_parts infoN11
  have HV := Lib.hid hv
  have HS := Lib.hid hs
  obtain ⟨a, c, rfl⟩ := hv.len
  rw [nats_len] at HV HS ⊢
  have hba : Below w.heap.size w (w.alloc (.cells #[] 3)) := (Below.refl _ w).alloc (Nat.le_refl _) _
  have HBA := Lib.hid hba
  have HOA := Lib.hid (World.ownsRow_made (e := 3) (base := w.heap.size) (size := 1) w #[] 0 (Nat.le_refl _) (by unfold maxLen; omega) (by simp))
  have HNA : Hid (nats row ++ [.int .i64 (k : Int)] = nats (row ++ [k])) := by unfold Hid; simp [nats]
  clear hv hs hba
  go_enter Tryz.func75, Tryz.ntmps75
  go_wp2_with (at_builtin; refine wpList_append_srcI rfl _ _ rfl w.heap.size _ 0 [] rfl HOA.out _ row rfl (HV.out.below HBA.out (Nat.le_refl _)) HS.out (by omega) HBA.out.size ?_)
  intro v1 w1 ho1 hg1
  have hb1 := HBA.out.grown hg1 HBA.out.size (fun x hx => (HOA.out.lt x hx).1)
  have HO1 := Lib.hid ho1
  have HB1 := Lib.hid hb1
  obtain ⟨a1, c1, rfl⟩ := row_slice ho1
  clear ho1 hg1 hb1
  go_wp2_with (at_builtin; refine wpList_append_own _ rfl _ _ 24 rfl w.heap.size 3 j0 (.int .i64 0) 1 8 Tryz.underlying24 hj0 hy0 hy1' hy2' rfl (by decide) (.slice a1 row.length c1) row.length (nats row) rfl (HO1.out.alloc _) ⟨w1.heap.size, 0, none⟩ 1 1 [.int .i64 (k : Int)] rfl rfl (cell_one_at w1 _ _) (one_int _ _) (by unfold maxLen; omega) (by omega) (by have := HB1.out.size; simp; omega) ?_)
  intro v2 w2 ho2 hg2 _
  rw [HNA.out] at ho2
  have HO2 := Lib.hid ho2
  have HB2 := Lib.hid ((HB1.out.alloc HB1.out.size _).grown hg2 (by have := HB1.out.size; simp; omega) (fun x hx => (HO1.out.lt x hx).1))
  obtain ⟨a2, c2, rfl⟩ := row_slice ho2
  clear ho2 hg2
  go_wp2
  go_ret
  exact ⟨_, rfl, HO2.out, SrcN.of_row HO2.out, HB2.out⟩
set_option maxRecDepth 100000 in
theorem refBitsS_any (v : Value) (l : List Tx) (n : Nat) (w : World) (hv : Txs w v l) (hl : l.length ≤ 65536) (hn : n < 4294967296) :
    Calls Tryz.prog 8 #[v, .int .u32 (n : Int)] w fun e w' => e = .returned (.bool (decide (n < 2 ^ l.length))) ∧ w' = w := by
  have HF : Hid (decide (n < 2 ^ l.length) = decide (n / 2 ^ l.length = 0)) := decide_eq_decide.2 (by
    have hp : 0 < 2 ^ l.length := Nat.two_pow_pos _
    rw [Nat.div_eq_zero_iff]
    omega)
  obtain ⟨a, c, rfl⟩ := hv.len
  clear hv
  go_enter Tryz.func8, Tryz.ntmps8
  go_wp2_with fail
  go_loopw [1, 7] (fun y x wr => ∃ i : Nat, i ≤ l.length ∧ x = .int .i64 i ∧ (∃ p : Nat, y = .int .u32 p ∧ p < 4294967296 ∧ Hid (p = n / 2 ^ i)) ∧ wr = w) (fun _ x _ => l.length - (intOf x).toNat)
  case atStart => exact ⟨0, by omega, rfl, ⟨n, rfl, hn, by unfold Hid; rw [Nat.pow_zero, Nat.div_one]⟩, rfl⟩
  case round =>
    obtain ⟨i, hi, rfl, ⟨p, rfl, hp, HP⟩, rfl⟩ := hrel
    by_cases hlt : i < l.length
    · have HP2 : Hid (p / 2 = n / 2 ^ (i + 1)) := by unfold Hid; rw [HP.out, Nat.div_div_eq_div_mul, Nat.pow_succ]
      clear HP
      go_wp2
      go_roundw
      case rel => exact ⟨i + 1, by omega, by go_num, ⟨p / 2, by go_num, by omega, HP2⟩, trivial⟩
      case measure => simp [intOf]; omega
    · obtain rfl : i = l.length := by omega
      rw [← HP.out] at HF
      clear HP
      go_wp2
      go_ret
      exact ⟨ret_bool (by rw [HF.out, Bool.eq_iff_iff]; simp), rfl⟩
theorem refOfS_any (v : Value) (h : List Ev) (w : World) (hv : Evs w v h) (hl : h.length ≤ 65536) (hcap : ∀ a n c, v = .slice a n c → n ≤ c) :
    Calls Tryz.prog 7 #[v] w fun e w' => ∃ v', e = .returned v' ∧ Txs w' v' (tableS h) ∧ Below w.heap.size w w' := by
  have HT := Lib.hid (refTable_any v h w hv hl hcap)
  clear hv
  go_enter Tryz.func7, Tryz.ntmps7
  go_wp2_with fail
  refine HT.out.mono ?_
  rintro e w1 ⟨v1, rfl, hv1, hb1⟩
  have HV1 := Lib.hid hv1
  have HB1 := Lib.hid hb1
  obtain ⟨a1, c1, rfl⟩ := hv1.len
  clear hv1 hb1
  go_wp2
  go_ret
  exact ⟨_, rfl, HV1.out, HB1.out⟩
set_option maxRecDepth 100000 in
theorem refWhyS_any (v : Value) (h : List Ev) (B : Int) (w : World) (hv : Evs w v h) (hl : h.length ≤ 65536) (hcap : ∀ a n c, v = .slice a n c → n ≤ c) :
    Calls Tryz.prog 6 #[v, .int .i64 B] w fun e w' => e = .returned (.int .i64 ((srchE h B : Nat) : Int)) ∧ Below w.heap.size w w' := by
  have HW := Lib.hid (why_any v h w hv hl hcap)
  rw [whyS_check] at HW
  clear hv
  unfold srchE
  by_cases h0 : (checkS h).2 = 0
  · simp only [if_pos h0]
    rw [h0] at HW
    clear h0
    by_cases h1 : B < 0
    · have h2 : B < 0 ∨ 1000000 < B := .inl h1
      simp only [if_pos h2]
      clear h2
      go_enter Tryz.func6, Tryz.ntmps6
      go_wp2_with fail
      refine HW.out.mono ?_
      rintro e w1 ⟨rfl, hb1⟩
      have HB1 := Lib.hid hb1
      clear hb1
      go_wp2
      go_ret
      exact ⟨rfl, HB1.out⟩
    · by_cases h3 : 1000000 < B
      · have h2 : B < 0 ∨ 1000000 < B := .inr h3
        simp only [if_pos h2]
        clear h2
        go_enter Tryz.func6, Tryz.ntmps6
        go_wp2_with fail
        refine HW.out.mono ?_
        rintro e w1 ⟨rfl, hb1⟩
        have HB1 := Lib.hid hb1
        clear hb1
        go_wp2
        go_ret
        exact ⟨rfl, HB1.out⟩
      · have h2 : ¬ (B < 0 ∨ 1000000 < B) := by omega
        simp only [if_neg h2]
        clear h2
        go_enter Tryz.func6, Tryz.ntmps6
        go_wp2_with fail
        refine HW.out.mono ?_
        rintro e w1 ⟨rfl, hb1⟩
        have HB1 := Lib.hid hb1
        clear hb1
        go_wp2
        go_ret
        exact ⟨rfl, HB1.out⟩
  · simp only [if_neg h0]
    obtain ⟨er, her⟩ : ∃ er, (checkS h).2 = er := ⟨_, rfl⟩
    rw [her] at h0 HW ⊢
    have te : ((er : Int) == 0) = false := by rw [beq_eq_false_iff_ne]; omega
    clear her h0
    go_enter Tryz.func6, Tryz.ntmps6
    go_wp2_with fail
    refine HW.out.mono ?_
    rintro e w1 ⟨rfl, hb1⟩
    have HB1 := Lib.hid hb1
    clear hb1
    go_wp2
    go_ret
    exact ⟨rfl, HB1.out⟩
end Go.Proofs.YtpjfhdljagkefaaGreatDoor
