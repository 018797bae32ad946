/- Merged: WorQ, WorR, LegH, SrlJ. -/
import Derived.Test.YtpjfhdljagkefaaDoorWorP
import Derived.Test.YtpjfhdljagkefaaDoorMg12
import Derived.Test.YtpjfhdljagkefaaDoorMg5
import Derived.Test.YtpjfhdljagkefaaDoorMg2
import Derived.Test.YtpjfhdljagkefaaDoorMg11
import Derived.Test.YtpjfhdljagkefaaDoorShelf
import Derived.Test.YtpjfhdljagkefaaDoorLegC
import Derived.Test.YtpjfhdljagkefaaDoorTabD
import Derived.Test.YtpjfhdljagkefaaDoorMg10
import Derived.Test.YtpjfhdljagkefaaDoorSrlD
import Derived.Test.YtpjfhdljagkefaaDoorMg15
import Derived.Test.YtpjfhdljagkefaaDoorMg17
import Derived.Test.YtpjfhdljagkefaaDoorTxtH
import Derived.Test.YtpjfhdljagkefaaDoorSrlC
import Derived.Test.YtpjfhdljagkefaaDoorMg16
import Derived.Laws.OwnMore
import Derived.Deep.QuietTactic
import Derived.BigQuiet
import Derived.Laws.AppendOwnNone
import Derived.Lib.ItoaMem
import Derived.Lib.ItoaLen
import Derived.Lib.SmallJoins
import Derived.Deep.RegionHeldLaw
import Derived.StillTailTactics
/- The walk of package world's Check. -/
namespace Go.Proofs.YtpjfhdljagkefaaDoor.WPlain
end Go.Proofs.YtpjfhdljagkefaaDoor.WPlain
namespace Go.Proofs.YtpjfhdljagkefaaDoor.QPlain
end Go.Proofs.YtpjfhdljagkefaaDoor.QPlain
namespace Go.Proofs.YtpjfhdljagkefaaDoor.RPlain
end Go.Proofs.YtpjfhdljagkefaaDoor.RPlain
namespace Go.Proofs.YtpjfhdljagkefaaDoor.RPlain
open WPlain QPlain
theorem worldW_step {B s : Nat} (hs : s ≤ B) (l : List Tx) (c : Nat) (r : List Nat) : worldG B l (c :: r) s = if (choiceW (B - s) l c 0).1 = 1 then worldG B l r (s + (choiceW (B - s) l c 0).2.2.2)
    else ((choiceW (B - s) l c 0).1, (if (choiceW (B - s) l c 0).1 = 0 then c else 0), (choiceW (B - s) l c 0).2.1, (choiceW (B - s) l c 0).2.2.1, s + (choiceW (B - s) l c 0).2.2.2) := by
  rw [worldG, choiceW_left hs]
end Go.Proofs.YtpjfhdljagkefaaDoor.RPlain
namespace Go.Proofs.YtpjfhdljagkefaaDoor
open Go.RowKit WPlain QPlain RPlain

/-- what Check of package world finds -/
def wldF (h : List Ev) (B : Int) : Nat × Nat × List Nat × List (Nat × List Nat × Nat) × Nat := if srchE h B = 0 then worldS B.toNat (tableS h) else (0, 0, [], [], 0)
theorem rowE_none (h : List Ev) (B : Int) : rowE h 0 0 B = srchE h B := by
  unfold rowE
  by_cases h0 : srchE h B = 0
  · rw [if_pos h0, h0, if_pos (by exact Nat.two_pow_pos _)]
  · rw [if_neg h0]
set_option maxRecDepth 100000 in
set_option maxHeartbeats 8000000 in
theorem checkW_any (v : Value) (h : List Ev) (B : Int) (w : World) (hK : HasK w) (hv : Evs w v h) (hl : h.length ≤ 65536) (hw1 : -9223372036854775808 ≤ B) (hw2 : B < 9223372036854775808) :
    Calls Tryd.prog 4 #[v, .int .i64 B] w fun e w' => ∃ rv ov, e = .returned (.tuple #[wldV (wldF h B).1 (wldF h B).2.1 rv ov (wldF h B).2.2.2.2, .int .i64 ((srchE h B : Nat) : Int)]) ∧
      RdX (fun k => k < w.heap.size) w' rv (nats (wldF h B).2.2.1) ∧ CapV rv ∧ FOwnS (fun k => k < w.heap.size) w.heap.size w' ov ((wldF h B).2.2.2.1.map toFd) ∧ Below w.heap.size w w' := by
  obtain ⟨w1, hw1'⟩ : ∃ w1, w.alloc (.cells #[.int .i64 0, .int .u32 0, .slice none 0 0, .slice none 0 0, .int .i64 0] 27) = w1 := ⟨_, rfl⟩
  have HB1 : Hid (Below w.heap.size w w1) := by
    rw [← hw1']
    exact (Below.refl _ w).alloc (Nat.le_refl _) _
  obtain ⟨N, hN⟩ : ∃ N, w.heap.size = N := ⟨_, rfl⟩
  have HA1 : Hid (At w1 N (wldA 0 0 (.slice none 0 0) (.slice none 0 0) 0) 27) := by
    rw [← hw1', ← hN]
    exact At.new w _ _
  have HK1 := Lib.hid (hK.later HB1.out (Nat.le_refl _))
  have HV1 := Lib.hid (hv.below HB1.out (Nat.le_refl _))
  have hN1 : N < w1.heap.size := HA1.out.lt
  obtain ⟨hva, hvc, rfl⟩ : ∃ a c, v = .slice a h.length c := hv.len
  have HTR := Lib.hid (traceOf_any hva hvc h 0 B w1 HK1.out HV1.out hl (by decide))
  rw [rowE_none] at HTR
  unfold wldF
  clear hK hv
  by_cases hB : srchE h B = 0
  · obtain ⟨hc0, hB0, hB1⟩ := srchE_zero hB
    have h6 := table_six hc0
    obtain ⟨BN, rfl⟩ : ∃ BN : Nat, B = (BN : Int) := ⟨B.toNat, by omega⟩
    simp only [hB, if_true, Int.toNat_natCast]
    rw [hB] at HTR
    have HCL : Hid (∀ c ∈ chL (tableS h), c < 2 ^ (tableS h).length) := fun c hc => (mem_chL.1 hc).1
    have HCN : Hid ((chL (tableS h)).length ≤ 65536) := by have h1 := choices_count (tableS h); rw [choices_chL h6] at h1; show _ ≤ _; omega
    have hcn := HCN.out
    have HSELF := Lib.hid (self_table h)
    have HWW := Lib.hid (fun (aa ca : Option Addr) (ac cn cc c s : Nat) (W : World) hE hcl (S : Nat → Prop) hS hr => worldW_any hva aa ca hvc ac cn cc h c (BN - s) W hE hcl (by omega) S hS hr)
    obtain ⟨x0, hx0⟩ : ∃ x0, worldS BN (tableS h) = x0 := ⟨_, rfl⟩
    rw [hx0]
    have HZ0 : Hid (worldG BN (tableS h) ((chL (tableS h)).drop 0) 0 = x0) := by
      rw [← hx0]
      unfold Hid worldS
      rw [List.drop_zero, choices_chL h6]
    have HNX : Hid (∀ i (hi : i < (chL (tableS h)).length) s, s ≤ BN → worldG BN (tableS h) ((chL (tableS h)).drop i) s = if (choiceW (BN - s) (tableS h) (chL (tableS h))[i] 0).1 = 1 then worldG BN (tableS h) ((chL (tableS h)).drop (i + 1)) (s + (choiceW (BN - s) (tableS h) (chL (tableS h))[i] 0).2.2.2)
        else ((choiceW (BN - s) (tableS h) (chL (tableS h))[i] 0).1, (if (choiceW (BN - s) (tableS h) (chL (tableS h))[i] 0).1 = 0 then (chL (tableS h))[i] else 0), (choiceW (BN - s) (tableS h) (chL (tableS h))[i] 0).2.1, (choiceW (BN - s) (tableS h) (chL (tableS h))[i] 0).2.2.1, s + (choiceW (BN - s) (tableS h) (chL (tableS h))[i] 0).2.2.2)) := fun i hi s hs => by
      rw [List.drop_eq_getElem_cons hi]
      exact worldW_step hs _ _ _
    have HEND : Hid (∀ s, worldG BN (tableS h) ((chL (tableS h)).drop (chL (tableS h)).length) s = (1, 0, [], [], s)) := fun s => by rw [List.drop_length]; rfl
    have HC0 := Lib.hid hc0
    clear hx0 hB hc0 h6
    go_enter Tryd.func4, Tryd.ntmps4
    go_wp2_with fail
    refine HTR.out.mono ?_
    rintro e w2 ⟨hb2, -, hok⟩
    obtain ⟨aa, ac, ca, cc, rfl, haf, hch⟩ := hok trivial
    obtain ⟨M, hM⟩ : ∃ M, w2.heap.size = M := ⟨_, rfl⟩
    obtain ⟨w3, hw3⟩ : ∃ w3, w2.alloc (.cells #[.slice hva h.length hvc, .slice aa (tableS h).length ac, .slice ca (chL (tableS h)).length cc] 45) = w3 := ⟨_, rfl⟩
    have hb23 : Below w2.heap.size w2 w3 := by
      rw [← hw3]
      exact (Below.refl w2.heap.size w2).alloc (Nat.le_refl _) _
    have HB3 : Hid (Below w1.heap.size w1 w3) := hb2.trans (hb23.mono hb2.size)
    have HE3 : Hid (At w3 M #[.slice hva h.length hvc, .slice aa (tableS h).length ac, .slice ca (chL (tableS h)).length cc] 45) := by
      rw [← hw3, ← hM]
      exact At.new w2 _ _
    have hM3 : w3.heap.size = M + 1 := by rw [← hw3, ← hM]; simp
    have hM1 : w1.heap.size ≤ M := by rw [← hM]; exact hb2.size
    have HAF := Lib.hid (haf.below hb23)
    have HCH := Lib.hid (hch.below hb23 (Nat.le_refl _))
    have e2 : w3.cell? ⟨M, 2, none⟩ = some (.slice ca (chL (tableS h)).length cc) := HE3.out.cell rfl
    have HTE : Hid (TrE w3 (.slice hva h.length hvc) (.slice aa (tableS h).length ac) h) := ⟨HK1.out.later HB3.out (Nat.le_refl _), HV1.out.below HB3.out (Nat.le_refl _), hl, HC0.out, HAF.out.rd⟩
    have HB33 : Hid (Below (M + 1) w3 w3) := Below.refl _ _
    clear hb2 hb23 haf hch hok HTR
    go_wp2_with fail
    go_loopw [8, 26] (fun y z wr => ∃ (i s : Nat), i ≤ (chL (tableS h)).length ∧ z = .int .i64 (i : Int) ∧ y = .int .i64 (s : Int) ∧ s ≤ BN ∧ Hid (worldG BN (tableS h) ((chL (tableS h)).drop i) s = x0) ∧ Hid (Below (M + 1) w3 wr))
      (fun _ z _ => (chL (tableS h)).length - (intOf z).toNat)
    case atStart => exact ⟨0, 0, by omega, rfl, rfl, by omega, HZ0, HB33⟩
    case round =>
      clear HZ0 HB33 e2
      obtain ⟨i, s, hi, rfl, rfl, hs, HT, HB⟩ := hrel
      have HBW : Hid (Below w1.heap.size w1 wr) := HB3.out.trans (HB.out.mono (by omega))
      have HAW := Lib.hid (HA1.out.below HBW.out hN1)
      by_cases hlt : i < (chL (tableS h)).length
      · obtain ⟨b, o, pc, he, hbl, hcells⟩ := (HCH.out.below HB.out (by omega)).opened (by rw [u32s_len]; omega)
        rw [u32s_len] at he
        simp only [Value.slice.injEq] at he
        obtain ⟨rfl, -, rfl⟩ := he
        have hcj := hcells i _ (u32s_get hlt)
        have hcp := HCL.out _ (List.getElem_mem hlt)
        have hnx := HNX.out i hlt s hs
        clear hcells hbl
        generalize (chL (tableS h))[i] = ci at *
        have hww := HWW.out aa (some ⟨b, o, none⟩) ac (chL (tableS h)).length cc ci s wr (HTE.out.later (by rw [hM3]; exact HB.out)) hcp (fun k => k < w1.heap.size) (fun k hk => Nat.lt_of_lt_of_le hk HBW.out.size) (HAF.out.below (by rw [hM3]; exact HB.out))
        rw [Int.ofNat_sub hs] at hww
        obtain ⟨hv3, -, hv5, -⟩ := choice_tells (B := BN - s) (l := tableS h) (c := ci) HSELF.out 0 (Nat.zero_le _)
        obtain ⟨X, hX⟩ : ∃ X, choiceW (BN - s) (tableS h) ci 0 = X := ⟨_, rfl⟩
        obtain ⟨cx, hcx⟩ : ∃ z, (if X.1 = 0 then ci else 0) = z := ⟨_, rfl⟩
        rw [hX] at hww hnx hv3 hv5
        rw [hcx] at hww hnx
        have HT2 := Lib.hid (hnx.symm.trans HT.out)
        unfold wldV at hww
        have HWW2 := Lib.hid hww
        have he4 := HE3.out.below HB.out (by omega)
        have e0 : wr.cell? ⟨M, 0, none⟩ = some (.slice hva h.length hvc) := he4.cell rfl
        have e1 : wr.cell? ⟨M, 1, none⟩ = some (.slice aa (tableS h).length ac) := he4.cell rfl
        have e2 : wr.cell? ⟨M, 2, none⟩ = some (.slice (some ⟨b, o, none⟩) (chL (tableS h)).length cc) := he4.cell rfl
        have HCX := Lib.hid hcx
        clear hX hcx hnx HT hww he4
        go_wp2_with fail
        refine HWW2.out.mono ?_
        rintro e w4 ⟨rv, ov, rfl, hr4, hcv4, ho4, hb4⟩
        clear e0 e1 e2 HWW2 hcj
        obtain ⟨ra, rc, rfl⟩ := hr4.rd.len
        obtain ⟨oa, oc, rfl⟩ := ho4.fds.len
        obtain ⟨rn, hrn⟩ : ∃ z, (nats X.2.1).length = z := ⟨_, rfl⟩
        obtain ⟨on, hon⟩ : ∃ z, (X.2.2.1.map toFd).length = z := ⟨_, rfl⟩
        rw [hrn] at hr4 hcv4 ⊢
        rw [hon] at ho4 ⊢
        obtain ⟨M5, hM5⟩ : ∃ M5, w4.heap.size = M5 := ⟨_, rfl⟩
        obtain ⟨w5, hw5⟩ : ∃ w5, w4.alloc (.cells #[.int .i64 (X.1 : Int), .int .u32 (cx : Int), .slice ra rn rc, .slice oa on oc, .int .i64 (X.2.2.2 : Int)] 27) = w5 := ⟨_, rfl⟩
        have hb5 : Below w4.heap.size w4 w5 := by
          rw [← hw5]
          exact (Below.refl w4.heap.size w4).alloc (Nat.le_refl _) _
        have HF5 : Hid (At w5 M5 (wldA X.1 cx (.slice ra rn rc) (.slice oa on oc) X.2.2.2) 27) := by
          rw [← hw5, ← hM5]
          exact At.new w4 _ _
        have hwrs : M + 1 ≤ wr.heap.size := by rw [← hM3]; exact HB.out.size
        have hM5s : wr.heap.size ≤ M5 := by rw [← hM5]; exact hb4.size
        have HB5 : Hid (Below (M + 1) w3 w5) := HB.out.trans ((hb4.trans (hb5.mono hb4.size)).mono hwrs)
        have HR4 := Lib.hid hr4
        have HCV4 := Lib.hid hcv4
        have HO4 := Lib.hid ho4
        have HB45 : Hid (Below M5 w4 w5) := by rw [← hM5]; exact hb5
        have q0 : w5.cell? ⟨M5, 0, none⟩ = some (.int .i64 (X.1 : Int)) := HF5.out.cell rfl
        have q4 : w5.cell? ⟨M5, 4, none⟩ = some (.int .i64 (X.2.2.2 : Int)) := HF5.out.cell rfl
        clear hr4 hcv4 ho4 hb4 hb5 HBW HAW hrn hon
        have hsb : s + X.2.2.2 ≤ BN := by omega
        by_cases hv1 : X.1 = 1
        · have HT3 := HT2.out
          rw [if_pos hv1] at HT3
          have HT4 := Lib.hid HT3
          have tv1 : ((X.1 : Int) != 1) = false := by simp [hv1]
          clear HT3 HT2 HR4 HCV4 HO4 hv1
          go_wp2_with fail
          go_roundw
          case rel => exact ⟨i + 1, s + X.2.2.2, by omega, by go_num, by go_num, hsb, HT4, HB5⟩
          case measure => simp [intOf]; omega
        · have HT3 := HT2.out
          rw [if_neg hv1] at HT3
          have HT4 := Lib.hid HT3
          have tv1 : ((X.1 : Int) != 1) = true := by simp; omega
          clear HT3 HT2
          have u4 : w5.frozen? ⟨M5, 4, none⟩ = false := HF5.out.free 4
          go_upto_region 14 with fail
          have HF6 : Hid (At (w5.setCell ⟨M5, 4, none⟩ (.int .i64 ((s : Int) + (X.2.2.2 : Int)))) M5 (wldA X.1 cx (.slice ra rn rc) (.slice oa on oc) (s + X.2.2.2)) 27) := HF5.out.set 4 _
          have HB46 : Hid (Below w4.heap.size w4 (w5.setCell ⟨M5, 4, none⟩ (.int .i64 ((s : Int) + (X.2.2.2 : Int))))) := by
            rw [← hM5] at HB45 ⊢
            exact HB45.out.setCell (Nat.le_refl _) _
          have HB6 : Hid (Below (M + 1) w3 (w5.setCell ⟨M5, 4, none⟩ (.int .i64 ((s : Int) + (X.2.2.2 : Int))))) := HB5.out.setCell (by dsimp only; omega) _
          generalize w5.setCell ⟨M5, 4, none⟩ (.int .i64 ((s : Int) + (X.2.2.2 : Int))) = w6 at *
          have HA6 := Lib.hid (HA1.out.below (HB3.out.trans (HB6.out.mono (by omega))) hN1)
          clear u4 q0 q4
          have u0 : w6.cell? ⟨M5, 0, none⟩ = some (.int .i64 (X.1 : Int)) := HF6.out.cell rfl
          have u1 : w6.cell? ⟨M5, 1, none⟩ = some (.int .u32 (cx : Int)) := HF6.out.cell rfl
          have u2 : w6.cell? ⟨M5, 2, none⟩ = some (.slice ra rn rc) := HF6.out.cell rfl
          have u3 : w6.cell? ⟨M5, 3, none⟩ = some (.slice oa on oc) := HF6.out.cell rfl
          have u4 : w6.cell? ⟨M5, 4, none⟩ = some (.int .i64 ((s : Int) + (X.2.2.2 : Int))) := HF6.out.cell rfl
          have r0 : w6.cell? ⟨N, 0, none⟩ = some (.int .i64 0) := HA6.out.cell rfl
          have r1 : w6.cell? ⟨N, 1, none⟩ = some (.int .u32 0) := HA6.out.cell rfl
          have r2 : w6.cell? ⟨N, 2, none⟩ = some (.slice none 0 0) := HA6.out.cell rfl
          have r3 : w6.cell? ⟨N, 3, none⟩ = some (.slice none 0 0) := HA6.out.cell rfl
          have r4 : w6.cell? ⟨N, 4, none⟩ = some (.int .i64 0) := HA6.out.cell rfl
          have f0 : w6.frozen? ⟨N, 0, none⟩ = false := HA6.out.free 0
          have f1 : w6.frozen? ⟨N, 1, none⟩ = false := HA6.out.free 1
          have f2 : w6.frozen? ⟨N, 2, none⟩ = false := HA6.out.free 2
          have f3 : w6.frozen? ⟨N, 3, none⟩ = false := HA6.out.free 3
          have f4 : w6.frozen? ⟨N, 4, none⟩ = false := HA6.out.free 4
          go_wp2_with fail
          have HZ7 := Lib.hid (wld_set HA6.out (.int .i64 (X.1 : Int)) (.int .u32 (cx : Int)) (.slice ra rn rc) (.slice oa on oc) (.int .i64 ((s : Int) + (X.2.2.2 : Int))))
          have HO7 := Lib.hid (wld_only w6 N (.int .i64 (X.1 : Int)) (.int .u32 (cx : Int)) (.slice ra rn rc) (.slice oa on oc) (.int .i64 ((s : Int) + (X.2.2.2 : Int))))
          generalize (((((w6.setCell ⟨N, 0, none⟩ (.int .i64 (X.1 : Int))).setCell ⟨N, 1, none⟩ (.int .u32 (cx : Int))).setCell ⟨N, 2, none⟩ (.slice ra rn rc)).setCell ⟨N, 3, none⟩ (.slice oa on oc)).setCell ⟨N, 4, none⟩ (.int .i64 ((s : Int) + (X.2.2.2 : Int)))) = w7 at *
          clear r0 r1 r2 r3 r4 f0 f1 f2 f3 f4
          have r0 : w7.cell? ⟨N, 0, none⟩ = some (.int .i64 (X.1 : Int)) := HZ7.out.cell rfl
          have r1 : w7.cell? ⟨N, 1, none⟩ = some (.int .u32 (cx : Int)) := HZ7.out.cell rfl
          have r2 : w7.cell? ⟨N, 2, none⟩ = some (.slice ra rn rc) := HZ7.out.cell rfl
          have r3 : w7.cell? ⟨N, 3, none⟩ = some (.slice oa on oc) := HZ7.out.cell rfl
          have r4 : w7.cell? ⟨N, 4, none⟩ = some (.int .i64 ((s : Int) + (X.2.2.2 : Int))) := HZ7.out.cell rfl
          have HB7 : Hid (Below N w w7) := by
            have h1 := HB1.out.trans ((HB3.out.trans (HB6.out.mono (by omega))).mono HB1.out.size)
            rw [hN] at h1
            exact h1.trans (HO7.out.below (by have := HB6.out.size; omega) (fun k _ hk => by omega))
          have HR7 := Lib.hid (((HR4.out.below HB46.out).only HO7.out (fun k hk => by show k < _; omega)).less (Y := fun k => k < w.heap.size) (fun k hk => by show k < _; omega))
          have HO8 := Lib.hid ((((HO4.out.later HB46.out).only HO7.out (fun k hk => by show k < _; omega) (fun k hk => by have := (HO4.out.top hk).1; omega)).less (T := fun k => k < w.heap.size) (fun k hk => by show k < _; omega)).low (show w.heap.size ≤ wr.heap.size by omega))
          try rw [Exit.noGoto_ret]
          refine bodyPost_ret (v := .tuple #[wldV X.1 cx (.slice ra rn rc) (.slice oa on oc) (s + X.2.2.2), .int .i64 0]) (by simp [results, Tryd.results4, go_sem, r0, r1, r2, r3, r4]; rfl) rfl ?_
          rw [← HT4.out]
          exact ⟨_, _, rfl, HR7.out, HCV4.out, HO8.out, by rw [hN]; exact HB7.out⟩
      · obtain rfl : i = (chL (tableS h)).length := by omega
        have r0 : wr.cell? ⟨N, 0, none⟩ = some (.int .i64 0) := HAW.out.cell rfl
        have r1 : wr.cell? ⟨N, 1, none⟩ = some (.int .u32 0) := HAW.out.cell rfl
        have r2 : wr.cell? ⟨N, 2, none⟩ = some (.slice none 0 0) := HAW.out.cell rfl
        have r3 : wr.cell? ⟨N, 3, none⟩ = some (.slice none 0 0) := HAW.out.cell rfl
        have r4 : wr.cell? ⟨N, 4, none⟩ = some (.int .i64 0) := HAW.out.cell rfl
        have f0 : wr.frozen? ⟨N, 0, none⟩ = false := HAW.out.free 0
        have f1 : wr.frozen? ⟨N, 1, none⟩ = false := HAW.out.free 1
        have f2 : wr.frozen? ⟨N, 2, none⟩ = false := HAW.out.free 2
        have f3 : wr.frozen? ⟨N, 3, none⟩ = false := HAW.out.free 3
        have f4 : wr.frozen? ⟨N, 4, none⟩ = false := HAW.out.free 4
        go_wp2_with fail
        have HZ7 := Lib.hid (wld_set HAW.out (.int .i64 1) (.int .u32 0) (.slice none 0 0) (.slice none 0 0) (.int .i64 (s : Int)))
        have HO7 := Lib.hid (wld_only wr N (.int .i64 1) (.int .u32 0) (.slice none 0 0) (.slice none 0 0) (.int .i64 (s : Int)))
        generalize (((((wr.setCell ⟨N, 0, none⟩ (.int .i64 1)).setCell ⟨N, 1, none⟩ (.int .u32 0)).setCell ⟨N, 2, none⟩ (.slice none 0 0)).setCell ⟨N, 3, none⟩ (.slice none 0 0)).setCell ⟨N, 4, none⟩ (.int .i64 (s : Int))) = w7 at *
        clear r0 r1 r2 r3 r4 f0 f1 f2 f3 f4
        have r0 : w7.cell? ⟨N, 0, none⟩ = some (.int .i64 1) := HZ7.out.cell rfl
        have r1 : w7.cell? ⟨N, 1, none⟩ = some (.int .u32 0) := HZ7.out.cell rfl
        have r2 : w7.cell? ⟨N, 2, none⟩ = some (.slice none 0 0) := HZ7.out.cell rfl
        have r3 : w7.cell? ⟨N, 3, none⟩ = some (.slice none 0 0) := HZ7.out.cell rfl
        have r4 : w7.cell? ⟨N, 4, none⟩ = some (.int .i64 (s : Int)) := HZ7.out.cell rfl
        have HB7 : Hid (Below N w w7) := by
          have h1 := HB1.out.trans (HBW.out.mono HB1.out.size)
          rw [hN] at h1
          exact h1.trans (HO7.out.below (by have := HBW.out.size; omega) (fun k _ hk => by omega))
        try rw [Exit.noGoto_ret]
        refine bodyPost_ret (v := .tuple #[wldV 1 0 (.slice none 0 0) (.slice none 0 0) s, .int .i64 0]) (by simp [results, Tryd.results4, go_sem, r0, r1, r2, r3, r4]; rfl) rfl ?_
        have hT := HT.out
        rw [HEND.out] at hT
        rw [← hT]
        exact ⟨_, _, rfl, .inl ⟨rfl, _, _, rfl⟩, capV_nil, FOwnS.nil0 _ _ _, by rw [hN]; exact HB7.out⟩
  · obtain ⟨er, her⟩ : ∃ er, srchE h B = er := ⟨_, rfl⟩
    rw [her] at HTR hB ⊢
    rw [if_neg hB]
    have te : ((er : Int) != 0) = true := by simp; omega
    clear her
    go_enter Tryd.func4, Tryd.ntmps4
    go_wp2_with fail
    refine HTR.out.mono ?_
    rintro e w2 ⟨hb2, hbad, -⟩
    obtain rfl := hbad hB
    have hba := (Below.refl w2.heap.size w2).alloc (Nat.le_refl _) (.cells #[.slice none 0 0, .slice none 0 0, .slice none 0 0] 45)
    have HB3 : Hid (Below w1.heap.size w1 (w2.alloc (.cells #[.slice none 0 0, .slice none 0 0, .slice none 0 0] 45))) := hb2.trans (hba.mono hb2.size)
    have HA3 := Lib.hid (HA1.out.below HB3.out hN1)
    clear hb2 hba hbad
    have r0 : (w2.alloc (.cells #[.slice none 0 0, .slice none 0 0, .slice none 0 0] 45)).cell? ⟨N, 0, none⟩ = some (.int .i64 0) := HA3.out.cell rfl
    have r1 : (w2.alloc (.cells #[.slice none 0 0, .slice none 0 0, .slice none 0 0] 45)).cell? ⟨N, 1, none⟩ = some (.int .u32 0) := HA3.out.cell rfl
    have r2 : (w2.alloc (.cells #[.slice none 0 0, .slice none 0 0, .slice none 0 0] 45)).cell? ⟨N, 2, none⟩ = some (.slice none 0 0) := HA3.out.cell rfl
    have r3 : (w2.alloc (.cells #[.slice none 0 0, .slice none 0 0, .slice none 0 0] 45)).cell? ⟨N, 3, none⟩ = some (.slice none 0 0) := HA3.out.cell rfl
    have r4 : (w2.alloc (.cells #[.slice none 0 0, .slice none 0 0, .slice none 0 0] 45)).cell? ⟨N, 4, none⟩ = some (.int .i64 0) := HA3.out.cell rfl
    have f0 : (w2.alloc (.cells #[.slice none 0 0, .slice none 0 0, .slice none 0 0] 45)).frozen? ⟨N, 0, none⟩ = false := HA3.out.free 0
    have f1 : (w2.alloc (.cells #[.slice none 0 0, .slice none 0 0, .slice none 0 0] 45)).frozen? ⟨N, 1, none⟩ = false := HA3.out.free 1
    have f2 : (w2.alloc (.cells #[.slice none 0 0, .slice none 0 0, .slice none 0 0] 45)).frozen? ⟨N, 2, none⟩ = false := HA3.out.free 2
    have f3 : (w2.alloc (.cells #[.slice none 0 0, .slice none 0 0, .slice none 0 0] 45)).frozen? ⟨N, 3, none⟩ = false := HA3.out.free 3
    have f4 : (w2.alloc (.cells #[.slice none 0 0, .slice none 0 0, .slice none 0 0] 45)).frozen? ⟨N, 4, none⟩ = false := HA3.out.free 4
    go_wp2_with fail
    have HZ7 := Lib.hid (wld_set HA3.out (.int .i64 0) (.int .u32 0) (.slice none 0 0) (.slice none 0 0) (.int .i64 0))
    have HO7 := Lib.hid (wld_only (w2.alloc (.cells #[.slice none 0 0, .slice none 0 0, .slice none 0 0] 45)) N (.int .i64 0) (.int .u32 0) (.slice none 0 0) (.slice none 0 0) (.int .i64 0))
    generalize ((((((w2.alloc (.cells #[.slice none 0 0, .slice none 0 0, .slice none 0 0] 45)).setCell ⟨N, 0, none⟩ (.int .i64 0)).setCell ⟨N, 1, none⟩ (.int .u32 0)).setCell ⟨N, 2, none⟩ (.slice none 0 0)).setCell ⟨N, 3, none⟩ (.slice none 0 0)).setCell ⟨N, 4, none⟩ (.int .i64 0)) = w7 at *
    clear r0 r1 r2 r3 r4 f0 f1 f2 f3 f4
    have r0 : w7.cell? ⟨N, 0, none⟩ = some (.int .i64 0) := HZ7.out.cell rfl
    have r1 : w7.cell? ⟨N, 1, none⟩ = some (.int .u32 0) := HZ7.out.cell rfl
    have r2 : w7.cell? ⟨N, 2, none⟩ = some (.slice none 0 0) := HZ7.out.cell rfl
    have r3 : w7.cell? ⟨N, 3, none⟩ = some (.slice none 0 0) := HZ7.out.cell rfl
    have r4 : w7.cell? ⟨N, 4, none⟩ = some (.int .i64 0) := HZ7.out.cell rfl
    have HB7 : Hid (Below N w w7) := by
      have h1 := HB1.out.trans (HB3.out.mono HB1.out.size)
      rw [hN] at h1
      exact h1.trans (HO7.out.below (by have := HB3.out.size; omega) (fun k _ hk => by omega))
    try rw [Exit.noGoto_ret]
    refine bodyPost_ret (v := .tuple #[wldV 0 0 (.slice none 0 0) (.slice none 0 0) 0, .int .i64 (er : Int)]) (by simp [results, Tryd.results4, go_sem, r0, r1, r2, r3, r4]; rfl) rfl ?_
    exact ⟨_, _, rfl, .inl ⟨rfl, _, _, rfl⟩, capV_nil, FOwnS.nil0 _ _ _, by rw [hN]; exact HB7.out⟩
end Go.Proofs.YtpjfhdljagkefaaDoor
/- The walk of recantlaw15's alive. -/
namespace Go.Proofs.YtpjfhdljagkefaaDoor.WPlain
end Go.Proofs.YtpjfhdljagkefaaDoor.WPlain
namespace Go.Proofs.YtpjfhdljagkefaaDoor.QPlain
end Go.Proofs.YtpjfhdljagkefaaDoor.QPlain
namespace Go.Proofs.YtpjfhdljagkefaaDoor.RPlain
end Go.Proofs.YtpjfhdljagkefaaDoor.RPlain
namespace Go.Proofs.YtpjfhdljagkefaaDoor
open Go.RowKit WPlain QPlain RPlain

def hAlK : List Ev := [⟨0, 1, 0, 0⟩, ⟨1, 1, 0, 0⟩, ⟨2, 1, 0, 0⟩, ⟨3, 1, 0, 5⟩, ⟨6, 1, 0, 0⟩, ⟨9, 1, 0, 0⟩]
def hAlL : List Ev := [⟨0, 1, 0, 0⟩, ⟨1, 1, 0, 0⟩]
theorem srchE_aliveK : srchE hAlK 9 = 0 := by decide +kernel
theorem wldF_aliveK : wldF hAlK 9 = (1, 0, [], [], 1) := by
  have h : (wldF hAlK 9).1 = 1 ∧ (wldF hAlK 9).2.1 = 0 ∧ (wldF hAlK 9).2.2.1 = [] ∧ (wldF hAlK 9).2.2.2.1.length = 0 ∧ (wldF hAlK 9).2.2.2.2 = 1 := by decide +kernel
  exact Prod.ext h.1 (Prod.ext h.2.1 (Prod.ext h.2.2.1 (Prod.ext (List.length_eq_zero_iff.1 h.2.2.2.1) h.2.2.2.2)))
theorem srchE_aliveL : srchE hAlL 9 = 0 := by decide +kernel
theorem wldF_aliveL : (wldF hAlL 9).1 = 0 ∧ (wldF hAlL 9).2.2.2.1.length = 1 := by decide +kernel
set_option maxRecDepth 100000 in
set_option maxHeartbeats 2000000 in
theorem aliveW_any (w : World) (hK : HasK w) : Calls Tryd.prog 5 #[] w fun e w' => e = .returned (.bool true) ∧ Below w.heap.size w w' := by
  have hb0 := (Below.refl w.heap.size w).alloc (Nat.le_refl _) (.cells (evsCells hAlK).toArray 50)
  have hE := evs_at 6 hAlK (At.new w (evsCells hAlK).toArray 50)
  have hE2 : Evs (w.alloc (.cells (evsCells hAlK).toArray 50)) (.slice (some ⟨w.heap.size, 0, none⟩) 2 6) hAlL := evs_cutP hE 2 (by decide)
  have hT := checkW_any _ hAlK 9 _ (hK.later hb0 (Nat.le_refl _)) hE (by simp [hAlK]) (by omega) (by omega)
  have HJ := Lib.hid (fun (W : World) (hW : Below (w.alloc (.cells (evsCells hAlK).toArray 50)).heap.size (w.alloc (.cells (evsCells hAlK).toArray 50)) W) => checkW_any _ hAlL 9 W ((hK.later hb0 (Nat.le_refl _)).later hW (Nat.le_refl _)) (hE2.below hW (Nat.le_refl _)) (by simp [hAlL]) (by omega) (by omega))
  rw [srchE_aliveK, wldF_aliveK] at hT
  simp only [srchE_aliveL] at HJ
  obtain ⟨h1, h2⟩ := wldF_aliveL
  obtain ⟨X, hX⟩ : ∃ X, wldF hAlL 9 = X := ⟨_, rfl⟩
  rw [hX] at h1 h2 HJ
  have hlen : hAlK.length = 6 := rfl
  rw [hlen] at hT
  simp only [evsCells, evCells, hAlK, List.flatMap_cons, List.flatMap_nil, List.append_nil, List.cons_append, List.nil_append] at hT hb0 HJ
  have HT := Lib.hid hT
  have HB0 := Lib.hid hb0
  clear hT hb0 hE hE2 hK hlen hX
  unfold wldV at HT HJ
  go_enter Tryd.func5, Tryd.ntmps5
  go_wp2_with fail
  refine HT.out.mono ?_
  rintro e w2 ⟨rv, ov, rfl, hr, -, ho, hb⟩
  have HB2 := Lib.hid hb
  obtain ⟨b, c, rfl⟩ := hr.rd.len
  obtain ⟨b', c', rfl⟩ := ho.fds.len
  have hn2 : (nats []).length = 0 := rfl
  have hn3 : (([] : List (Nat × List Nat × Nat)).map toFd).length = 0 := rfl
  rw [hn2, hn3]
  obtain ⟨N, hN⟩ : ∃ N, w2.heap.size = N := ⟨_, rfl⟩
  obtain ⟨w3, hw3⟩ : ∃ w3, w2.alloc (.cells #[.int .i64 1, .int .u32 0, .slice b 0 c, .slice b' 0 c', .int .i64 1] 27) = w3 := ⟨_, rfl⟩
  have ha : At w3 N #[.int .i64 1, .int .u32 0, .slice b 0 c, .slice b' 0 c', .int .i64 1] 27 := by
    rw [← hw3, ← hN]; exact At.new w2 _ _
  have hbw : Below w2.heap.size w2 w3 := by rw [← hw3]; exact (Below.refl _ w2).alloc (Nat.le_refl _) _
  have HB3 := Lib.hid (HB2.out.trans (hbw.mono HB2.out.size))
  have HA3 := Lib.hid ha
  have hJ := HJ.out w3 HB3.out
  have HJ3 := Lib.hid hJ
  clear hr ho hb hn2 hn3 ha hbw HT HJ hJ HB2
  go_wp2_with fail
  refine HJ3.out.mono ?_
  rintro e w4 ⟨rv4, ov4, rfl, hr4, -, ho4, hb4⟩
  obtain ⟨b4, c4, rfl⟩ := hr4.rd.len
  obtain ⟨b5, c5, rfl⟩ := ho4.fds.len
  obtain ⟨n4, hn4⟩ : ∃ z, (nats X.2.2.1).length = z := ⟨_, rfl⟩
  have hn5 : (X.2.2.2.1.map toFd).length = 1 := by rw [List.length_map]; exact h2
  rw [hn4, hn5]
  obtain ⟨N5, hN5⟩ : ∃ N, w4.heap.size = N := ⟨_, rfl⟩
  obtain ⟨w5, hw5⟩ : ∃ w5, w4.alloc (.cells #[.int .i64 (X.1 : Int), .int .u32 (X.2.1 : Int), .slice b4 n4 c4, .slice b5 1 c5, .int .i64 (X.2.2.2.2 : Int)] 27) = w5 := ⟨_, rfl⟩
  have ha5 : At w5 N5 #[.int .i64 (X.1 : Int), .int .u32 (X.2.1 : Int), .slice b4 n4 c4, .slice b5 1 c5, .int .i64 (X.2.2.2.2 : Int)] 27 := by
    rw [← hw5, ← hN5]; exact At.new w4 _ _
  have hbw5 : Below w4.heap.size w4 w5 := by rw [← hw5]; exact (Below.refl _ w4).alloc (Nat.le_refl _) _
  have hb35 : Below w3.heap.size w3 w5 := hb4.trans (hbw5.mono hb4.size)
  have HB5 := Lib.hid (HB0.out.trans ((HB3.out.trans (hb35.mono HB3.out.size)).mono HB0.out.size))
  have a3 := HA3.out.below hb35 HA3.out.lt
  have p0 : w5.cell? ⟨N, 0, none⟩ = some (.int .i64 1) := a3.cell rfl
  have p4 : w5.cell? ⟨N, 4, none⟩ = some (.int .i64 1) := a3.cell rfl
  have q0 : w5.cell? ⟨N5, 0, none⟩ = some (.int .i64 (X.1 : Int)) := ha5.cell rfl
  have q3 : w5.cell? ⟨N5, 3, none⟩ = some (.slice b5 1 c5) := ha5.cell rfl
  have t1 : ((X.1 : Int) == 0) = true := by rw [h1]; rfl
  clear hr4 ho4 hb4 hn4 hn5 ha5 hbw5 hb35 a3 HA3 HB3 HJ3 h1 h2 hw3 hN
  go_wp2_with fail
  go_ret
  exact ⟨rfl, HB5.out⟩
end Go.Proofs.YtpjfhdljagkefaaDoor
/- The walks of the reference's Put, Get and With: a memory told as writes, the last one first. -/
namespace Go.Proofs.YtpjfhdljagkefaaDoor.WPlain
end Go.Proofs.YtpjfhdljagkefaaDoor.WPlain
namespace Go.Proofs.YtpjfhdljagkefaaDoor.QPlain
end Go.Proofs.YtpjfhdljagkefaaDoor.QPlain
namespace Go.Proofs.YtpjfhdljagkefaaDoor.RPlain
end Go.Proofs.YtpjfhdljagkefaaDoor.RPlain
namespace Go.Proofs.YtpjfhdljagkefaaDoor.RPlain
open WPlain QPlain

end Go.Proofs.YtpjfhdljagkefaaDoor.RPlain
namespace Go.Proofs.YtpjfhdljagkefaaDoor
open Go.RowKit WPlain QPlain RPlain

/-- a memory's row of writes -/
def Mm (w : World) (u : Value) (L : List Rwo) : Prop := Opv w u L ∧ Src u
theorem Mm.below {w w' : World} {B : Nat} {u : Value} {L : List Rwo} (h : Mm w u L) (hb : Below B w w') (hB : w.heap.size ≤ B) : Mm w' u L := ⟨h.1.below hb hB, h.2⟩
theorem Mm.nil (w : World) : Mm w (.slice none 0 0) [] := ⟨Opv.nil _ _ _, .inl rfl⟩
/-- a cell of the call's own that holds a slice is none of a row of Ops -/
theorem Opv.set {w : World} {u : Value} {L : List Rwo} (h : Opv w u L) {N : Nat} {x : Option Addr} {y z : Nat} {T : TypeId} (hA : At w N #[.slice x y z] T) (v : Value) : Opv (w.setCell ⟨N, 0, none⟩ v) u L := by
  refine ⟨?_, h.2⟩
  rcases h.1 with h0 | ⟨h0, b, o, c, rfl, hbl, hc⟩
  · exact .inl h0
  · have hne : b ≠ N := by
      rintro rfl
      have h1 := hc 0 h0 0 (.bool L[0].w) (by omega) rfl
      rw [Nat.zero_mul, Nat.add_zero] at h1
      unfold At at hA
      simp only [World.cell?, hA] at h1
      match o, h1 with
      | 0, h1 => simp at h1
      | o + 1, h1 => simp at h1
    have hh := Below.heap_setCell w ⟨N, 0, none⟩ v b hne
    refine .inr ⟨h0, b, o, c, rfl, by simpa [World.setCell] using hbl, fun i hi j q hj hq => ?_⟩
    have h1 := hc i hi j q hj hq
    unfold World.cell? at h1 ⊢
    rw [hh]
    exact h1
end Go.Proofs.YtpjfhdljagkefaaDoor
/- The walk of the reference's Search. -/
namespace Go.Proofs.YtpjfhdljagkefaaDoor.WPlain
end Go.Proofs.YtpjfhdljagkefaaDoor.WPlain
namespace Go.Proofs.YtpjfhdljagkefaaDoor.QPlain
end Go.Proofs.YtpjfhdljagkefaaDoor.QPlain
namespace Go.Proofs.YtpjfhdljagkefaaDoor.RPlain
end Go.Proofs.YtpjfhdljagkefaaDoor.RPlain
namespace Go.Proofs.YtpjfhdljagkefaaDoor
open Go.RowKit WPlain QPlain RPlain

theorem capE {a : Option Addr} {n c : Nat} (h : n ≤ c) : ∀ a' n' c', Value.slice a n c = .slice a' n' c' → n' ≤ c' := fun _ _ _ he => by
  simp only [Value.slice.injEq] at he
  omega
end Go.Proofs.YtpjfhdljagkefaaDoor
