/- The walk of package strict's Check. -/
import Derived.Test.YtpjfhdljagkefaaDoorSrlD
import Derived.Test.YtpjfhdljagkefaaDoorMg19
import Derived.Test.YtpjfhdljagkefaaDoorMg9
namespace Go.Proofs.YtpjfhdljagkefaaDoor.WPlain
end Go.Proofs.YtpjfhdljagkefaaDoor.WPlain
namespace Go.Proofs.YtpjfhdljagkefaaDoor.QPlain
end Go.Proofs.YtpjfhdljagkefaaDoor.QPlain
namespace Go.Proofs.YtpjfhdljagkefaaDoor.RPlain
end Go.Proofs.YtpjfhdljagkefaaDoor.RPlain
namespace Go.Proofs.YtpjfhdljagkefaaDoor
open Go.RowKit WPlain QPlain RPlain

/-- what Check of package strict finds -/
def strF (h : List Ev) (B : Int) : Nat × Nat × List Nat × Nat := if srchE h B = 0 then searchG B.toNat (tableS h) (fun c => c) (chL (tableS h)) 0 else (0, 0, [], 0)
set_option maxRecDepth 100000 in
set_option maxHeartbeats 8000000 in
theorem strict_any (v : Value) (h : List Ev) (B : Int) (w : World) (hK : HasK w) (hv : Evs w v h) (hl : h.length ≤ 65536) (hw1 : -9223372036854775808 ≤ B) (hw2 : B < 9223372036854775808) :
    Calls Tryd.prog 7 #[v, .int .i64 B] w fun e w' => ∃ rv, e = .returned (.tuple #[fndV (strF h B).1 (strF h B).2.1 rv (strF h B).2.2.2, .int .i64 ((srchE h B : Nat) : Int)]) ∧ RdX (fun k => k < w.heap.size) w' rv (nats (strF h B).2.2.1) ∧ CapV rv ∧ Below w.heap.size w w' := by
  obtain ⟨w1, hw1'⟩ : ∃ w1, w.alloc (.cells #[.int .i64 0, .int .u32 0, .slice none 0 0, .int .i64 0] 33) = w1 := ⟨_, rfl⟩
  have HB1 : Hid (Below w.heap.size w w1) := by
    rw [← hw1']
    exact (Below.refl _ w).alloc (Nat.le_refl _) _
  obtain ⟨N0, hN0⟩ : ∃ N0, w.heap.size = N0 := ⟨_, rfl⟩
  have HA1 : Hid (At w1 N0 (fnd 0 0 (.slice none 0 0) 0) 33) := by
    rw [← hw1', ← hN0]
    exact At.new w _ _
  have HK1 := Lib.hid (hK.later HB1.out (Nat.le_refl _))
  have HV1 := Lib.hid (hv.below HB1.out (Nat.le_refl _))
  have HCH := Lib.hid (choices_any v h w1 HK1.out HV1.out hl)
  have hN1 : N0 < w1.heap.size := HA1.out.lt
  have HBN : Hid (∀ w', Below w1.heap.size w1 w' → Below N0 w w') := fun w' hb => by
    have := HB1.out.trans (hb.mono HB1.out.size)
    rwa [hN0] at this
  clear hK
  unfold strF
  by_cases h0 : (checkS h).2 = 0
  · have h6 := table_six h0
    have h64 := pow_le_64 h6
    simp only [h0, if_true] at HCH
    have HROW := Lib.hid (fun (W : World) (hW : Below w1.heap.size w1 W) (c : Nat) (X : Int) (hc : c < 4294967296) => rowX_any v h c c X W (HK1.out.later hW (Nat.le_refl _)) (HV1.out.below hW (Nat.le_refl _)) hl hc hc)
    have HCL : Hid (∀ c ∈ chL (tableS h), c < 2 ^ (tableS h).length) := fun c hc => (mem_chL.1 hc).1
    have HPOS : Hid (0 < (chL (tableS h)).length) := by unfold Hid; rw [chL_len]; exact Nat.two_pow_pos _
    have HCN : Hid ((chL (tableS h)).length ≤ 65536) := by have h1 := choices_count (tableS h); rw [choices_chL h6] at h1; show _ ≤ _; omega
    have HH0 := Lib.hid h0
    have HLN := Lib.hid h6
    by_cases hB : srchE h B = 0
    · obtain ⟨-, hB0, hB1⟩ := srchE_zero hB
      obtain ⟨BN, rfl⟩ : ∃ BN : Nat, B = (BN : Int) := ⟨B.toNat, by omega⟩
      simp only [hB, if_true, Int.toNat_natCast]
      have HRE : Hid (∀ c s : Nat, s ≤ BN → c < 2 ^ (tableS h).length → rowE h c c ((BN - s : Nat) : Int) = 0 ∧ rowF h c c ((BN - s : Nat) : Int) = searchG (BN - s) (tableS h) (fun _ => c) [c] 0) := fun c s hs hc => by
        have h1 : srchE h ((BN - s : Nat) : Int) = 0 := by unfold srchE; rw [if_pos HH0.out, if_neg (by omega)]
        have h2 : rowE h c c ((BN - s : Nat) : Int) = 0 := by unfold rowE; rw [if_pos h1, Nat.or_self, if_pos hc]
        exact ⟨h2, by unfold rowF; rw [if_pos h2, Int.toNat_natCast]⟩
      obtain ⟨cs, hcs⟩ : ∃ cs, chL (tableS h) = cs := ⟨_, rfl⟩
      rw [hcs] at HCH HCL HPOS HCN ⊢
      obtain ⟨x0, hx0⟩ : ∃ x0, searchG BN (tableS h) (fun c => c) cs 0 = x0 := ⟨_, rfl⟩
      rw [hx0]
      have HZ0 : Hid (searchG BN (tableS h) (fun c => c) (cs.drop 0) 0 = x0) := hx0
      have HNX : Hid (∀ i (hi : i < cs.length) s, s ≤ BN → searchG BN (tableS h) (fun c => c) (cs.drop i) s = if (searchG (BN - s) (tableS h) (fun _ => cs[i]) [cs[i]] 0).1 = 1 then searchG BN (tableS h) (fun c => c) (cs.drop (i + 1)) (s + (searchG (BN - s) (tableS h) (fun _ => cs[i]) [cs[i]] 0).2.2.2)
          else ((searchG (BN - s) (tableS h) (fun _ => cs[i]) [cs[i]] 0).1, (searchG (BN - s) (tableS h) (fun _ => cs[i]) [cs[i]] 0).2.1, (searchG (BN - s) (tableS h) (fun _ => cs[i]) [cs[i]] 0).2.2.1, s + (searchG (BN - s) (tableS h) (fun _ => cs[i]) [cs[i]] 0).2.2.2)) := fun i hi s hs => by
        rw [List.drop_eq_getElem_cons hi]
        exact strict_step hs _
      have HEND : Hid (∀ s, searchG BN (tableS h) (fun c => c) (cs.drop cs.length) s = (1, 0, [], s)) := fun s => by rw [List.drop_length]; rfl
      obtain ⟨hva, hvc, rfl⟩ : ∃ a c, v = .slice a h.length c := hv.len
      clear hx0 hcs hB hv h0 h6
      go_enter Tryd.func7, Tryd.ntmps7
      go_wp2_with fail
      go_step3
      go_wp2_with fail
      refine HCH.out.mono ?_
      rintro e w2 ⟨v2, rfl, hr2, hb2⟩
      have HR2 := Lib.hid hr2
      obtain ⟨ca, cc, rfl⟩ := hr2.len
      rw [u32s_len] at HR2 ⊢
      have HB2 := Lib.hid hb2
      have HA2 := Lib.hid (HA1.out.below hb2 hN1)
      clear hr2 hb2 HCH
      have hN3 : w2.heap.size < (w2.alloc (.cells #[.int .i64 0, .int .u32 0, .slice none 0 0, .int .i64 0] 33)).heap.size := by rw [World.size_alloc]; omega
      have HN03 : Hid (N0 < w2.heap.size) := HA2.out.lt
      have HW12 : Hid (w1.heap.size ≤ w2.heap.size) := HB2.out.size
      have hf3 := At.new w2 #[.int .i64 0, .int .u32 0, .slice none 0 0, .int .i64 0] 33
      have hb3 := (Below.refl w2.heap.size w2).alloc (Nat.le_refl _) (.cells #[.int .i64 0, .int .u32 0, .slice none 0 0, .int .i64 0] 33)
      have HF3 : Hid (At (w2.alloc (.cells #[.int .i64 0, .int .u32 0, .slice none 0 0, .int .i64 0] 33)) w2.heap.size (fnd 0 0 (.slice none 0 0) 0) 33) := hf3
      have HB3 := Lib.hid hb3
      clear hf3 hb3 hN3
      go_wp2_with fail
      go_step3
      go_wp2_with fail
      obtain ⟨N3, hN3⟩ : ∃ N3, w2.heap.size = N3 := ⟨_, rfl⟩
      rw [hN3] at HF3 HB3 HN03 HW12 ⊢
      have HN3 := Lib.hid hN3
      clear hN3
      go_loopw [9, 23] (fun y x wr => ∃ (i s vv cv sv : Nat) (rv : Value), i ≤ cs.length ∧ x = .int .i64 i ∧ y = .int .i64 s ∧ s ≤ BN ∧ Hid (searchG BN (tableS h) (fun c => c) (cs.drop i) s = x0) ∧ Hid (At wr N3 (fnd vv cv rv sv) 33) ∧ Hid (0 < i → vv = 1 ∧ cv = 0 ∧ ∃ a c, rv = .slice a 0 c) ∧ Hid (Below N3 w2 wr)) (fun _ x _ => cs.length - (intOf x).toNat)
      case atStart => exact ⟨0, 0, 0, 0, 0, _, by omega, rfl, rfl, by omega, HZ0, HF3, fun h => absurd h (by omega), HB3⟩
      case round =>
        clear HZ0 HF3 HB3
        obtain ⟨i, s, vv, cv, sv, rv0, hi, rfl, rfl, hs, HT, HF, HNIL, HBR⟩ := hrel
        have HBC := Lib.hid (HB2.out.trans (HBR.out.mono HW12.out))
        by_cases hlt : i < cs.length
        · obtain ⟨b, o, pc, he, hbl, hcells⟩ := (HR2.out.below HBR.out (Nat.le_of_eq HN3.out)).opened (by rw [u32s_len]; omega)
          rw [u32s_len] at he
          simp only [Value.slice.injEq] at he
          obtain ⟨rfl, -, rfl⟩ := he
          have hcj := hcells i _ (u32s_get hlt)
          have hcp := HCL.out _ (List.getElem_mem hlt)
          have hnx := HNX.out i hlt s hs
          clear hcells hbl
          generalize cs[i] = ci at *
          have hc32 : ci < 4294967296 := by omega
          have HRW := HROW.out wr HBC.out ci ((BN : Int) - (s : Int)) hc32
          obtain ⟨hre, hrf⟩ := HRE.out ci s hs hcp
          rw [Int.ofNat_sub hs] at hre hrf
          rw [hre, hrf] at HRW
          have hle := strict_left (B := BN - s) (l := tableS h) (c := ci)
          obtain ⟨hv3, _, _, _, hv5, _⟩ := search_tells (B := BN - s) (l := tableS h) (W := fun _ => ci) (self_table h) [ci] 0 (Nat.zero_le _)
          have HT2 := Lib.hid (hnx.symm.trans HT.out)
          obtain ⟨xr, hxr⟩ : ∃ xr, searchG (BN - s) (tableS h) (fun _ => ci) [ci] 0 = xr := ⟨_, rfl⟩
          rw [hxr] at HRW HT2 hle hv3 hv5
          have HV5 := Lib.hid hv5
          have HRW2 := Lib.hid HRW
          unfold fndV at HRW2
          clear hxr hnx HT hre hrf HRW hv5
          have e0 : wr.cell? ⟨N3, 0, none⟩ = some (.int .i64 (vv : Int)) := HF.out.cell rfl
          have e1 : wr.cell? ⟨N3, 1, none⟩ = some (.int .u32 (cv : Int)) := HF.out.cell rfl
          have e2 : wr.cell? ⟨N3, 2, none⟩ = some rv0 := HF.out.cell rfl
          have e3 : wr.cell? ⟨N3, 3, none⟩ = some (.int .i64 (sv : Int)) := HF.out.cell rfl
          go_wp2_with fail
          refine HRW2.out.mono ?_
          rintro e w4 ⟨rv, rfl, hr4, hcv4, hb4⟩
          obtain ⟨ra, rc, rfl⟩ := hr4.rd.len
          have HR4 := Lib.hid hr4
          have HCV := Lib.hid hcv4
          have hf4 := HF.out.below hb4 HF.out.lt
          have HF4 := Lib.hid hf4
          have HB4 := Lib.hid (HBR.out.trans (hb4.mono (Nat.le_of_lt HF.out.lt)))
          have HLW : Hid (N3 < wr.heap.size) := HF.out.lt
          obtain ⟨rn, hrn⟩ : ∃ z, (nats xr.2.2.1).length = z := ⟨_, rfl⟩
          have HRN := Lib.hid hrn
          rw [hrn] at HR4 HCV ⊢
          clear hrn hr4 hcv4 hb4 e0 e1 e2 e3 hcj HRW2
          have e0 : w4.cell? ⟨N3, 0, none⟩ = some (.int .i64 (vv : Int)) := HF4.out.cell rfl
          have e1 : w4.cell? ⟨N3, 1, none⟩ = some (.int .u32 (cv : Int)) := HF4.out.cell rfl
          have e2 : w4.cell? ⟨N3, 2, none⟩ = some rv0 := HF4.out.cell rfl
          have e3 : w4.cell? ⟨N3, 3, none⟩ = some (.int .i64 (sv : Int)) := HF4.out.cell rfl
          have g0 : w4.frozen? ⟨N3, 0, none⟩ = false := HF4.out.free 0
          have g1 : w4.frozen? ⟨N3, 1, none⟩ = false := HF4.out.free 1
          have g2 : w4.frozen? ⟨N3, 2, none⟩ = false := HF4.out.free 2
          have g3 : w4.frozen? ⟨N3, 3, none⟩ = false := HF4.out.free 3
          go_upto_region 10 with fail
          have HF5 : Hid (At ((((w4.setCell ⟨N3, 0, none⟩ (.int .i64 (xr.1 : Int))).setCell ⟨N3, 1, none⟩ (.int .u32 (xr.2.1 : Int))).setCell ⟨N3, 2, none⟩ (.slice ra rn rc)).setCell ⟨N3, 3, none⟩ (.int .i64 (xr.2.2.2 : Int))) N3 (fnd xr.1 xr.2.1 (.slice ra rn rc) xr.2.2.2) 33) := fnd_set HF4.out
          have HO5 := Lib.hid (fnd_only w4 N3 (.int .i64 (xr.1 : Int)) (.int .u32 (xr.2.1 : Int)) (.slice ra rn rc) (.int .i64 (xr.2.2.2 : Int)))
          generalize (((w4.setCell ⟨N3, 0, none⟩ (.int .i64 (xr.1 : Int))).setCell ⟨N3, 1, none⟩ (.int .u32 (xr.2.1 : Int))).setCell ⟨N3, 2, none⟩ (.slice ra rn rc)).setCell ⟨N3, 3, none⟩ (.int .i64 (xr.2.2.2 : Int)) = w5 at *
          have HB5 : Hid (Below N3 w2 w5) := HB4.out.trans (HO5.out.below (Nat.le_of_lt HF4.out.lt) (fun k _ hk => Nat.le_of_eq hk.symm))
          have HR5 : Hid (RdX (fun k => k < wr.heap.size) w5 (.slice ra rn rc) (nats xr.2.2.1)) := HR4.out.only HO5.out (fun k hk => by show k < _; have := HLW.out; omega)
          clear e0 e1 e2 e3 g0 g1 g2 g3 HF4 HB4 HR4 HO5 HF HBC
          have e0 : w5.cell? ⟨N3, 0, none⟩ = some (.int .i64 (xr.1 : Int)) := HF5.out.cell rfl
          have e3 : w5.cell? ⟨N3, 3, none⟩ = some (.int .i64 (xr.2.2.2 : Int)) := HF5.out.cell rfl
          have hsum : s + xr.2.2.2 ≤ BN := by omega
          have hcn := HCN.out
          rcases hv3 with hv0 | hv1 | hv2
          · replace e0 : w5.cell? ⟨N3, 0, none⟩ = some (.int .i64 0) := by rw [e0, hv0]; rfl
            have HT7 := HT2.out
            rw [if_neg (show ¬ xr.1 = 1 by omega)] at HT7
            subst HT7
            clear HT2 HV5
            rw [hv0] at HF5 ⊢
            have u3 : w5.cell? ⟨N3, 3, none⟩ = some (.int .i64 (xr.2.2.2 : Int)) := HF5.out.cell rfl
            have y3 : w5.frozen? ⟨N3, 3, none⟩ = false := HF5.out.free 3
            go_upto_region 18 with fail
            have HF6 : Hid (At (w5.setCell ⟨N3, 3, none⟩ (.int .i64 ((s : Int) + (xr.2.2.2 : Int)))) N3 (fnd 0 (xr.2.1) (.slice ra rn rc) (s + xr.2.2.2)) 33) := HF5.out.set 3 _
            have HO6 := Lib.hid ((Only.refl (fun k => k = N3) w5).setCell (p := ⟨N3, 3, none⟩) (fun _ => rfl) (.int .i64 ((s : Int) + (xr.2.2.2 : Int))))
            generalize w5.setCell ⟨N3, 3, none⟩ (.int .i64 ((s : Int) + (xr.2.2.2 : Int))) = w6 at *
            have HA5 := Lib.hid (HA2.out.below HB5.out HN03.out)
            have HA6 : Hid (At w6 N0 (fnd 0 0 (.slice none 0 0) 0) 33) := HA5.out.only HO6.out (by have := HN03.out; omega)
            have HB6 : Hid (Below N0 w w6) := (HBN.out _ HB2.out).trans ((HB5.out.mono (Nat.le_of_lt HN03.out)).trans (HO6.out.below (Nat.le_of_lt HA5.out.lt) (fun k _ hk => by have := HN03.out; omega)))
            have HR6 : Hid (RdX (fun k => k ≤ N3) w6 (.slice ra rn rc) (nats xr.2.2.1)) := (HR5.out.only HO6.out (fun k hk => by show k < _; have := HLW.out; omega)).less (fun k hk => by show k < _; have := HLW.out; omega)
            clear u3 y3
            have q0 : w6.cell? ⟨N0, 0, none⟩ = some (.int .i64 0) := HA6.out.cell rfl
            have q1 : w6.cell? ⟨N0, 1, none⟩ = some (.int .u32 0) := HA6.out.cell rfl
            have q2 : w6.cell? ⟨N0, 2, none⟩ = some (.slice none 0 0) := HA6.out.cell rfl
            have q3 : w6.cell? ⟨N0, 3, none⟩ = some (.int .i64 0) := HA6.out.cell rfl
            have f0 : w6.frozen? ⟨N0, 0, none⟩ = false := HA6.out.free 0
            have f1 : w6.frozen? ⟨N0, 1, none⟩ = false := HA6.out.free 1
            have f2 : w6.frozen? ⟨N0, 2, none⟩ = false := HA6.out.free 2
            have f3 : w6.frozen? ⟨N0, 3, none⟩ = false := HA6.out.free 3
            have u0 : w6.cell? ⟨N3, 0, none⟩ = some (.int .i64 0) := HF6.out.cell rfl
            have u1 : w6.cell? ⟨N3, 1, none⟩ = some (.int .u32 ((xr.2.1 : Nat) : Int)) := HF6.out.cell rfl
            have u2 : w6.cell? ⟨N3, 2, none⟩ = some (.slice ra rn rc) := HF6.out.cell rfl
            have u3 : w6.cell? ⟨N3, 3, none⟩ = some (.int .i64 ((s : Int) + (xr.2.2.2 : Int))) := HF6.out.cell rfl
            go_wp2_with fail
            have HZ7 : Hid (At ((((w6.setCell ⟨N0, 0, none⟩ (.int .i64 0)).setCell ⟨N0, 1, none⟩ (.int .u32 ((xr.2.1 : Nat) : Int))).setCell ⟨N0, 2, none⟩ (.slice ra rn rc)).setCell ⟨N0, 3, none⟩ (.int .i64 ((s : Int) + (xr.2.2.2 : Int)))) N0 (fnd 0 (xr.2.1) (.slice ra rn rc) (s + xr.2.2.2)) 33) := fnd_set HA6.out
            have HO7 := Lib.hid (fnd_only w6 N0 (.int .i64 0) (.int .u32 ((xr.2.1 : Nat) : Int)) (.slice ra rn rc) (.int .i64 ((s : Int) + (xr.2.2.2 : Int))))
            generalize (((w6.setCell ⟨N0, 0, none⟩ (.int .i64 0)).setCell ⟨N0, 1, none⟩ (.int .u32 ((xr.2.1 : Nat) : Int))).setCell ⟨N0, 2, none⟩ (.slice ra rn rc)).setCell ⟨N0, 3, none⟩ (.int .i64 ((s : Int) + (xr.2.2.2 : Int))) = w7 at *
            clear q0 q1 q2 q3 f0 f1 f2 f3
            have q0 : w7.cell? ⟨N0, 0, none⟩ = some (.int .i64 0) := HZ7.out.cell rfl
            have q1 : w7.cell? ⟨N0, 1, none⟩ = some (.int .u32 ((xr.2.1 : Nat) : Int)) := HZ7.out.cell rfl
            have q2 : w7.cell? ⟨N0, 2, none⟩ = some (.slice ra rn rc) := HZ7.out.cell rfl
            have q3 : w7.cell? ⟨N0, 3, none⟩ = some (.int .i64 ((s : Int) + (xr.2.2.2 : Int))) := HZ7.out.cell rfl
            have HB7 : Hid (Below N0 w w7) := HB6.out.trans (HO7.out.below (Nat.le_of_lt HA6.out.lt) (fun k _ hk => Nat.le_of_eq hk.symm))
            have HR7 : Hid (RdX (fun k => k < w.heap.size) w7 (.slice ra rn rc) (nats xr.2.2.1)) := (HR6.out.only HO7.out (fun k hk => by show k ≤ N3; have := HN03.out; omega)).less (fun k hk => by show k ≤ N3; have := HN03.out; omega)
            try rw [Exit.noGoto_ret]
            refine bodyPost_ret (v := .tuple #[fndV 0 (xr.2.1) (.slice ra rn rc) (s + xr.2.2.2), .int .i64 ((0 : Nat) : Int)]) (by simp [results, Tryd.results7, go_sem, q0, q1, q2, q3]; rfl) rfl ?_
            exact ⟨_, by dsimp only; rw [hv0], HR7.out, HCV.out, by rw [hN0]; exact HB7.out⟩
          · replace e0 : w5.cell? ⟨N3, 0, none⟩ = some (.int .i64 1) := by rw [e0, hv1]; rfl
            have HV := HV5.out (by omega)
            have HT7 := HT2.out
            rw [if_pos hv1] at HT7
            have HT8 := Lib.hid HT7
            have HNIL2 : Hid (0 < i + 1 → xr.1 = 1 ∧ xr.2.1 = 0 ∧ ∃ a c, Value.slice ra rn rc = .slice a 0 c) := fun _ => ⟨hv1, HV.1, ra, rc, by rw [← HRN.out, HV.2]; rfl⟩
            clear HT2 HT7 HV
            go_wp2_with fail
            go_roundw
            case rel => exact ⟨i + 1, s + xr.2.2.2, xr.1, xr.2.1, xr.2.2.2, _, by omega, by go_num, by go_num, hsum, HT8, HF5, HNIL2, HB5⟩
            case measure => simp [intOf]; omega
          · replace e0 : w5.cell? ⟨N3, 0, none⟩ = some (.int .i64 2) := by rw [e0, hv2]; rfl
            have HT7 := HT2.out
            rw [if_neg (show ¬ xr.1 = 1 by omega)] at HT7
            subst HT7
            clear HT2 HV5
            rw [hv2] at HF5 ⊢
            have u3 : w5.cell? ⟨N3, 3, none⟩ = some (.int .i64 (xr.2.2.2 : Int)) := HF5.out.cell rfl
            have y3 : w5.frozen? ⟨N3, 3, none⟩ = false := HF5.out.free 3
            go_upto_region 18 with fail
            have HF6 : Hid (At (w5.setCell ⟨N3, 3, none⟩ (.int .i64 ((s : Int) + (xr.2.2.2 : Int)))) N3 (fnd 2 (xr.2.1) (.slice ra rn rc) (s + xr.2.2.2)) 33) := HF5.out.set 3 _
            have HO6 := Lib.hid ((Only.refl (fun k => k = N3) w5).setCell (p := ⟨N3, 3, none⟩) (fun _ => rfl) (.int .i64 ((s : Int) + (xr.2.2.2 : Int))))
            generalize w5.setCell ⟨N3, 3, none⟩ (.int .i64 ((s : Int) + (xr.2.2.2 : Int))) = w6 at *
            have HA5 := Lib.hid (HA2.out.below HB5.out HN03.out)
            have HA6 : Hid (At w6 N0 (fnd 0 0 (.slice none 0 0) 0) 33) := HA5.out.only HO6.out (by have := HN03.out; omega)
            have HB6 : Hid (Below N0 w w6) := (HBN.out _ HB2.out).trans ((HB5.out.mono (Nat.le_of_lt HN03.out)).trans (HO6.out.below (Nat.le_of_lt HA5.out.lt) (fun k _ hk => by have := HN03.out; omega)))
            have HR6 : Hid (RdX (fun k => k ≤ N3) w6 (.slice ra rn rc) (nats xr.2.2.1)) := (HR5.out.only HO6.out (fun k hk => by show k < _; have := HLW.out; omega)).less (fun k hk => by show k < _; have := HLW.out; omega)
            clear u3 y3
            have q0 : w6.cell? ⟨N0, 0, none⟩ = some (.int .i64 0) := HA6.out.cell rfl
            have q1 : w6.cell? ⟨N0, 1, none⟩ = some (.int .u32 0) := HA6.out.cell rfl
            have q2 : w6.cell? ⟨N0, 2, none⟩ = some (.slice none 0 0) := HA6.out.cell rfl
            have q3 : w6.cell? ⟨N0, 3, none⟩ = some (.int .i64 0) := HA6.out.cell rfl
            have f0 : w6.frozen? ⟨N0, 0, none⟩ = false := HA6.out.free 0
            have f1 : w6.frozen? ⟨N0, 1, none⟩ = false := HA6.out.free 1
            have f2 : w6.frozen? ⟨N0, 2, none⟩ = false := HA6.out.free 2
            have f3 : w6.frozen? ⟨N0, 3, none⟩ = false := HA6.out.free 3
            have u0 : w6.cell? ⟨N3, 0, none⟩ = some (.int .i64 2) := HF6.out.cell rfl
            have u1 : w6.cell? ⟨N3, 1, none⟩ = some (.int .u32 ((xr.2.1 : Nat) : Int)) := HF6.out.cell rfl
            have u2 : w6.cell? ⟨N3, 2, none⟩ = some (.slice ra rn rc) := HF6.out.cell rfl
            have u3 : w6.cell? ⟨N3, 3, none⟩ = some (.int .i64 ((s : Int) + (xr.2.2.2 : Int))) := HF6.out.cell rfl
            go_wp2_with fail
            have HZ7 : Hid (At ((((w6.setCell ⟨N0, 0, none⟩ (.int .i64 2)).setCell ⟨N0, 1, none⟩ (.int .u32 ((xr.2.1 : Nat) : Int))).setCell ⟨N0, 2, none⟩ (.slice ra rn rc)).setCell ⟨N0, 3, none⟩ (.int .i64 ((s : Int) + (xr.2.2.2 : Int)))) N0 (fnd 2 (xr.2.1) (.slice ra rn rc) (s + xr.2.2.2)) 33) := fnd_set HA6.out
            have HO7 := Lib.hid (fnd_only w6 N0 (.int .i64 2) (.int .u32 ((xr.2.1 : Nat) : Int)) (.slice ra rn rc) (.int .i64 ((s : Int) + (xr.2.2.2 : Int))))
            generalize (((w6.setCell ⟨N0, 0, none⟩ (.int .i64 2)).setCell ⟨N0, 1, none⟩ (.int .u32 ((xr.2.1 : Nat) : Int))).setCell ⟨N0, 2, none⟩ (.slice ra rn rc)).setCell ⟨N0, 3, none⟩ (.int .i64 ((s : Int) + (xr.2.2.2 : Int))) = w7 at *
            clear q0 q1 q2 q3 f0 f1 f2 f3
            have q0 : w7.cell? ⟨N0, 0, none⟩ = some (.int .i64 2) := HZ7.out.cell rfl
            have q1 : w7.cell? ⟨N0, 1, none⟩ = some (.int .u32 ((xr.2.1 : Nat) : Int)) := HZ7.out.cell rfl
            have q2 : w7.cell? ⟨N0, 2, none⟩ = some (.slice ra rn rc) := HZ7.out.cell rfl
            have q3 : w7.cell? ⟨N0, 3, none⟩ = some (.int .i64 ((s : Int) + (xr.2.2.2 : Int))) := HZ7.out.cell rfl
            have HB7 : Hid (Below N0 w w7) := HB6.out.trans (HO7.out.below (Nat.le_of_lt HA6.out.lt) (fun k _ hk => Nat.le_of_eq hk.symm))
            have HR7 : Hid (RdX (fun k => k < w.heap.size) w7 (.slice ra rn rc) (nats xr.2.2.1)) := (HR6.out.only HO7.out (fun k hk => by show k ≤ N3; have := HN03.out; omega)).less (fun k hk => by show k ≤ N3; have := HN03.out; omega)
            try rw [Exit.noGoto_ret]
            refine bodyPost_ret (v := .tuple #[fndV 2 (xr.2.1) (.slice ra rn rc) (s + xr.2.2.2), .int .i64 ((0 : Nat) : Int)]) (by simp [results, Tryd.results7, go_sem, q0, q1, q2, q3]; rfl) rfl ?_
            exact ⟨_, by dsimp only; rw [hv2], HR7.out, HCV.out, by rw [hN0]; exact HB7.out⟩
        · obtain rfl : i = cs.length := by omega
          have HT7 := HT.out
          rw [HEND.out] at HT7
          subst HT7
          obtain ⟨rfl, rfl, na, nc, rfl⟩ := HNIL.out HPOS.out
          clear HT HNIL
          have u3 : wr.cell? ⟨N3, 3, none⟩ = some (.int .i64 (sv : Int)) := HF.out.cell rfl
          have y3 : wr.frozen? ⟨N3, 3, none⟩ = false := HF.out.free 3
          go_upto_region 18 with fail
          have HF6 : Hid (At (wr.setCell ⟨N3, 3, none⟩ (.int .i64 (s : Int))) N3 (fnd (1) (0) (.slice na 0 nc) (s)) 33) := HF.out.set 3 _
          have HO6 := Lib.hid ((Only.refl (fun k => k = N3) wr).setCell (p := ⟨N3, 3, none⟩) (fun _ => rfl) (.int .i64 (s : Int)))
          generalize wr.setCell ⟨N3, 3, none⟩ (.int .i64 (s : Int)) = w6 at *
          have HA5 := Lib.hid (HA2.out.below HBR.out HN03.out)
          have HA6 : Hid (At w6 N0 (fnd 0 0 (.slice none 0 0) 0) 33) := HA5.out.only HO6.out (by have := HN03.out; omega)
          have HB6 : Hid (Below N0 w w6) := (HBN.out _ HB2.out).trans ((HBR.out.mono (Nat.le_of_lt HN03.out)).trans (HO6.out.below (Nat.le_of_lt HA5.out.lt) (fun k _ hk => by have := HN03.out; omega)))
          have HR6 : Hid (RdX (fun k => k ≤ N3) w6 (.slice na 0 nc) (nats [])) := .inl ⟨rfl, _, _, rfl⟩
          clear u3 y3
          have q0 : w6.cell? ⟨N0, 0, none⟩ = some (.int .i64 0) := HA6.out.cell rfl
          have q1 : w6.cell? ⟨N0, 1, none⟩ = some (.int .u32 0) := HA6.out.cell rfl
          have q2 : w6.cell? ⟨N0, 2, none⟩ = some (.slice none 0 0) := HA6.out.cell rfl
          have q3 : w6.cell? ⟨N0, 3, none⟩ = some (.int .i64 0) := HA6.out.cell rfl
          have f0 : w6.frozen? ⟨N0, 0, none⟩ = false := HA6.out.free 0
          have f1 : w6.frozen? ⟨N0, 1, none⟩ = false := HA6.out.free 1
          have f2 : w6.frozen? ⟨N0, 2, none⟩ = false := HA6.out.free 2
          have f3 : w6.frozen? ⟨N0, 3, none⟩ = false := HA6.out.free 3
          have u0 : w6.cell? ⟨N3, 0, none⟩ = some (.int .i64 1) := HF6.out.cell rfl
          have u1 : w6.cell? ⟨N3, 1, none⟩ = some (.int .u32 0) := HF6.out.cell rfl
          have u2 : w6.cell? ⟨N3, 2, none⟩ = some (.slice na 0 nc) := HF6.out.cell rfl
          have u3 : w6.cell? ⟨N3, 3, none⟩ = some (.int .i64 (s : Int)) := HF6.out.cell rfl
          go_wp2_with fail
          have HZ7 : Hid (At ((((w6.setCell ⟨N0, 0, none⟩ (.int .i64 1)).setCell ⟨N0, 1, none⟩ (.int .u32 0)).setCell ⟨N0, 2, none⟩ (.slice na 0 nc)).setCell ⟨N0, 3, none⟩ (.int .i64 (s : Int))) N0 (fnd (1) (0) (.slice na 0 nc) (s)) 33) := fnd_set HA6.out
          have HO7 := Lib.hid (fnd_only w6 N0 (.int .i64 1) (.int .u32 0) (.slice na 0 nc) (.int .i64 (s : Int)))
          generalize (((w6.setCell ⟨N0, 0, none⟩ (.int .i64 1)).setCell ⟨N0, 1, none⟩ (.int .u32 0)).setCell ⟨N0, 2, none⟩ (.slice na 0 nc)).setCell ⟨N0, 3, none⟩ (.int .i64 (s : Int)) = w7 at *
          clear q0 q1 q2 q3 f0 f1 f2 f3
          have q0 : w7.cell? ⟨N0, 0, none⟩ = some (.int .i64 1) := HZ7.out.cell rfl
          have q1 : w7.cell? ⟨N0, 1, none⟩ = some (.int .u32 0) := HZ7.out.cell rfl
          have q2 : w7.cell? ⟨N0, 2, none⟩ = some (.slice na 0 nc) := HZ7.out.cell rfl
          have q3 : w7.cell? ⟨N0, 3, none⟩ = some (.int .i64 (s : Int)) := HZ7.out.cell rfl
          have HB7 : Hid (Below N0 w w7) := HB6.out.trans (HO7.out.below (Nat.le_of_lt HA6.out.lt) (fun k _ hk => Nat.le_of_eq hk.symm))
          have HR7 : Hid (RdX (fun k => k < w.heap.size) w7 (.slice na 0 nc) (nats [])) := (HR6.out.only HO7.out (fun k hk => by show k ≤ N3; have := HN03.out; omega)).less (fun k hk => by show k ≤ N3; have := HN03.out; omega)
          try rw [Exit.noGoto_ret]
          refine bodyPost_ret (v := .tuple #[fndV (1) (0) (.slice na 0 nc) (s), .int .i64 ((0 : Nat) : Int)]) (by simp [results, Tryd.results7, go_sem, q0, q1, q2, q3]; rfl) rfl ?_
          exact ⟨_, rfl, HR7.out, capE (Nat.zero_le _), by rw [hN0]; exact HB7.out⟩
    · have hse : srchE h B = 1 := by
        unfold srchE at hB ⊢
        rw [if_pos h0] at hB ⊢
        by_cases hbb : B < 0 ∨ 1000000 < B
        · rw [if_pos hbb]
        · rw [if_neg hbb] at hB; exact absurd rfl hB
      rw [hse]
      simp only [show ¬ (1 : Nat) = 0 by decide, if_false]
      have HRE : Hid (∀ c s : Nat, s < 1 → rowE h c c (B - (s : Int)) = 1 ∧ rowF h c c (B - (s : Int)) = (0, 0, [], 0)) := fun c s hs => by
        obtain rfl : s = 0 := by omega
        rw [show B - ((0 : Nat) : Int) = B from by omega]
        have h2 : rowE h c c B = 1 := by unfold rowE; rw [hse, if_neg (by decide)]
        exact ⟨h2, by unfold rowF; rw [h2, if_neg (by decide)]⟩
      obtain ⟨cs, hcs⟩ : ∃ cs, chL (tableS h) = cs := ⟨_, rfl⟩
      rw [hcs] at HCH HCL HPOS HCN
      obtain ⟨hva, hvc, rfl⟩ : ∃ a c, v = .slice a h.length c := hv.len
      clear hcs hB hv h0 h6 hse
      go_enter Tryd.func7, Tryd.ntmps7
      go_wp2_with fail
      go_step3
      go_wp2_with fail
      refine HCH.out.mono ?_
      rintro e w2 ⟨v2, rfl, hr2, hb2⟩
      have HR2 := Lib.hid hr2
      obtain ⟨ca, cc, rfl⟩ := hr2.len
      rw [u32s_len] at HR2 ⊢
      have HB2 := Lib.hid hb2
      have HA2 := Lib.hid (HA1.out.below hb2 hN1)
      clear hr2 hb2 HCH
      have HN03 : Hid (N0 < w2.heap.size) := HA2.out.lt
      have HW12 : Hid (w1.heap.size ≤ w2.heap.size) := HB2.out.size
      have hf3 := At.new w2 #[.int .i64 0, .int .u32 0, .slice none 0 0, .int .i64 0] 33
      have hb3 := (Below.refl w2.heap.size w2).alloc (Nat.le_refl _) (.cells #[.int .i64 0, .int .u32 0, .slice none 0 0, .int .i64 0] 33)
      have HF3 : Hid (At (w2.alloc (.cells #[.int .i64 0, .int .u32 0, .slice none 0 0, .int .i64 0] 33)) w2.heap.size (fnd 0 0 (.slice none 0 0) 0) 33) := hf3
      have HB3 := Lib.hid hb3
      clear hf3 hb3
      go_wp2_with fail
      go_step3
      go_wp2_with fail
      obtain ⟨N3, hN3⟩ : ∃ N3, w2.heap.size = N3 := ⟨_, rfl⟩
      rw [hN3] at HF3 HB3 HN03 HW12 ⊢
      have HN3 := Lib.hid hN3
      clear hN3
      go_loopw [9, 23] (fun y x wr => ∃ i s : Nat, x = .int .i64 i ∧ y = .int .i64 s ∧ s < 1 ∧ i < cs.length ∧ Hid (i = 0) ∧ Hid (At wr N3 (fnd 0 0 (.slice none 0 0) 0) 33) ∧ Hid (Below N3 w2 wr)) (fun _ x _ => 0)
      case atStart => exact ⟨0, 0, rfl, rfl, by omega, HPOS.out, rfl, HF3, HB3⟩
      case round =>
        clear HF3 HB3
        obtain ⟨i, s, rfl, rfl, hs, hi, -, HF, HBR⟩ := hrel
        have HBC := Lib.hid (HB2.out.trans (HBR.out.mono HW12.out))
        have hcn := HCN.out
        obtain ⟨b, o, pc, he, hbl, hcells⟩ := (HR2.out.below HBR.out (Nat.le_of_eq HN3.out)).opened (by rw [u32s_len]; omega)
        rw [u32s_len] at he
        simp only [Value.slice.injEq] at he
        obtain ⟨rfl, -, rfl⟩ := he
        have hcj := hcells i _ (u32s_get hi)
        have hcp := HCL.out _ (List.getElem_mem hi)
        clear hcells hbl
        generalize cs[i] = ci at *
        have hc32 : ci < 4294967296 := by omega
        have HRW := HROW.out wr HBC.out ci (B - (s : Int)) hc32
        obtain ⟨hre, hrf⟩ := HRE.out ci s hs
        rw [hre, hrf] at HRW
        have HRW2 := Lib.hid HRW
        unfold fndV at HRW2
        clear hre hrf HRW
        go_wp2_with fail
        refine HRW2.out.mono ?_
        rintro e w4 ⟨rv, rfl, hr4, hcv4, hb4⟩
        obtain ⟨ra, rc, rfl⟩ := hr4.rd.len
        have HF4 := Lib.hid (HF.out.below hb4 HF.out.lt)
        have HB4 := Lib.hid (HBR.out.trans (hb4.mono (Nat.le_of_lt HF.out.lt)))
        obtain ⟨rn, hrn⟩ : ∃ z, (nats []).length = z := ⟨_, rfl⟩
        rw [hrn]
        clear hrn hr4 hcv4 hb4 hcj HRW2
        have e0 : w4.cell? ⟨N3, 0, none⟩ = some (.int .i64 0) := HF4.out.cell rfl
        have e1 : w4.cell? ⟨N3, 1, none⟩ = some (.int .u32 0) := HF4.out.cell rfl
        have e2 : w4.cell? ⟨N3, 2, none⟩ = some (.slice none 0 0) := HF4.out.cell rfl
        have e3 : w4.cell? ⟨N3, 3, none⟩ = some (.int .i64 0) := HF4.out.cell rfl
        have g0 : w4.frozen? ⟨N3, 0, none⟩ = false := HF4.out.free 0
        have g1 : w4.frozen? ⟨N3, 1, none⟩ = false := HF4.out.free 1
        have g2 : w4.frozen? ⟨N3, 2, none⟩ = false := HF4.out.free 2
        have g3 : w4.frozen? ⟨N3, 3, none⟩ = false := HF4.out.free 3
        go_upto_region 10 with fail
        have HO5 := Lib.hid (fnd_only w4 N3 (.int .i64 0) (.int .u32 0) (.slice ra rn rc) (.int .i64 0))
        generalize (((w4.setCell ⟨N3, 0, none⟩ (.int .i64 0)).setCell ⟨N3, 1, none⟩ (.int .u32 0)).setCell ⟨N3, 2, none⟩ (.slice ra rn rc)).setCell ⟨N3, 3, none⟩ (.int .i64 0) = w5 at *
        have HB5 : Hid (Below N3 w2 w5) := HB4.out.trans (HO5.out.below (Nat.le_of_lt HF4.out.lt) (fun k _ hk => Nat.le_of_eq hk.symm))
        have H1 := Lib.hid (HA2.out.below HB5.out HN03.out)
        have HB25 : Hid (Below w1.heap.size w1 w5) := HB2.out.trans (HB5.out.mono HW12.out)
        clear HB2 e0 e1 e2 e3 g0 g1 g2 g3
        have HB2 := HB25
        have q0 : w5.cell? ⟨N0, 0, none⟩ = some (.int .i64 0) := H1.out.cell rfl
        have q1 : w5.cell? ⟨N0, 1, none⟩ = some (.int .u32 0) := H1.out.cell rfl
        have q2 : w5.cell? ⟨N0, 2, none⟩ = some (.slice none 0 0) := H1.out.cell rfl
        have q3 : w5.cell? ⟨N0, 3, none⟩ = some (.int .i64 0) := H1.out.cell rfl
        have f0 : w5.frozen? ⟨N0, 0, none⟩ = false := H1.out.free 0
        have f1 : w5.frozen? ⟨N0, 1, none⟩ = false := H1.out.free 1
        have f2 : w5.frozen? ⟨N0, 2, none⟩ = false := H1.out.free 2
        have f3 : w5.frozen? ⟨N0, 3, none⟩ = false := H1.out.free 3
        go_wp2_with fail
        have HZ : Hid (At ((((w5.setCell ⟨N0, 0, none⟩ (.int .i64 0)).setCell ⟨N0, 1, none⟩ (.int .u32 0)).setCell ⟨N0, 2, none⟩ (.slice none 0 0)).setCell ⟨N0, 3, none⟩ (.int .i64 0)) N0 (fnd 0 0 (.slice none 0 0) 0) 33) := fnd_set (v' := 0) (c' := 0) (s' := 0) H1.out
        have HO := Lib.hid (fnd_only w5 N0 (.int .i64 0) (.int .u32 0) (.slice none 0 0) (.int .i64 0))
        generalize (((w5.setCell ⟨N0, 0, none⟩ (.int .i64 0)).setCell ⟨N0, 1, none⟩ (.int .u32 0)).setCell ⟨N0, 2, none⟩ (.slice none 0 0)).setCell ⟨N0, 3, none⟩ (.int .i64 0) = w7 at *
        clear q0 q1 q2 q3 f0 f1 f2 f3
        have q0 : w7.cell? ⟨N0, 0, none⟩ = some (.int .i64 0) := HZ.out.cell rfl
        have q1 : w7.cell? ⟨N0, 1, none⟩ = some (.int .u32 0) := HZ.out.cell rfl
        have q2 : w7.cell? ⟨N0, 2, none⟩ = some (.slice none 0 0) := HZ.out.cell rfl
        have q3 : w7.cell? ⟨N0, 3, none⟩ = some (.int .i64 0) := HZ.out.cell rfl
        have HBF : Hid (Below N0 w w7) := (HBN.out _ HB2.out).trans (HO.out.below (Nat.le_of_lt H1.out.lt) (fun k _ hk => Nat.le_of_eq hk.symm))
        try rw [Exit.noGoto_ret]
        refine bodyPost_ret (v := .tuple #[fndV 0 0 (.slice none 0 0) 0, .int .i64 (1 : Int)]) (by simp [results, Tryd.results7, go_sem, q0, q1, q2, q3]; rfl) rfl ?_
        exact ⟨_, rfl, .inl ⟨rfl, _, _, rfl⟩, capV_nil, by rw [hN0]; exact HBF.out⟩
  · have hse : srchE h B = (checkS h).2 := by unfold srchE; rw [if_neg h0]
    rw [hse]
    simp only [if_neg h0] at HCH ⊢
    obtain ⟨er, her⟩ : ∃ er, (checkS h).2 = er := ⟨_, rfl⟩
    rw [her] at h0 HCH ⊢
    have te : ((er : Int) != 0) = true := by simp; omega
    clear her h0 hse
    go_enter Tryd.func7, Tryd.ntmps7
    go_wp2_with fail
    go_step3
    go_wp2_with fail
    refine HCH.out.mono ?_
    rintro e w2 ⟨v2, rfl, hr2, hb2⟩
    obtain ⟨ca, cc, rfl⟩ := hr2.len
    have HB2 := Lib.hid hb2
    have H1 := Lib.hid (HA1.out.below hb2 hN1)
    clear hr2 hb2 HCH
    have q0 : w2.cell? ⟨N0, 0, none⟩ = some (.int .i64 0) := H1.out.cell rfl
    have q1 : w2.cell? ⟨N0, 1, none⟩ = some (.int .u32 0) := H1.out.cell rfl
    have q2 : w2.cell? ⟨N0, 2, none⟩ = some (.slice none 0 0) := H1.out.cell rfl
    have q3 : w2.cell? ⟨N0, 3, none⟩ = some (.int .i64 0) := H1.out.cell rfl
    have f0 : w2.frozen? ⟨N0, 0, none⟩ = false := H1.out.free 0
    have f1 : w2.frozen? ⟨N0, 1, none⟩ = false := H1.out.free 1
    have f2 : w2.frozen? ⟨N0, 2, none⟩ = false := H1.out.free 2
    have f3 : w2.frozen? ⟨N0, 3, none⟩ = false := H1.out.free 3
    go_wp2_with fail
    have HZ : Hid (At ((((w2.setCell ⟨N0, 0, none⟩ (.int .i64 0)).setCell ⟨N0, 1, none⟩ (.int .u32 0)).setCell ⟨N0, 2, none⟩ (.slice none 0 0)).setCell ⟨N0, 3, none⟩ (.int .i64 0)) N0 (fnd 0 0 (.slice none 0 0) 0) 33) := fnd_set (v' := 0) (c' := 0) (s' := 0) H1.out
    have HO := Lib.hid (fnd_only w2 N0 (.int .i64 0) (.int .u32 0) (.slice none 0 0) (.int .i64 0))
    generalize (((w2.setCell ⟨N0, 0, none⟩ (.int .i64 0)).setCell ⟨N0, 1, none⟩ (.int .u32 0)).setCell ⟨N0, 2, none⟩ (.slice none 0 0)).setCell ⟨N0, 3, none⟩ (.int .i64 0) = w7 at *
    clear q0 q1 q2 q3 f0 f1 f2 f3
    have q0 : w7.cell? ⟨N0, 0, none⟩ = some (.int .i64 0) := HZ.out.cell rfl
    have q1 : w7.cell? ⟨N0, 1, none⟩ = some (.int .u32 0) := HZ.out.cell rfl
    have q2 : w7.cell? ⟨N0, 2, none⟩ = some (.slice none 0 0) := HZ.out.cell rfl
    have q3 : w7.cell? ⟨N0, 3, none⟩ = some (.int .i64 0) := HZ.out.cell rfl
    have HBF : Hid (Below N0 w w7) := (HBN.out _ HB2.out).trans (HO.out.below (Nat.le_of_lt H1.out.lt) (fun k _ hk => Nat.le_of_eq hk.symm))
    try rw [Exit.noGoto_ret]
    refine bodyPost_ret (v := .tuple #[fndV 0 0 (.slice none 0 0) 0, .int .i64 (er : Int)]) (by simp [results, Tryd.results7, go_sem, q0, q1, q2, q3]; rfl) rfl ?_
    exact ⟨_, rfl, .inl ⟨rfl, _, _, rfl⟩, capV_nil, by rw [hN0]; exact HBF.out⟩
end Go.Proofs.YtpjfhdljagkefaaDoor
