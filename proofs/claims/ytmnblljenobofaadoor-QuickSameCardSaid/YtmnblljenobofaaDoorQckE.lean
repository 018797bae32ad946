/- The walk of package quick's Check. -/
import Derived.Test.YtmnblljenobofaaDoorQckD
import Derived.Test.YtmnblljenobofaaDoorMg15
namespace Go.Proofs.YtmnblljenobofaaDoor.WPlain
end Go.Proofs.YtmnblljenobofaaDoor.WPlain
namespace Go.Proofs.YtmnblljenobofaaDoor.QPlain
end Go.Proofs.YtmnblljenobofaaDoor.QPlain
namespace Go.Proofs.YtmnblljenobofaaDoor.RPlain
end Go.Proofs.YtmnblljenobofaaDoor.RPlain
namespace Go.Proofs.YtmnblljenobofaaDoor
open Go.RowKit WPlain QPlain RPlain

def qckE (h : List Ev) (B : Int) : Nat := if errU h = 0 then (if B < 0 ∨ 1000000 < B then 1 else 0) else errU h
def qckF (h : List Ev) (B : Int) : Nat × Nat × List Nat × Nat := if qckE h B = 0 then quickS B.toNat (tableS h) else (0, 0, [], 0)
theorem qckE_zero {h : List Ev} {B : Int} (h0 : qckE h B = 0) : errU h = 0 ∧ 0 ≤ B ∧ B ≤ 1000000 := by
  unfold qckE at h0
  by_cases hu : errU h = 0
  · rw [if_pos hu] at h0
    by_cases hb : B < 0 ∨ 1000000 < B
    · rw [if_pos hb] at h0; cases h0
    · exact ⟨hu, by omega, by omega⟩
  · rw [if_neg hu] at h0; exact absurd h0 hu
theorem qckF_of {h : List Ev} {B : Nat} (h0 : qckE h (B : Int) = 0) : qckF h (B : Int) = quickS B (tableS h) := by
  unfold qckF
  rw [if_pos h0, Int.toNat_natCast]
theorem qckF_off {h : List Ev} {B : Int} (h0 : qckE h B ≠ 0) : qckF h B = (0, 0, [], 0) := by
  unfold qckF
  rw [if_neg h0]
set_option maxRecDepth 100000 in
set_option maxHeartbeats 4000000 in
theorem checkQ_any (v : Value) (h : List Ev) (B : Int) (w : World) (hK : HasK w) (hv : Evs w v h) (hl : h.length ≤ 65536) :
    Calls Tryd.prog 4 #[v, .int .i64 B] w fun e w' => ∃ rv, e = .returned (.tuple #[fndV (qckF h B).1 (qckF h B).2.1 rv (qckF h B).2.2.2, .int .i64 ((qckE h B : Nat) : Int)]) ∧ Rd w' rv (nats (qckF h B).2.2.1) ∧ Below w.heap.size w w' := by
  obtain ⟨N, hN⟩ : ∃ N, w.heap.size = N := ⟨_, rfl⟩
  obtain ⟨w1, hw1⟩ : ∃ w1, w.alloc (.cells #[.int .i64 0, .int .u32 0, .slice none 0 0, .int .i64 0] 26) = w1 := ⟨_, rfl⟩
  have HB1 : Hid (Below N w w1) := by
    rw [← hw1, ← hN]
    exact (Below.refl _ w).alloc (Nat.le_refl _) _
  have HA1 : Hid (At w1 N (fnd 0 0 (.slice none 0 0) 0) 26) := by
    rw [← hw1, ← hN]
    exact At.new w _ _
  have HK1 := Lib.hid (hK.later HB1.out (by omega))
  have HV1 := Lib.hid (hv.below HB1.out (by omega))
  have HCK := Lib.hid (checkU_any v h w1 HK1.out HV1.out hl)
  have HNN := Lib.hid hN
  obtain ⟨ea, ec, rfl⟩ := hv.len
  clear hK hv
  by_cases hu : errU h = 0
  · have h0 := (errU_zero hu).1
    have h6 := table_six h0
    by_cases hb : B < 0 ∨ 1000000 < B
    · have he : qckE h B = 1 := by unfold qckE; rw [if_pos hu, if_pos hb]
      rw [qckF_off (by rw [he]; decide), he]
      rw [hu] at HCK
      clear hu he h0 h6 HK1 HV1
      go_enter Tryd.func4, Tryd.ntmps4
      go_wp2_with fail
      refine HCK.out.mono ?_
      rintro e w2 ⟨rfl, hb2⟩
      have HA2 := Lib.hid (HA1.out.below hb2 HA1.out.lt)
      have HB2 := Lib.hid (HB1.out.trans (hb2.mono (Nat.le_of_lt HA1.out.lt)))
      clear hb2 HCK
      have q0 : w2.cell? ⟨N, 0, none⟩ = some (.int .i64 0) := HA2.out.cell rfl
      have q1 : w2.cell? ⟨N, 1, none⟩ = some (.int .u32 0) := HA2.out.cell rfl
      have q2 : w2.cell? ⟨N, 2, none⟩ = some (.slice none 0 0) := HA2.out.cell rfl
      have q3 : w2.cell? ⟨N, 3, none⟩ = some (.int .i64 0) := HA2.out.cell rfl
      have f0 : w2.frozen? ⟨N, 0, none⟩ = false := HA2.out.free 0
      have f1 : w2.frozen? ⟨N, 1, none⟩ = false := HA2.out.free 1
      have f2 : w2.frozen? ⟨N, 2, none⟩ = false := HA2.out.free 2
      have f3 : w2.frozen? ⟨N, 3, none⟩ = false := HA2.out.free 3
      go_wp2_with fail
      all_goals
        have HZ7 : Hid (At ((((w2.setCell ⟨N, 0, none⟩ (.int .i64 0)).setCell ⟨N, 1, none⟩ (.int .u32 0)).setCell ⟨N, 2, none⟩ (.slice none 0 0)).setCell ⟨N, 3, none⟩ (.int .i64 0)) N (fnd 0 0 (.slice none 0 0) 0) 26) := fnd_set (v' := 0) (c' := 0) (s' := 0) HA2.out
        have HO7 := Lib.hid (fnd_only w2 N (.int .i64 0) (.int .u32 0) (.slice none 0 0) (.int .i64 0))
        generalize (((w2.setCell ⟨N, 0, none⟩ (.int .i64 0)).setCell ⟨N, 1, none⟩ (.int .u32 0)).setCell ⟨N, 2, none⟩ (.slice none 0 0)).setCell ⟨N, 3, none⟩ (.int .i64 0) = w7 at *
        clear q0 q1 q2 q3 f0 f1 f2 f3
        have q0 : w7.cell? ⟨N, 0, none⟩ = some (.int .i64 0) := HZ7.out.cell rfl
        have q1 : w7.cell? ⟨N, 1, none⟩ = some (.int .u32 0) := HZ7.out.cell rfl
        have q2 : w7.cell? ⟨N, 2, none⟩ = some (.slice none 0 0) := HZ7.out.cell rfl
        have q3 : w7.cell? ⟨N, 3, none⟩ = some (.int .i64 0) := HZ7.out.cell rfl
        have HB7 : Hid (Below N w w7) := HB2.out.trans (HO7.out.below (Nat.le_of_lt HA2.out.lt) (fun k _ hk => Nat.le_of_eq hk.symm))
        refine bodyPost_ret (v := .tuple #[fndV 0 0 (.slice none 0 0) 0, .int .i64 1]) (by simp [results, Tryd.results4, go_sem, q0, q1, q2, q3]; rfl) rfl ?_
        exact ⟨_, rfl, .inl ⟨rfl, _, _, rfl⟩, by first | exact HB7.out | (rw [HNN.out]; exact HB7.out)⟩
    · obtain ⟨BN, rfl⟩ : ∃ BN : Nat, B = (BN : Int) := ⟨B.toNat, by omega⟩
      have he : qckE h (BN : Int) = 0 := by unfold qckE; rw [if_pos hu, if_neg hb]
      rw [qckF_of he, he]
      have HRO := Lib.hid (fun (W : World) (hW : Below w1.heap.size w1 W) => readableOfQ_any _ h W (HK1.out.later hW (Nat.le_refl _)) (HV1.out.below hW (Nat.le_refl _)) hl hu)
      have HRW := Lib.hid (fun (W : World) (hW : Below w1.heap.size w1 W) => rowsOfQ_any _ h W (HK1.out.later hW (Nat.le_refl _)) (HV1.out.below hW (Nat.le_refl _)) hl h0)
      obtain ⟨cs, hcs⟩ : ∃ cs, (choicesS (tableS h)).filter (readS (tableS h)) = cs := ⟨_, rfl⟩
      have hmem : ∀ c ∈ cs, c < 2 ^ (tableS h).length ∧ readS (tableS h) c = true := fun c hc => by
        rw [← hcs, List.mem_filter, choices_chL h6] at hc
        exact ⟨(mem_chL.1 hc.1).1, hc.2⟩
      have hcl : cs.length ≤ 64 := by
        rw [← hcs]
        exact Nat.le_trans (List.length_filter_le _ _) (choices_count _)
      have hq : quickS BN (tableS h) = quickG BN (tableS h) cs 0 := by rw [← hcs]; exact (quick_filter _ _).symm
      have HFI := Lib.hid (fun (cv wv : Value) (W : World) (hW : Below w1.heap.size w1 W) (h1 : Rd W cv (u32s cs)) (h2 : RowsN W wv (allS (afterS (tableS h)))) => findQ_any _ cv wv h cs BN W (HK1.out.later hW (Nat.le_refl _)) (HV1.out.below hW (Nat.le_refl _)) hl hu h1 hmem (by omega) h2 (by omega))
      rw [hq]
      rw [hcs] at HRO
      rw [hu] at HCK
      have tb : ¬ ((BN : Int) < 0) := by omega
      have tb2 : ¬ ((1000000 : Int) < (BN : Int)) := by omega
      clear hu he h0 h6 HK1 HV1 hcs hmem hq hb
      generalize quickG BN (tableS h) cs 0 = x at *
      generalize allS (afterS (tableS h)) = rows at *
      go_enter Tryd.func4, Tryd.ntmps4
      go_wp2_with fail
      refine HCK.out.mono ?_
      rintro e w2 ⟨rfl, hb2⟩
      have HB2 := Lib.hid hb2
      clear hb2 HCK
      go_wp2_with fail
      refine (HRO.out _ HB2.out).mono ?_
      rintro e w3 ⟨v3, rfl, hv3, hb3⟩
      have HV3 := Lib.hid hv3
      have HB3 := Lib.hid (HB2.out.trans (hb3.mono HB2.out.size))
      obtain ⟨a3, c3, rfl⟩ := hv3.len
      clear hv3 hb3 HRO HB2
      go_wp2_with fail
      refine (HRW.out _ HB3.out).mono ?_
      rintro e w4 ⟨v4, rfl, hv4, hb4⟩
      have HV4 := Lib.hid hv4
      have HB4 := Lib.hid (HB3.out.trans (hb4.mono HB3.out.size))
      have HV34 := Lib.hid (HV3.out.below hb4 (Nat.le_refl _))
      obtain ⟨a4, c4, rfl⟩ := hv4.len
      have HFX := Lib.hid (HFI.out _ _ _ HB4.out HV34.out HV4.out)
      clear hv4 hb4 HRW HB3 HFI
      unfold fndV at HFX
      go_wp2_with fail
      refine HFX.out.mono ?_
      rintro e w5 ⟨rv, rfl, hr5, hb5⟩
      have HR5 := Lib.hid hr5
      have HB5 := Lib.hid (HB4.out.trans (hb5.mono HB4.out.size))
      have HA5 := Lib.hid (HA1.out.below HB5.out HA1.out.lt)
      have HB5 : Hid (Below N w w5) := HB1.out.trans (HB5.out.mono (Nat.le_of_lt HA1.out.lt))
      have HLW : Hid (N < w4.heap.size) := (HA1.out.below HB4.out HA1.out.lt).lt
      obtain ⟨ra, rc, rfl⟩ := hr5.rd.len
      obtain ⟨rn, hrn⟩ : ∃ z, (nats x.2.2.1).length = z := ⟨_, rfl⟩
      rw [hrn] at HR5 ⊢
      clear hr5 hb5 HFX HB4 HV4 HV34 hrn
      have q0 : w5.cell? ⟨N, 0, none⟩ = some (.int .i64 0) := HA5.out.cell rfl
      have q1 : w5.cell? ⟨N, 1, none⟩ = some (.int .u32 0) := HA5.out.cell rfl
      have q2 : w5.cell? ⟨N, 2, none⟩ = some (.slice none 0 0) := HA5.out.cell rfl
      have q3 : w5.cell? ⟨N, 3, none⟩ = some (.int .i64 0) := HA5.out.cell rfl
      have f0 : w5.frozen? ⟨N, 0, none⟩ = false := HA5.out.free 0
      have f1 : w5.frozen? ⟨N, 1, none⟩ = false := HA5.out.free 1
      have f2 : w5.frozen? ⟨N, 2, none⟩ = false := HA5.out.free 2
      have f3 : w5.frozen? ⟨N, 3, none⟩ = false := HA5.out.free 3
      go_wp2_with fail
      have HZ7 : Hid (At ((((w5.setCell ⟨N, 0, none⟩ (.int .i64 (x.1 : Int))).setCell ⟨N, 1, none⟩ (.int .u32 (x.2.1 : Int))).setCell ⟨N, 2, none⟩ (.slice ra rn rc)).setCell ⟨N, 3, none⟩ (.int .i64 (x.2.2.2 : Int))) N (fnd x.1 x.2.1 (.slice ra rn rc) x.2.2.2) 26) := fnd_set (v' := x.1) (c' := x.2.1) (s' := x.2.2.2) HA5.out
      have HO7 := Lib.hid (fnd_only w5 N (.int .i64 (x.1 : Int)) (.int .u32 (x.2.1 : Int)) (.slice ra rn rc) (.int .i64 (x.2.2.2 : Int)))
      generalize (((w5.setCell ⟨N, 0, none⟩ (.int .i64 (x.1 : Int))).setCell ⟨N, 1, none⟩ (.int .u32 (x.2.1 : Int))).setCell ⟨N, 2, none⟩ (.slice ra rn rc)).setCell ⟨N, 3, none⟩ (.int .i64 (x.2.2.2 : Int)) = w7 at *
      clear q0 q1 q2 q3 f0 f1 f2 f3
      have q0 : w7.cell? ⟨N, 0, none⟩ = some (.int .i64 (x.1 : Int)) := HZ7.out.cell rfl
      have q1 : w7.cell? ⟨N, 1, none⟩ = some (.int .u32 (x.2.1 : Int)) := HZ7.out.cell rfl
      have q2 : w7.cell? ⟨N, 2, none⟩ = some (.slice ra rn rc) := HZ7.out.cell rfl
      have q3 : w7.cell? ⟨N, 3, none⟩ = some (.int .i64 (x.2.2.2 : Int)) := HZ7.out.cell rfl
      have HB7 : Hid (Below N w w7) := HB5.out.trans (HO7.out.below (Nat.le_of_lt HA5.out.lt) (fun k _ hk => Nat.le_of_eq hk.symm))
      have HR7 : Hid (RdX (fun k => k < w4.heap.size) w7 (.slice ra rn rc) (nats x.2.2.1)) := HR5.out.only HO7.out (fun k hk => by show k < _; have := HLW.out; omega)
      refine bodyPost_ret (v := .tuple #[fndV x.1 x.2.1 (.slice ra rn rc) x.2.2.2, .int .i64 0]) (by simp [results, Tryd.results4, go_sem, q0, q1, q2, q3]; rfl) rfl ?_
      exact ⟨_, rfl, HR7.out.rd, by first | exact HB7.out | (rw [HNN.out]; exact HB7.out)⟩
  · have he : qckE h B = errU h := by unfold qckE; rw [if_neg hu]
    rw [qckF_off (by rw [he]; exact hu), he]
    have te : ((errU h : Int) != 0) = true := by simp; omega
    clear hu he HK1 HV1
    generalize errU h = er at *
    go_enter Tryd.func4, Tryd.ntmps4
    go_wp2_with fail
    refine HCK.out.mono ?_
    rintro e w2 ⟨rfl, hb2⟩
    have HA2 := Lib.hid (HA1.out.below hb2 HA1.out.lt)
    have HB2 := Lib.hid (HB1.out.trans (hb2.mono (Nat.le_of_lt HA1.out.lt)))
    clear hb2 HCK
    have q0 : w2.cell? ⟨N, 0, none⟩ = some (.int .i64 0) := HA2.out.cell rfl
    have q1 : w2.cell? ⟨N, 1, none⟩ = some (.int .u32 0) := HA2.out.cell rfl
    have q2 : w2.cell? ⟨N, 2, none⟩ = some (.slice none 0 0) := HA2.out.cell rfl
    have q3 : w2.cell? ⟨N, 3, none⟩ = some (.int .i64 0) := HA2.out.cell rfl
    have f0 : w2.frozen? ⟨N, 0, none⟩ = false := HA2.out.free 0
    have f1 : w2.frozen? ⟨N, 1, none⟩ = false := HA2.out.free 1
    have f2 : w2.frozen? ⟨N, 2, none⟩ = false := HA2.out.free 2
    have f3 : w2.frozen? ⟨N, 3, none⟩ = false := HA2.out.free 3
    go_wp2_with fail
    have HZ7 : Hid (At ((((w2.setCell ⟨N, 0, none⟩ (.int .i64 0)).setCell ⟨N, 1, none⟩ (.int .u32 0)).setCell ⟨N, 2, none⟩ (.slice none 0 0)).setCell ⟨N, 3, none⟩ (.int .i64 0)) N (fnd 0 0 (.slice none 0 0) 0) 26) := fnd_set (v' := 0) (c' := 0) (s' := 0) HA2.out
    have HO7 := Lib.hid (fnd_only w2 N (.int .i64 0) (.int .u32 0) (.slice none 0 0) (.int .i64 0))
    generalize (((w2.setCell ⟨N, 0, none⟩ (.int .i64 0)).setCell ⟨N, 1, none⟩ (.int .u32 0)).setCell ⟨N, 2, none⟩ (.slice none 0 0)).setCell ⟨N, 3, none⟩ (.int .i64 0) = w7 at *
    clear q0 q1 q2 q3 f0 f1 f2 f3
    have q0 : w7.cell? ⟨N, 0, none⟩ = some (.int .i64 0) := HZ7.out.cell rfl
    have q1 : w7.cell? ⟨N, 1, none⟩ = some (.int .u32 0) := HZ7.out.cell rfl
    have q2 : w7.cell? ⟨N, 2, none⟩ = some (.slice none 0 0) := HZ7.out.cell rfl
    have q3 : w7.cell? ⟨N, 3, none⟩ = some (.int .i64 0) := HZ7.out.cell rfl
    have HB7 : Hid (Below N w w7) := HB2.out.trans (HO7.out.below (Nat.le_of_lt HA2.out.lt) (fun k _ hk => Nat.le_of_eq hk.symm))
    refine bodyPost_ret (v := .tuple #[fndV 0 0 (.slice none 0 0) 0, .int .i64 (er : Int)]) (by simp [results, Tryd.results4, go_sem, q0, q1, q2, q3]; rfl) rfl ?_
    exact ⟨_, rfl, .inl ⟨rfl, _, _, rfl⟩, by first | exact HB7.out | (rw [HNN.out]; exact HB7.out)⟩
end Go.Proofs.YtmnblljenobofaaDoor
