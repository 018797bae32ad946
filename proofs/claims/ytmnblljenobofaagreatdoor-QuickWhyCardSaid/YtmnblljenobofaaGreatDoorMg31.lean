/- Merged: QckE, QckH, SrlK, SrlL. -/
import Derived.Test.YtmnblljenobofaaGreatDoorQckD
import Derived.Test.YtmnblljenobofaaGreatDoorMg15
import Derived.Test.YtmnblljenobofaaGreatDoorMg11
import Derived.Test.YtmnblljenobofaaGreatDoorMg27
import Derived.Test.YtmnblljenobofaaGreatDoorMg14
import Derived.Test.YtmnblljenobofaaGreatDoorMg30
import Derived.Test.YtmnblljenobofaaGreatDoorMg12
import Derived.Test.YtmnblljenobofaaGreatDoorMg13
import Derived.Deep.RegionHeld
import Derived.Deep.DeepMust
import Derived.Deep.RegionHeldLaw
import Derived.StillTailTactics
/- The walk of package quick's Check. -/
namespace Go.Proofs.YtmnblljenobofaaGreatDoor.WPlain
end Go.Proofs.YtmnblljenobofaaGreatDoor.WPlain
namespace Go.Proofs.YtmnblljenobofaaGreatDoor.QPlain
end Go.Proofs.YtmnblljenobofaaGreatDoor.QPlain
namespace Go.Proofs.YtmnblljenobofaaGreatDoor.RPlain
end Go.Proofs.YtmnblljenobofaaGreatDoor.RPlain
namespace Go.Proofs.YtmnblljenobofaaGreatDoor
open Go.RowKit WPlain QPlain RPlain

def qckE (h : List Ev) (B : Int) : Nat := if errU h = 0 then (if B < 0 ∨ 1000000 < B then 1 else 0) else errU h
def qckF (h : List Ev) (B : Int) : Nat × Nat × List Nat × Nat := if qckE h B = 0 then quickS B.toNat (tableS h) else (0, 0, [], 0)
theorem qckE_zero {h : List Ev} {B : Int} (h0 : qckE h B = 0) : errU h = 0 ∧ 0 ≤ B ∧ B ≤ 1000000 := by
  unfold qckE at h0
  by_cases hu : errU h = 0
  · rw [if_pos hu] at h0
    by_cases hb : B < 0 ∨ 1000000 < B
    · rw [if_pos hb] at h0; cases h0
    · exact ⟨hu, by omega, by omega⟩
  · rw [if_neg hu] at h0; exact absurd h0 hu
theorem qckF_of {h : List Ev} {B : Nat} (h0 : qckE h (B : Int) = 0) : qckF h (B : Int) = quickS B (tableS h) := by
  unfold qckF
  rw [if_pos h0, Int.toNat_natCast]
theorem qckF_off {h : List Ev} {B : Int} (h0 : qckE h B ≠ 0) : qckF h B = (0, 0, [], 0) := by
  unfold qckF
  rw [if_neg h0]
set_option maxRecDepth 100000 in
set_option maxHeartbeats 4000000 in
theorem checkQ_any (v : Value) (h : List Ev) (B : Int) (w : World) (hK : HasK w) (hv : Evs w v h) (hl : h.length ≤ 65536) :
    Calls Tryz.prog 5 #[v, .int .i64 B] w fun e w' => ∃ rv, e = .returned (.tuple #[fndV (qckF h B).1 (qckF h B).2.1 rv (qckF h B).2.2.2, .int .i64 ((qckE h B : Nat) : Int)]) ∧ Rd w' rv (nats (qckF h B).2.2.1) ∧ Below w.heap.size w w' := by
  obtain ⟨N, hN⟩ : ∃ N, w.heap.size = N := ⟨_, rfl⟩
  obtain ⟨w1, hw1⟩ : ∃ w1, w.alloc (.cells #[.int .i64 0, .int .u32 0, .slice none 0 0, .int .i64 0] 26) = w1 := ⟨_, rfl⟩
  have HB1 : Hid (Below N w w1) := by
    rw [← hw1, ← hN]
    exact (Below.refl _ w).alloc (Nat.le_refl _) _
  have HA1 : Hid (At w1 N (fnd 0 0 (.slice none 0 0) 0) 26) := by
    rw [← hw1, ← hN]
    exact At.new w _ _
  have HK1 := Lib.hid (hK.later HB1.out (by omega))
  have HV1 := Lib.hid (hv.below HB1.out (by omega))
  have HCK := Lib.hid (checkU_any v h w1 HK1.out HV1.out hl)
  have HNN := Lib.hid hN
  obtain ⟨ea, ec, rfl⟩ := hv.len
  clear hK hv
  by_cases hu : errU h = 0
  · have h0 := (errU_zero hu).1
    have h6 := table_six h0
    by_cases hb : B < 0 ∨ 1000000 < B
    · have he : qckE h B = 1 := by unfold qckE; rw [if_pos hu, if_pos hb]
      rw [qckF_off (by rw [he]; decide), he]
      rw [hu] at HCK
      clear hu he h0 h6 HK1 HV1
      go_enter Tryz.func5, Tryz.ntmps5
      go_wp2_with fail
      refine HCK.out.mono ?_
      rintro e w2 ⟨rfl, hb2⟩
      have HA2 := Lib.hid (HA1.out.below hb2 HA1.out.lt)
      have HB2 := Lib.hid (HB1.out.trans (hb2.mono (Nat.le_of_lt HA1.out.lt)))
      clear hb2 HCK
      have q0 : w2.cell? ⟨N, 0, none⟩ = some (.int .i64 0) := HA2.out.cell rfl
      have q1 : w2.cell? ⟨N, 1, none⟩ = some (.int .u32 0) := HA2.out.cell rfl
      have q2 : w2.cell? ⟨N, 2, none⟩ = some (.slice none 0 0) := HA2.out.cell rfl
      have q3 : w2.cell? ⟨N, 3, none⟩ = some (.int .i64 0) := HA2.out.cell rfl
      have f0 : w2.frozen? ⟨N, 0, none⟩ = false := HA2.out.free 0
      have f1 : w2.frozen? ⟨N, 1, none⟩ = false := HA2.out.free 1
      have f2 : w2.frozen? ⟨N, 2, none⟩ = false := HA2.out.free 2
      have f3 : w2.frozen? ⟨N, 3, none⟩ = false := HA2.out.free 3
      go_wp2_with fail
      all_goals
        have HZ7 : Hid (At ((((w2.setCell ⟨N, 0, none⟩ (.int .i64 0)).setCell ⟨N, 1, none⟩ (.int .u32 0)).setCell ⟨N, 2, none⟩ (.slice none 0 0)).setCell ⟨N, 3, none⟩ (.int .i64 0)) N (fnd 0 0 (.slice none 0 0) 0) 26) := fnd_set (v' := 0) (c' := 0) (s' := 0) HA2.out
        have HO7 := Lib.hid (fnd_only w2 N (.int .i64 0) (.int .u32 0) (.slice none 0 0) (.int .i64 0))
        generalize (((w2.setCell ⟨N, 0, none⟩ (.int .i64 0)).setCell ⟨N, 1, none⟩ (.int .u32 0)).setCell ⟨N, 2, none⟩ (.slice none 0 0)).setCell ⟨N, 3, none⟩ (.int .i64 0) = w7 at *
        clear q0 q1 q2 q3 f0 f1 f2 f3
        have q0 : w7.cell? ⟨N, 0, none⟩ = some (.int .i64 0) := HZ7.out.cell rfl
        have q1 : w7.cell? ⟨N, 1, none⟩ = some (.int .u32 0) := HZ7.out.cell rfl
        have q2 : w7.cell? ⟨N, 2, none⟩ = some (.slice none 0 0) := HZ7.out.cell rfl
        have q3 : w7.cell? ⟨N, 3, none⟩ = some (.int .i64 0) := HZ7.out.cell rfl
        have HB7 : Hid (Below N w w7) := HB2.out.trans (HO7.out.below (Nat.le_of_lt HA2.out.lt) (fun k _ hk => Nat.le_of_eq hk.symm))
        refine bodyPost_ret (v := .tuple #[fndV 0 0 (.slice none 0 0) 0, .int .i64 1]) (by simp [results, Tryz.results5, go_sem, q0, q1, q2, q3]; rfl) rfl ?_
        exact ⟨_, rfl, .inl ⟨rfl, _, _, rfl⟩, by first | exact HB7.out | (rw [HNN.out]; exact HB7.out)⟩
    · obtain ⟨BN, rfl⟩ : ∃ BN : Nat, B = (BN : Int) := ⟨B.toNat, by omega⟩
      have he : qckE h (BN : Int) = 0 := by unfold qckE; rw [if_pos hu, if_neg hb]
      rw [qckF_of he, he]
      have HRO := Lib.hid (fun (W : World) (hW : Below w1.heap.size w1 W) => readableOfQ_any _ h W (HK1.out.later hW (Nat.le_refl _)) (HV1.out.below hW (Nat.le_refl _)) hl hu)
      have HRW := Lib.hid (fun (W : World) (hW : Below w1.heap.size w1 W) => rowsOfQ_any _ h W (HK1.out.later hW (Nat.le_refl _)) (HV1.out.below hW (Nat.le_refl _)) hl h0)
      obtain ⟨cs, hcs⟩ : ∃ cs, (choicesS (tableS h)).filter (readS (tableS h)) = cs := ⟨_, rfl⟩
      have hmem : ∀ c ∈ cs, c < 2 ^ (tableS h).length ∧ readS (tableS h) c = true := fun c hc => by
        rw [← hcs, List.mem_filter, choices_chL h6] at hc
        exact ⟨(mem_chL.1 hc.1).1, hc.2⟩
      have hcl : cs.length ≤ 64 := by
        rw [← hcs]
        exact Nat.le_trans (List.length_filter_le _ _) (choices_count _)
      have hq : quickS BN (tableS h) = quickG BN (tableS h) cs 0 := by rw [← hcs]; exact (quick_filter _ _).symm
      have HFI := Lib.hid (fun (cv wv : Value) (W : World) (hW : Below w1.heap.size w1 W) (h1 : Rd W cv (u32s cs)) (h2 : RowsN W wv (allS (afterS (tableS h)))) => findQ_any _ cv wv h cs BN W (HK1.out.later hW (Nat.le_refl _)) (HV1.out.below hW (Nat.le_refl _)) hl hu h1 hmem (by omega) h2 (by omega))
      rw [hq]
      rw [hcs] at HRO
      rw [hu] at HCK
      have tb : ¬ ((BN : Int) < 0) := by omega
      have tb2 : ¬ ((1000000 : Int) < (BN : Int)) := by omega
      clear hu he h0 h6 HK1 HV1 hcs hmem hq hb
      generalize quickG BN (tableS h) cs 0 = x at *
      generalize allS (afterS (tableS h)) = rows at *
      go_enter Tryz.func5, Tryz.ntmps5
      go_wp2_with fail
      refine HCK.out.mono ?_
      rintro e w2 ⟨rfl, hb2⟩
      have HB2 := Lib.hid hb2
      clear hb2 HCK
      go_wp2_with fail
      refine (HRO.out _ HB2.out).mono ?_
      rintro e w3 ⟨v3, rfl, hv3, hb3⟩
      have HV3 := Lib.hid hv3
      have HB3 := Lib.hid (HB2.out.trans (hb3.mono HB2.out.size))
      obtain ⟨a3, c3, rfl⟩ := hv3.len
      clear hv3 hb3 HRO HB2
      go_wp2_with fail
      refine (HRW.out _ HB3.out).mono ?_
      rintro e w4 ⟨v4, rfl, hv4, hb4⟩
      have HV4 := Lib.hid hv4
      have HB4 := Lib.hid (HB3.out.trans (hb4.mono HB3.out.size))
      have HV34 := Lib.hid (HV3.out.below hb4 (Nat.le_refl _))
      obtain ⟨a4, c4, rfl⟩ := hv4.len
      have HFX := Lib.hid (HFI.out _ _ _ HB4.out HV34.out HV4.out)
      clear hv4 hb4 HRW HB3 HFI
      unfold fndV at HFX
      go_wp2_with fail
      refine HFX.out.mono ?_
      rintro e w5 ⟨rv, rfl, hr5, hb5⟩
      have HR5 := Lib.hid hr5
      have HB5 := Lib.hid (HB4.out.trans (hb5.mono HB4.out.size))
      have HA5 := Lib.hid (HA1.out.below HB5.out HA1.out.lt)
      have HB5 : Hid (Below N w w5) := HB1.out.trans (HB5.out.mono (Nat.le_of_lt HA1.out.lt))
      have HLW : Hid (N < w4.heap.size) := (HA1.out.below HB4.out HA1.out.lt).lt
      obtain ⟨ra, rc, rfl⟩ := hr5.rd.len
      obtain ⟨rn, hrn⟩ : ∃ z, (nats x.2.2.1).length = z := ⟨_, rfl⟩
      rw [hrn] at HR5 ⊢
      clear hr5 hb5 HFX HB4 HV4 HV34 hrn
      have q0 : w5.cell? ⟨N, 0, none⟩ = some (.int .i64 0) := HA5.out.cell rfl
      have q1 : w5.cell? ⟨N, 1, none⟩ = some (.int .u32 0) := HA5.out.cell rfl
      have q2 : w5.cell? ⟨N, 2, none⟩ = some (.slice none 0 0) := HA5.out.cell rfl
      have q3 : w5.cell? ⟨N, 3, none⟩ = some (.int .i64 0) := HA5.out.cell rfl
      have f0 : w5.frozen? ⟨N, 0, none⟩ = false := HA5.out.free 0
      have f1 : w5.frozen? ⟨N, 1, none⟩ = false := HA5.out.free 1
      have f2 : w5.frozen? ⟨N, 2, none⟩ = false := HA5.out.free 2
      have f3 : w5.frozen? ⟨N, 3, none⟩ = false := HA5.out.free 3
      go_wp2_with fail
      have HZ7 : Hid (At ((((w5.setCell ⟨N, 0, none⟩ (.int .i64 (x.1 : Int))).setCell ⟨N, 1, none⟩ (.int .u32 (x.2.1 : Int))).setCell ⟨N, 2, none⟩ (.slice ra rn rc)).setCell ⟨N, 3, none⟩ (.int .i64 (x.2.2.2 : Int))) N (fnd x.1 x.2.1 (.slice ra rn rc) x.2.2.2) 26) := fnd_set (v' := x.1) (c' := x.2.1) (s' := x.2.2.2) HA5.out
      have HO7 := Lib.hid (fnd_only w5 N (.int .i64 (x.1 : Int)) (.int .u32 (x.2.1 : Int)) (.slice ra rn rc) (.int .i64 (x.2.2.2 : Int)))
      generalize (((w5.setCell ⟨N, 0, none⟩ (.int .i64 (x.1 : Int))).setCell ⟨N, 1, none⟩ (.int .u32 (x.2.1 : Int))).setCell ⟨N, 2, none⟩ (.slice ra rn rc)).setCell ⟨N, 3, none⟩ (.int .i64 (x.2.2.2 : Int)) = w7 at *
      clear q0 q1 q2 q3 f0 f1 f2 f3
      have q0 : w7.cell? ⟨N, 0, none⟩ = some (.int .i64 (x.1 : Int)) := HZ7.out.cell rfl
      have q1 : w7.cell? ⟨N, 1, none⟩ = some (.int .u32 (x.2.1 : Int)) := HZ7.out.cell rfl
      have q2 : w7.cell? ⟨N, 2, none⟩ = some (.slice ra rn rc) := HZ7.out.cell rfl
      have q3 : w7.cell? ⟨N, 3, none⟩ = some (.int .i64 (x.2.2.2 : Int)) := HZ7.out.cell rfl
      have HB7 : Hid (Below N w w7) := HB5.out.trans (HO7.out.below (Nat.le_of_lt HA5.out.lt) (fun k _ hk => Nat.le_of_eq hk.symm))
      have HR7 : Hid (RdX (fun k => k < w4.heap.size) w7 (.slice ra rn rc) (nats x.2.2.1)) := HR5.out.only HO7.out (fun k hk => by show k < _; have := HLW.out; omega)
      refine bodyPost_ret (v := .tuple #[fndV x.1 x.2.1 (.slice ra rn rc) x.2.2.2, .int .i64 0]) (by simp [results, Tryz.results5, go_sem, q0, q1, q2, q3]; rfl) rfl ?_
      exact ⟨_, rfl, HR7.out.rd, by first | exact HB7.out | (rw [HNN.out]; exact HB7.out)⟩
  · have he : qckE h B = errU h := by unfold qckE; rw [if_neg hu]
    rw [qckF_off (by rw [he]; exact hu), he]
    have te : ((errU h : Int) != 0) = true := by simp; omega
    clear hu he HK1 HV1
    generalize errU h = er at *
    go_enter Tryz.func5, Tryz.ntmps5
    go_wp2_with fail
    refine HCK.out.mono ?_
    rintro e w2 ⟨rfl, hb2⟩
    have HA2 := Lib.hid (HA1.out.below hb2 HA1.out.lt)
    have HB2 := Lib.hid (HB1.out.trans (hb2.mono (Nat.le_of_lt HA1.out.lt)))
    clear hb2 HCK
    have q0 : w2.cell? ⟨N, 0, none⟩ = some (.int .i64 0) := HA2.out.cell rfl
    have q1 : w2.cell? ⟨N, 1, none⟩ = some (.int .u32 0) := HA2.out.cell rfl
    have q2 : w2.cell? ⟨N, 2, none⟩ = some (.slice none 0 0) := HA2.out.cell rfl
    have q3 : w2.cell? ⟨N, 3, none⟩ = some (.int .i64 0) := HA2.out.cell rfl
    have f0 : w2.frozen? ⟨N, 0, none⟩ = false := HA2.out.free 0
    have f1 : w2.frozen? ⟨N, 1, none⟩ = false := HA2.out.free 1
    have f2 : w2.frozen? ⟨N, 2, none⟩ = false := HA2.out.free 2
    have f3 : w2.frozen? ⟨N, 3, none⟩ = false := HA2.out.free 3
    go_wp2_with fail
    have HZ7 : Hid (At ((((w2.setCell ⟨N, 0, none⟩ (.int .i64 0)).setCell ⟨N, 1, none⟩ (.int .u32 0)).setCell ⟨N, 2, none⟩ (.slice none 0 0)).setCell ⟨N, 3, none⟩ (.int .i64 0)) N (fnd 0 0 (.slice none 0 0) 0) 26) := fnd_set (v' := 0) (c' := 0) (s' := 0) HA2.out
    have HO7 := Lib.hid (fnd_only w2 N (.int .i64 0) (.int .u32 0) (.slice none 0 0) (.int .i64 0))
    generalize (((w2.setCell ⟨N, 0, none⟩ (.int .i64 0)).setCell ⟨N, 1, none⟩ (.int .u32 0)).setCell ⟨N, 2, none⟩ (.slice none 0 0)).setCell ⟨N, 3, none⟩ (.int .i64 0) = w7 at *
    clear q0 q1 q2 q3 f0 f1 f2 f3
    have q0 : w7.cell? ⟨N, 0, none⟩ = some (.int .i64 0) := HZ7.out.cell rfl
    have q1 : w7.cell? ⟨N, 1, none⟩ = some (.int .u32 0) := HZ7.out.cell rfl
    have q2 : w7.cell? ⟨N, 2, none⟩ = some (.slice none 0 0) := HZ7.out.cell rfl
    have q3 : w7.cell? ⟨N, 3, none⟩ = some (.int .i64 0) := HZ7.out.cell rfl
    have HB7 : Hid (Below N w w7) := HB2.out.trans (HO7.out.below (Nat.le_of_lt HA2.out.lt) (fun k _ hk => Nat.le_of_eq hk.symm))
    refine bodyPost_ret (v := .tuple #[fndV 0 0 (.slice none 0 0) 0, .int .i64 (er : Int)]) (by simp [results, Tryz.results5, go_sem, q0, q1, q2, q3]; rfl) rfl ?_
    exact ⟨_, rfl, .inl ⟨rfl, _, _, rfl⟩, by first | exact HB7.out | (rw [HNN.out]; exact HB7.out)⟩
end Go.Proofs.YtmnblljenobofaaGreatDoor
/- The walk of recantlaw19's alive. -/
namespace Go.Proofs.YtmnblljenobofaaGreatDoor.WPlain
end Go.Proofs.YtmnblljenobofaaGreatDoor.WPlain
namespace Go.Proofs.YtmnblljenobofaaGreatDoor.QPlain
end Go.Proofs.YtmnblljenobofaaGreatDoor.QPlain
namespace Go.Proofs.YtmnblljenobofaaGreatDoor.RPlain
end Go.Proofs.YtmnblljenobofaaGreatDoor.RPlain
namespace Go.Proofs.YtmnblljenobofaaGreatDoor
open Go.RowKit WPlain QPlain RPlain

def hQk : List Ev := [⟨0, 1, 0, 0⟩, ⟨1, 1, 0, 0⟩, ⟨4, 1, 0, 5⟩, ⟨5, 1, 0, 0⟩, ⟨6, 1, 0, 0⟩, ⟨0, 2, 0, 0⟩, ⟨1, 2, 0, 0⟩, ⟨2, 2, 0, 0⟩, ⟨3, 2, 0, 5⟩]
theorem qckE_alive : qckE hQk 9 = 0 := by decide +kernel
theorem qckF_alive : qckF hQk 9 = (0, 1, [0, 1], 1) := by decide +kernel
set_option maxRecDepth 100000 in
set_option maxHeartbeats 2000000 in
theorem aliveQ_any (w : World) (hK : HasK w) : Calls Tryz.prog 7 #[] w fun e w' => e = .returned (.bool true) ∧ Below w.heap.size w w' := by
  have hb0 := (Below.refl w.heap.size w).alloc (Nat.le_refl _) (.cells (evsCells hQk).toArray 53)
  have hE := evs_at 9 hQk (At.new w (evsCells hQk).toArray 53)
  have hT := checkQ_any _ hQk 9 _ (hK.later hb0 (Nat.le_refl _)) hE (by simp [hQk])
  rw [qckE_alive, qckF_alive] at hT
  have hlen : hQk.length = 9 := rfl
  rw [hlen] at hT
  simp only [evsCells, evCells, hQk, List.flatMap_cons, List.flatMap_nil, List.append_nil, List.cons_append, List.nil_append] at hT hb0
  have HT := Lib.hid hT
  have HB0 := Lib.hid hb0
  clear hT hb0 hE hK hlen
  go_enter Tryz.func7, Tryz.ntmps7
  go_wp2_with fail
  refine HT.out.mono ?_
  rintro e w2 ⟨rv, rfl, hr, hb⟩
  have HB := Lib.hid (HB0.out.trans (hb.mono HB0.out.size))
  obtain ⟨a, c, rfl⟩ := hr.len
  have hn2 : (nats [0, 1]).length = 2 := rfl
  rw [hn2]
  obtain ⟨N, hN⟩ : ∃ N, w2.heap.size = N := ⟨_, rfl⟩
  obtain ⟨w3, hw3⟩ : ∃ w3, w2.alloc (.cells #[.int .i64 0, .int .u32 1, .slice a 2 c, .int .i64 1] 26) = w3 := ⟨_, rfl⟩
  have ha : At w3 N #[.int .i64 0, .int .u32 1, .slice a 2 c, .int .i64 1] 26 := by
    rw [← hw3, ← hN]; exact At.new w2 _ _
  have q0 : w3.cell? ⟨N, 0, none⟩ = some (.int .i64 0) := ha.cell rfl
  have q1 : w3.cell? ⟨N, 1, none⟩ = some (.int .u32 1) := ha.cell rfl
  have q2 : w3.cell? ⟨N, 2, none⟩ = some (.slice a 2 c) := ha.cell rfl
  have q3 : w3.cell? ⟨N, 3, none⟩ = some (.int .i64 1) := ha.cell rfl
  have hbw : Below w2.heap.size w2 w3 := by rw [← hw3]; exact (Below.refl _ w2).alloc (Nat.le_refl _) _
  have HB3 := Lib.hid (HB.out.trans (hbw.mono HB.out.size))
  clear hr hb hn2 ha hbw HT HB0 HB
  unfold fndV
  go_wp2_with fail
  go_ret
  exact ⟨rfl, HB3.out⟩
end Go.Proofs.YtmnblljenobofaaGreatDoor
/- The walks of recantref01's Ints at any two rows, of slices.Equal, and of both packages' call that tells whether two findings are the same. -/
namespace Go.Proofs.YtmnblljenobofaaGreatDoor.WPlain
end Go.Proofs.YtmnblljenobofaaGreatDoor.WPlain
namespace Go.Proofs.YtmnblljenobofaaGreatDoor.QPlain
end Go.Proofs.YtmnblljenobofaaGreatDoor.QPlain
namespace Go.Proofs.YtmnblljenobofaaGreatDoor.RPlain
end Go.Proofs.YtmnblljenobofaaGreatDoor.RPlain
namespace Go.Proofs.YtmnblljenobofaaGreatDoor
open Go.RowKit WPlain QPlain RPlain

theorem beq_false' {a b : Int} (h : ¬ a = b) : (a == b) = false := by rw [beq_eq_false_iff_ne]; exact h
theorem ints_getI {xs : List Int} {k : Nat} (h : k < xs.length) : (ints xs)[k]? = some (.int .i64 xs[k]) := by
  unfold ints
  rw [List.getElem?_map, List.getElem?_eq_getElem h]; rfl
theorem take_differ {xs ys : List Int} {k : Nat} (hx : k < xs.length) (_hy : k < ys.length) (h : ¬ xs[k] = ys[k]) : ¬ xs = ys := by
  rintro rfl
  exact h rfl
set_option maxRecDepth 100000 in
set_option maxHeartbeats 1000000 in
theorem refIntsM_any (v1 v2 : Value) (xs ys : List Int) (w : World) (h1 : Rd w v1 (ints xs)) (h2 : Rd w v2 (ints ys)) (hx : xs.length ≤ 9223372036854775807) :
    Calls Tryz.prog 15 #[v1, v2] w fun e w' => e = .returned (.bool (decide (xs = ys))) ∧ ∃ n, w' = w.drewN n := by
  have H1 := Lib.hid h1
  have H2 := Lib.hid h2
  obtain ⟨a1, c1, rfl⟩ := h1.len
  obtain ⟨a2, c2, rfl⟩ := h2.len
  rw [ints_len] at H1 H2 ⊢
  rw [ints_len]
  clear h1 h2
  by_cases hl : xs.length = ys.length
  · have HL := Lib.hid hl
    have HD := Lib.hid (fun (k : Nat) (hx : k < xs.length) (hy : k < ys.length) (h : ¬ xs[k] = ys[k]) => take_differ hx hy h)
    obtain ⟨res, hres⟩ : ∃ res, decide (xs = ys) = res := ⟨_, rfl⟩
    have HRES := Lib.hid hres
    rw [hres]
    have HT0 : Hid (xs.take 0 = ys.take 0) := rfl
    have HNX : Hid (∀ k (hx : k < xs.length) (hy : k < ys.length), xs.take k = ys.take k → xs[k] = ys[k] → xs.take (k + 1) = ys.take (k + 1)) := fun k hx hy h1 h2 => by
      rw [List.take_succ_eq_append_getElem hx, List.take_succ_eq_append_getElem hy, h1, h2]
    have HFN : Hid (xs.take xs.length = ys.take xs.length → xs = ys) := fun h => by
      rw [List.take_length, hl, List.take_length] at h
      exact h
    obtain ⟨nx, hnx⟩ : ∃ nx, xs.length = nx := ⟨_, rfl⟩
    obtain ⟨ny, hny⟩ : ∃ ny, ys.length = ny := ⟨_, rfl⟩
    have tl : ((nx : Int) != (ny : Int)) = false := by simp; omega
    have HNXE := Lib.hid hnx
    have HNYE := Lib.hid hny
    rw [hnx] at H1 hx ⊢
    rw [hny] at H2 ⊢
    have hxy : nx ≤ ny ∧ ny ≤ nx := by omega
    clear hl hres hnx hny
    obtain ⟨hxy1, hxy2⟩ := hxy
    go_enter Tryz.func15, Tryz.ntmps15
    go_wp2_with fail
    go_loopw [13] (fun x wr => ∃ k n : Nat, k ≤ nx ∧ x = .int .i64 k ∧ Hid (xs.take k = ys.take k) ∧ wr = w.drewN n) (fun x _ => nx - (intOf x).toNat)
    case atStart => exact ⟨0, 0, by omega, rfl, HT0, rfl⟩
    case round =>
      clear HT0
      obtain ⟨k, n, hk, rfl, HT, rfl⟩ := hrel
      by_cases hlt : k < nx
      · have hkx : k < xs.length := by have := HNXE.out; omega
        have hky : k < ys.length := by have := HNYE.out; omega
        obtain ⟨b1, o1, d1, he1, -, hc1⟩ := H1.out.opened (by rw [ints_len]; omega)
        obtain ⟨b2, o2, d2, he2, -, hc2⟩ := H2.out.opened (by rw [ints_len]; omega)
        have g1 := hc1 k _ (ints_getI hkx)
        have g2 := hc2 k _ (ints_getI hky)
        rw [ints_len, HNXE.out] at he1
        rw [ints_len, HNYE.out] at he2
        simp only [Value.slice.injEq] at he1 he2
        obtain ⟨rfl, -, rfl⟩ := he1
        obtain ⟨rfl, -, rfl⟩ := he2
        have HDK := Lib.hid (HD.out k hkx hky)
        have HNK := Lib.hid (HNX.out k hkx hky HT.out)
        have k1 : (k : Int) < (nx : Int) := by omega
        have k2 : (k : Int) < (ny : Int) := by omega
        clear hc1 hc2 HT
        generalize xs[k] = y at *
        generalize ys[k] = z at *
        clear hkx hky
        by_cases hyz : y = z
        · have HT2 := Lib.hid (HNK.out hyz)
          subst hyz
          clear HDK HNK
          go_wp2
          go_quiet (fail)
          go_wp2
          go_roundw
          case rel => exact ⟨k + 1, _, by omega, by go_num, HT2, rfl⟩
          case measure => simp [intOf]; omega
        · have HF : Hid (res = false) := by
            unfold Hid
            rw [← HRES.out]
            exact decide_eq_false (HDK.out hyz)
          have tne : (y != z) = true := by simp [hyz]
          clear HDK HNK
          go_wp2
          go_quiet (fail)
          go_wp2
          go_ret
          exact ⟨by rw [HF.out]; rfl, n + nq, by rw [World.drewN_drewN]⟩
      · obtain rfl : k = nx := by omega
        have HF : Hid (res = true) := by
          unfold Hid
          rw [← HRES.out]
          refine decide_eq_true (HFN.out ?_)
          rw [HNXE.out]
          exact HT.out
        clear HT
        go_wp2
        go_ret
        exact ⟨by rw [HF.out]; rfl, n, rfl⟩
  · have hne : ¬ xs = ys := fun h => hl (by rw [h])
    rw [decide_eq_false hne]
    generalize xs.length = nx at *
    generalize ys.length = ny at *
    have tl : ((nx : Int) != (ny : Int)) = true := by simp; omega
    clear hl
    go_enter Tryz.func15, Tryz.ntmps15
    go_wp2_with fail
    go_ret
    exact ⟨rfl, 0, rfl⟩
/-- are two findings the same? -/
def sameF (v1 c1 s1 v2 c2 s2 : Int) (xs ys : List Int) : Bool := decide (v1 = v2 ∧ c1 = c2 ∧ xs = ys ∧ s1 = s2)
set_option maxRecDepth 100000 in
set_option maxHeartbeats 2000000 in
theorem refSameM_any (v1 c1 s1 v2 c2 s2 : Int) (r1 r2 : Value) (xs ys : List Int) (w : World) (h1 : Rd w r1 (ints xs)) (h2 : Rd w r2 (ints ys)) (hx : xs.length ≤ 9223372036854775807) :
    Calls Tryz.prog 8 #[.agg #[.int .i64 v1, .int .u32 c1, r1, .int .i64 s1], .agg #[.int .i64 v2, .int .u32 c2, r2, .int .i64 s2]] w fun e w' => e = .returned (.bool (sameF v1 c1 s1 v2 c2 s2 xs ys)) ∧ Below w.heap.size w w' := by
  obtain ⟨a1, d1, rfl⟩ := h1.len
  obtain ⟨a2, d2, rfl⟩ := h2.len
  obtain ⟨n1, hn1⟩ : ∃ z, (ints xs).length = z := ⟨_, rfl⟩
  obtain ⟨n2, hn2⟩ : ∃ z, (ints ys).length = z := ⟨_, rfl⟩
  rw [hn1] at h1 ⊢
  rw [hn2] at h2 ⊢
  obtain ⟨N, hN⟩ : ∃ z, w.heap.size = z := ⟨_, rfl⟩
  obtain ⟨w1, hw1⟩ : ∃ z, (w.alloc (.cells #[.int .i64 v1, .int .u32 c1, .slice a1 n1 d1, .int .i64 s1] 26)).alloc (.cells #[.int .i64 v2, .int .u32 c2, .slice a2 n2 d2, .int .i64 s2] 26) = z := ⟨_, rfl⟩
  have ha : At w1 N #[.int .i64 v1, .int .u32 c1, .slice a1 n1 d1, .int .i64 s1] 26 := by
    rw [← hw1, ← hN]; exact (At.new w _ _).alloc _
  have hb : At w1 (N + 1) #[.int .i64 v2, .int .u32 c2, .slice a2 n2 d2, .int .i64 s2] 26 := by
    rw [← hw1, ← hN]
    have := At.new (w.alloc (.cells #[.int .i64 v1, .int .u32 c1, .slice a1 n1 d1, .int .i64 s1] 26)) #[.int .i64 v2, .int .u32 c2, .slice a2 n2 d2, .int .i64 s2] 26
    rwa [World.size_alloc] at this
  have hb1 : Below N w w1 := by
    rw [← hw1, ← hN]; exact ((Below.refl _ w).alloc (Nat.le_refl _) _).alloc (by simp) _
  have HC := Lib.hid (refIntsM_any (.slice a1 n1 d1) (.slice a2 n2 d2) xs ys w1 (h1.below hb1 (by omega)) (h2.below hb1 (by omega)) hx)
  have HB1 : Hid (Below w.heap.size w w1) := by rw [← hN] at hb1; exact hb1
  have p0 : w1.cell? ⟨N, 0, none⟩ = some (.int .i64 v1) := ha.cell rfl
  have p1 : w1.cell? ⟨N, 1, none⟩ = some (.int .u32 c1) := ha.cell rfl
  have p2 : w1.cell? ⟨N, 2, none⟩ = some (.slice a1 n1 d1) := ha.cell rfl
  have p3 : w1.cell? ⟨N, 3, none⟩ = some (.int .i64 s1) := ha.cell rfl
  have q0 : w1.cell? ⟨N + 1, 0, none⟩ = some (.int .i64 v2) := hb.cell rfl
  have q1 : w1.cell? ⟨N + 1, 1, none⟩ = some (.int .u32 c2) := hb.cell rfl
  have q2 : w1.cell? ⟨N + 1, 2, none⟩ = some (.slice a2 n2 d2) := hb.cell rfl
  have q3 : w1.cell? ⟨N + 1, 3, none⟩ = some (.int .i64 s2) := hb.cell rfl
  unfold sameF
  clear ha hb hb1 h1 h2 hn1 hn2
  by_cases e0 : v1 = v2
  · by_cases e1 : c1 = c2
    · by_cases e3 : s1 = s2
      · by_cases e2 : xs = ys
        · rw [decide_eq_true e2] at HC
          rw [decide_eq_true ⟨e0, e1, e2, e3⟩]
          have t0 : (v1 == v2) = true := by simp [e0]
          have t1 : (c1 == c2) = true := by simp [e1]
          have t3 : (s1 == s2) = true := by simp [e3]
          clear e0 e1 e2 e3
          go_enter Tryz.func8, Tryz.ntmps8
          go_wp2_with (go_at_call 15; refine HC.out.mono ?_; rintro e w3 ⟨rfl, n, hw3⟩; rw [hw3]; clear hw3)
          go_ret
          exact ⟨rfl, below_drN HB1.out _⟩
        · rw [decide_eq_false e2] at HC
          rw [decide_eq_false (fun h => e2 h.2.2.1)]
          have t0 : (v1 == v2) = true := by simp [e0]
          have t1 : (c1 == c2) = true := by simp [e1]
          have t3 : (s1 == s2) = true := by simp [e3]
          clear e0 e1 e2 e3
          go_enter Tryz.func8, Tryz.ntmps8
          go_wp2_with (go_at_call 15; refine HC.out.mono ?_; rintro e w3 ⟨rfl, n, hw3⟩; rw [hw3]; clear hw3)
          go_ret
          exact ⟨rfl, below_drN HB1.out _⟩
      · rw [decide_eq_false (fun h => e3 h.2.2.2)]
        have t0 : (v1 == v2) = true := by simp [e0]
        have t1 : (c1 == c2) = true := by simp [e1]
        have t3 := beq_false' e3
        clear e0 e1 e3
        go_enter Tryz.func8, Tryz.ntmps8
        go_wp2_with fail
        go_ret
        exact ⟨rfl, HB1.out⟩
    · rw [decide_eq_false (fun h => e1 h.2.1)]
      have t0 : (v1 == v2) = true := by simp [e0]
      have t1 := beq_false' e1
      clear e0 e1
      go_enter Tryz.func8, Tryz.ntmps8
      go_wp2_with fail
      go_ret
      exact ⟨rfl, HB1.out⟩
  · rw [decide_eq_false (fun h => e0 h.1)]
    have t0 := beq_false' e0
    clear e0
    go_enter Tryz.func8, Tryz.ntmps8
    go_wp2_with fail
    go_ret
    exact ⟨rfl, HB1.out⟩
theorem refSameS_any (v1 c1 s1 v2 c2 s2 : Int) (r1 r2 : Value) (xs ys : List Int) (w : World) (h1 : Rd w r1 (ints xs)) (h2 : Rd w r2 (ints ys)) (hx : xs.length ≤ 65536) :
    Calls Tryz.prog 8 #[.agg #[.int .i64 v1, .int .u32 c1, r1, .int .i64 s1], .agg #[.int .i64 v2, .int .u32 c2, r2, .int .i64 s2]] w fun e w' => e = .returned (.bool (sameF v1 c1 s1 v2 c2 s2 xs ys)) ∧ Below w.heap.size w w' := refSameM_any v1 c1 s1 v2 c2 s2 r1 r2 xs ys w h1 h2 (by omega)
end Go.Proofs.YtmnblljenobofaaGreatDoor
/- The walk of SerialRows. -/
namespace Go.Proofs.YtmnblljenobofaaGreatDoor.WPlain
end Go.Proofs.YtmnblljenobofaaGreatDoor.WPlain
namespace Go.Proofs.YtmnblljenobofaaGreatDoor.QPlain
end Go.Proofs.YtmnblljenobofaaGreatDoor.QPlain
namespace Go.Proofs.YtmnblljenobofaaGreatDoor.RPlain
end Go.Proofs.YtmnblljenobofaaGreatDoor.RPlain
namespace Go.Proofs.YtmnblljenobofaaGreatDoor
open Go.RowKit WPlain QPlain RPlain

theorem sameF_self (v c s : Int) (xs : List Int) : sameF v c s v c s xs xs = true := by unfold sameF; simp
theorem refSame_same (v c s : Nat) (R : List Nat) (r1 r2 : Value) (w : World) (h1 : Rd w r1 (nats R)) (h2 : Rd w r2 (nats R)) (hl : R.length ≤ 65536) :
    Calls Tryz.prog 8 #[.agg #[.int .i64 (v : Int), .int .u32 (c : Int), r1, .int .i64 (s : Int)], .agg #[.int .i64 (v : Int), .int .u32 (c : Int), r2, .int .i64 (s : Int)]] w fun e w' => e = .returned (.bool true) ∧ Below w.heap.size w w' := by
  have h := refSameS_any v c s v c s r1 r2 (R.map fun x : Nat => (x : Int)) (R.map fun x : Nat => (x : Int)) w (by rw [← nats_intsS]; exact h1) (by rw [← nats_intsS]; exact h2) (by rw [List.length_map]; exact hl)
  rw [sameF_self] at h
  exact h
end Go.Proofs.YtmnblljenobofaaGreatDoor
