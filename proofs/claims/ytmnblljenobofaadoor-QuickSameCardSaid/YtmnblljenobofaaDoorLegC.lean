/- The walks of package legal's bit, isOfNoVariable, with, firstWrong and left. -/
import Derived.Test.YtmnblljenobofaaDoorMg12
import Derived.Test.YtmnblljenobofaaDoorMg11
import Derived.Test.YtmnblljenobofaaDoorOrdE
import Derived.Test.YtmnblljenobofaaDoorTabF
import Derived.Test.YtmnblljenobofaaDoorMg5
import Derived.Deep.QuietTactic
import Derived.BigQuiet
namespace Go.Proofs.YtmnblljenobofaaDoor.WPlain
end Go.Proofs.YtmnblljenobofaaDoor.WPlain
namespace Go.Proofs.YtmnblljenobofaaDoor.QPlain
end Go.Proofs.YtmnblljenobofaaDoor.QPlain
namespace Go.Proofs.YtmnblljenobofaaDoor.RPlain
end Go.Proofs.YtmnblljenobofaaDoor.RPlain
namespace Go.Proofs.YtmnblljenobofaaDoor
open Go.RowKit WPlain QPlain RPlain

theorem bitL_any (k : Nat) (hk : k < 32) (w : World) : Calls Tryd.prog 42 #[.int .i64 (k : Int)] w fun e w' => e = .returned (.int .u32 ((2 ^ k : Nat) : Int)) ∧ w' = w := by
  go_enter Tryd.func42, Tryd.ntmps42
  go_wp2
  go_ret
  exact ⟨by rw [pow_u32 hk]; rfl, rfl⟩
set_option maxRecDepth 100000 in
theorem withV_any (M : Int → Int) (o : Rwo) (hv : 0 ≤ o.v ∧ o.v ≤ 7) (w : World) :
    Calls Tryd.prog 43 #[.agg (memC M), .agg #[.bool o.w, .int .i64 o.v, .int .i64 o.x]] w fun e w' => e = .returned (.agg (memC (stepO M o))) ∧ Below w.heap.size w w' := by
  obtain ⟨b, v, x⟩ := o
  obtain ⟨k, rfl⟩ : ∃ k : Nat, v = (k : Int) := ⟨v.toNat, by have := hv.1; dsimp only at this; omega⟩
  have hk : k = 0 ∨ k = 1 ∨ k = 2 ∨ k = 3 ∨ k = 4 ∨ k = 5 ∨ k = 6 ∨ k = 7 := by have := hv.2; dsimp only at this; omega
  clear hv
  unfold memC
  cases b with
  | true =>
    rcases hk with rfl | rfl | rfl | rfl | rfl | rfl | rfl | rfl
    all_goals
      go_enter Tryd.func43, Tryd.ntmps43
      go_wp2
      refine bodyPost_ret ?_ rfl ⟨rfl, ((Below.refl _ _).alloc (Nat.le_refl _) _).alloc (by simp) _ |>.alloc (by simp; omega) _⟩
      simp [results, Tryd.results43, go_sem, stepO, putM]
  | false =>
    go_enter Tryd.func43, Tryd.ntmps43
    go_wp2
    refine bodyPost_ret ?_ rfl ⟨rfl, ((Below.refl _ _).alloc (Nat.le_refl _) _).alloc (by simp) _ |>.alloc (by simp; omega) _⟩
    simp [results, Tryd.results43, go_sem, stepO]
theorem Opv.at {w : World} {a : Option Addr} {n c : Nat} {l : List Rwo} (h : Opv w (.slice a n c) l) (i : Nat) (hi : i < l.length) : ∃ b o, a = some ⟨b, o, none⟩ ∧ b < w.heap.size ∧
    w.cell? ⟨b, o + i * 3, none⟩ = some (.bool l[i].w) ∧ w.cell? ⟨b, o + i * 3 + 1, none⟩ = some (.int .i64 l[i].v) ∧ w.cell? ⟨b, o + i * 3 + 2, none⟩ = some (.int .i64 l[i].x) := by
  rcases h.1 with ⟨rfl, _⟩ | ⟨_, b, o, c', he, hbl, hc⟩
  · simp at hi
  · simp only [Value.slice.injEq] at he
    obtain ⟨rfl, _, _⟩ := he
    exact ⟨b, o, rfl, hbl, hc i hi 0 _ (by omega) rfl, hc i hi 1 _ (by omega) rfl, hc i hi 2 _ (by omega) rfl⟩
theorem memC_at (M : Int → Int) : ∀ v : Nat, v < 8 → (memC M)[v]? = some (.int .i64 (M (v : Int)))
  | 0, _ | 1, _ | 2, _ | 3, _ | 4, _ | 5, _ | 6, _ | 7, _ => by simp [memC]
  | n + 8, h => by omega
theorem memC_set (M M' : Int → Int) : ((((((((memC M).setIfInBounds 0 (.int .i64 (M' 0))).setIfInBounds 1 (.int .i64 (M' 1))).setIfInBounds 2 (.int .i64 (M' 2))).setIfInBounds 3 (.int .i64 (M' 3))).setIfInBounds 4 (.int .i64 (M' 4))).setIfInBounds 5 (.int .i64 (M' 5))).setIfInBounds 6 (.int .i64 (M' 6))).setIfInBounds 7 (.int .i64 (M' 7)) = memC M' := by simp [memC]
theorem read_iff {M : Int → Int} {ops : List Rwo} {k : Nat} (hk : k < ops.length) : readOk M ops k ↔ (ops[k].w = true ∨ withM M (ops.take k) ops[k].v = ops[k].x) := by
  unfold readOk
  rw [List.getElem?_eq_getElem hk]
set_option maxRecDepth 100000 in
set_option maxHeartbeats 1000000 in
theorem firstWrong_any (u : Value) (ops : List Rwo) (M : Int → Int) (w : World) (hv : Opv w u ops) (hok : okOps ops) (hl : ops.length ≤ 65536) :
    Calls Tryd.prog 25 #[u, .agg (memC M)] w fun e w' => e = .returned (.int .i64 ((ownS M ops : Nat) : Int)) ∧ Below w.heap.size w w' := by
  have HV := Lib.hid hv
  have HOK := Lib.hid hok
  have HA0 := Lib.hid (At.new w (memC M) 62)
  have HB0 := Lib.hid ((Below.refl w.heap.size w).alloc (Nat.le_refl _) (.cells (memC M) 62))
  have HIS := Lib.hid (fun (k : Nat) (hk : k ≤ ops.length) h1 h2 => own_is (M := M) (ops := ops) (k := k) hk h1 h2)
  have HRD := Lib.hid (fun (k : Nat) (hk : k < ops.length) => read_iff (M := M) hk)
  have HTK := Lib.hid (fun (k : Nat) (hk : k < ops.length) => with_take (M := M) hk)
  generalize ownS M ops = R at *
  obtain ⟨a, c, rfl, hnc⟩ := hv.len
  clear hv hok
  have hz : memC M = #[.int .i64 (M 0), .int .i64 (M 1), .int .i64 (M 2), .int .i64 (M 3), .int .i64 (M 4), .int .i64 (M 5), .int .i64 (M 6), .int .i64 (M 7)] := rfl
  rw [hz]
  rw [hz] at HA0 HB0
  clear hz
  go_enter Tryd.func25, Tryd.ntmps25
  go_wp2_with fail
  go_loopw [9] (fun x wr => ∃ k : Nat, k ≤ ops.length ∧ x = .int .i64 k ∧ Hid (∀ j, j < k → readOk M ops j) ∧ Hid (At wr w.heap.size (memC (withM M (ops.take k))) 62) ∧ Hid (Below w.heap.size w wr)) (fun x _ => ops.length - (intOf x).toNat)
  case atStart => exact ⟨0, by omega, rfl, fun j hj => absurd hj (Nat.not_lt_zero _), HA0, HB0⟩
  case round =>
    clear HA0 HB0
    obtain ⟨k, hk, rfl, HR, HA, HB⟩ := hrel
    by_cases hlt : k < ops.length
    · obtain ⟨b, o, rfl, hbl, c0, c1, c2⟩ := Opv.at (HV.out.below HB.out (Nat.le_refl _)) k hlt
      have HRK := HRD.out k hlt
      have HTE := Lib.hid (HTK.out k hlt)
      obtain ⟨hv0, hv7⟩ := HOK.out _ (List.getElem_mem hlt)
      generalize hO : ops[k] = O at *
      generalize withM M (ops.take k) = MM at *
      obtain ⟨ow, ov, ox⟩ := O
      dsimp only at *
      obtain ⟨v, rfl⟩ : ∃ v : Nat, ov = (v : Int) := ⟨ov.toNat, by omega⟩
      have hv8 : v < 8 := by omega
      have HB2 := Lib.hid (HB.out.alloc HB.out.size (.cells #[.bool ow, .int .i64 v, .int .i64 ox] 89))
      have HA2 := Lib.hid (HA.out.alloc (.cells #[.bool ow, .int .i64 v, .int .i64 ox] 89))
      have HO2 := Lib.hid (At.new wr #[.bool ow, .int .i64 v, .int .i64 ox] 89)
      have HWV := Lib.hid (fun (W : World) => withV_any MM ⟨ow, v, ox⟩ ⟨hv0, hv7⟩ W)
      have hmv := (HA2.out.cell (memC_at MM v hv8))
      clear hO hv0 hv7 HA HB
      obtain ⟨M3, hM3⟩ : ∃ M3, stepO MM ⟨ow, v, ox⟩ = M3 := ⟨_, rfl⟩
      rw [hM3] at HTE HWV
      clear hM3
      unfold memC at HWV
      dsimp only at HWV
      cases ow with
      | true =>
        have hrk := HRK.2 (.inl rfl)
        have HR2 : Hid (∀ j, j < k + 1 → readOk M ops j) := fun j hj => if h : j < k then HR.out j h else by rw [show j = k from by omega]; exact hrk
        clear hrk HRK HR
        go_upto_region 4 with fail
        generalize wr.alloc (.cells #[.bool true, .int .i64 v, .int .i64 ox] 89) = w2 at *
        generalize wr.heap.size = N2 at *
        have e0 := HO2.out.cell (i := 0) (v := .bool true) rfl
        go_quiet (fail)
        have HA3 : Hid (At (w2.drewN nq) w.heap.size (memC MM) 62) := HA2.out
        have HO3 : Hid (At (w2.drewN nq) N2 #[.bool true, .int .i64 v, .int .i64 ox] 89) := HO2.out
        have HB3 : Hid (Below w.heap.size w (w2.drewN nq)) := below_drN HB2.out nq
        clear HA2 HO2 HB2 e0 hmv
        generalize w2.drewN nq = w3 at *
        have e0 := HO3.out.cell (i := 0) (v := .bool true) rfl
        have e1 := HO3.out.cell (i := 1) (v := .int .i64 v) rfl
        have e2 := HO3.out.cell (i := 2) (v := .int .i64 ox) rfl
        have m0 := HA3.out.cell (i := 0) (v := .int .i64 (MM 0)) rfl
        have m1 := HA3.out.cell (i := 1) (v := .int .i64 (MM 1)) rfl
        have m2 := HA3.out.cell (i := 2) (v := .int .i64 (MM 2)) rfl
        have m3 := HA3.out.cell (i := 3) (v := .int .i64 (MM 3)) rfl
        have m4 := HA3.out.cell (i := 4) (v := .int .i64 (MM 4)) rfl
        have m5 := HA3.out.cell (i := 5) (v := .int .i64 (MM 5)) rfl
        have m6 := HA3.out.cell (i := 6) (v := .int .i64 (MM 6)) rfl
        have m7 := HA3.out.cell (i := 7) (v := .int .i64 (MM 7)) rfl
        go_wp2_with (go_at_call 43; refine (HWV.out _).mono ?_; rintro e w4 ⟨rfl, hb4⟩; have HA4 := Lib.hid (HA3.out.below hb4 HA3.out.lt); have HB4 := Lib.hid (HB3.out.trans (hb4.mono HB3.out.size)); have k0 := HA4.out.cell (i := 0) (v := .int .i64 (MM 0)) rfl; have f0 := HA4.out.free 0; have k1 := HA4.out.cell (i := 1) (v := .int .i64 (MM 1)) rfl; have f1 := HA4.out.free 1; have k2 := HA4.out.cell (i := 2) (v := .int .i64 (MM 2)) rfl; have f2 := HA4.out.free 2; have k3 := HA4.out.cell (i := 3) (v := .int .i64 (MM 3)) rfl; have f3 := HA4.out.free 3; have k4 := HA4.out.cell (i := 4) (v := .int .i64 (MM 4)) rfl; have f4 := HA4.out.free 4; have k5 := HA4.out.cell (i := 5) (v := .int .i64 (MM 5)) rfl; have f5 := HA4.out.free 5; have k6 := HA4.out.cell (i := 6) (v := .int .i64 (MM 6)) rfl; have f6 := HA4.out.free 6; have k7 := HA4.out.cell (i := 7) (v := .int .i64 (MM 7)) rfl; have f7 := HA4.out.free 7; clear hb4)
        have HA5 : Hid (At ((((((((w4.setCell ⟨w.heap.size, 0, none⟩ (.int .i64 (M3 0))).setCell ⟨w.heap.size, 1, none⟩ (.int .i64 (M3 1))).setCell ⟨w.heap.size, 2, none⟩ (.int .i64 (M3 2))).setCell ⟨w.heap.size, 3, none⟩ (.int .i64 (M3 3))).setCell ⟨w.heap.size, 4, none⟩ (.int .i64 (M3 4))).setCell ⟨w.heap.size, 5, none⟩ (.int .i64 (M3 5))).setCell ⟨w.heap.size, 6, none⟩ (.int .i64 (M3 6))).setCell ⟨w.heap.size, 7, none⟩ (.int .i64 (M3 7))) w.heap.size (memC (withM M (ops.take (k + 1)))) 62) := by rw [HTE.out, ← memC_set MM M3]; exact ((((((((HA4.out.set 0 (.int .i64 (M3 0))).set 1 (.int .i64 (M3 1))).set 2 (.int .i64 (M3 2))).set 3 (.int .i64 (M3 3))).set 4 (.int .i64 (M3 4))).set 5 (.int .i64 (M3 5))).set 6 (.int .i64 (M3 6))).set 7 (.int .i64 (M3 7)))
        have HB5 : Hid (Below w.heap.size w ((((((((w4.setCell ⟨w.heap.size, 0, none⟩ (.int .i64 (M3 0))).setCell ⟨w.heap.size, 1, none⟩ (.int .i64 (M3 1))).setCell ⟨w.heap.size, 2, none⟩ (.int .i64 (M3 2))).setCell ⟨w.heap.size, 3, none⟩ (.int .i64 (M3 3))).setCell ⟨w.heap.size, 4, none⟩ (.int .i64 (M3 4))).setCell ⟨w.heap.size, 5, none⟩ (.int .i64 (M3 5))).setCell ⟨w.heap.size, 6, none⟩ (.int .i64 (M3 6))).setCell ⟨w.heap.size, 7, none⟩ (.int .i64 (M3 7)))) := ((((((((HB4.out.setCell (p := ⟨w.heap.size, 0, none⟩) (Nat.le_refl _) (.int .i64 (M3 0))).setCell (p := ⟨w.heap.size, 1, none⟩) (Nat.le_refl _) (.int .i64 (M3 1))).setCell (p := ⟨w.heap.size, 2, none⟩) (Nat.le_refl _) (.int .i64 (M3 2))).setCell (p := ⟨w.heap.size, 3, none⟩) (Nat.le_refl _) (.int .i64 (M3 3))).setCell (p := ⟨w.heap.size, 4, none⟩) (Nat.le_refl _) (.int .i64 (M3 4))).setCell (p := ⟨w.heap.size, 5, none⟩) (Nat.le_refl _) (.int .i64 (M3 5))).setCell (p := ⟨w.heap.size, 6, none⟩) (Nat.le_refl _) (.int .i64 (M3 6))).setCell (p := ⟨w.heap.size, 7, none⟩) (Nat.le_refl _) (.int .i64 (M3 7)))
        go_roundw
        case rel => exact ⟨k + 1, by omega, by go_num, HR2.out, HA5.out, HB5.out⟩
        case measure => simp [intOf]; omega
      | false =>
        by_cases hox : MM v = ox
        · have hrk := HRK.2 (.inr hox)
          have HR2 : Hid (∀ j, j < k + 1 → readOk M ops j) := fun j hj => if h : j < k then HR.out j h else by rw [show j = k from by omega]; exact hrk
          have hne : ((ox : Int) != MM v) = false := by simp [hox]
          clear hrk HRK HR
          go_upto_region 4 with fail
          generalize wr.alloc (.cells #[.bool false, .int .i64 v, .int .i64 ox] 89) = w2 at *
          generalize wr.heap.size = N2 at *
          have e0 := HO2.out.cell (i := 0) (v := .bool false) rfl
          have e1 := HO2.out.cell (i := 1) (v := .int .i64 v) rfl
          have e2 := HO2.out.cell (i := 2) (v := .int .i64 ox) rfl
          go_quiet (fail)
          have HA3 : Hid (At (w2.drewN nq) w.heap.size (memC MM) 62) := HA2.out
          have HO3 : Hid (At (w2.drewN nq) N2 #[.bool false, .int .i64 v, .int .i64 ox] 89) := HO2.out
          have HB3 : Hid (Below w.heap.size w (w2.drewN nq)) := below_drN HB2.out nq
          clear HA2 HO2 HB2 e0 e1 e2 hmv
          generalize w2.drewN nq = w3 at *
          have e0 := HO3.out.cell (i := 0) (v := .bool false) rfl
          have e1 := HO3.out.cell (i := 1) (v := .int .i64 v) rfl
          have e2 := HO3.out.cell (i := 2) (v := .int .i64 ox) rfl
          have m0 := HA3.out.cell (i := 0) (v := .int .i64 (MM 0)) rfl
          have m1 := HA3.out.cell (i := 1) (v := .int .i64 (MM 1)) rfl
          have m2 := HA3.out.cell (i := 2) (v := .int .i64 (MM 2)) rfl
          have m3 := HA3.out.cell (i := 3) (v := .int .i64 (MM 3)) rfl
          have m4 := HA3.out.cell (i := 4) (v := .int .i64 (MM 4)) rfl
          have m5 := HA3.out.cell (i := 5) (v := .int .i64 (MM 5)) rfl
          have m6 := HA3.out.cell (i := 6) (v := .int .i64 (MM 6)) rfl
          have m7 := HA3.out.cell (i := 7) (v := .int .i64 (MM 7)) rfl
          go_wp2_with (go_at_call 43; refine (HWV.out _).mono ?_; rintro e w4 ⟨rfl, hb4⟩; have HA4 := Lib.hid (HA3.out.below hb4 HA3.out.lt); have HB4 := Lib.hid (HB3.out.trans (hb4.mono HB3.out.size)); have k0 := HA4.out.cell (i := 0) (v := .int .i64 (MM 0)) rfl; have f0 := HA4.out.free 0; have k1 := HA4.out.cell (i := 1) (v := .int .i64 (MM 1)) rfl; have f1 := HA4.out.free 1; have k2 := HA4.out.cell (i := 2) (v := .int .i64 (MM 2)) rfl; have f2 := HA4.out.free 2; have k3 := HA4.out.cell (i := 3) (v := .int .i64 (MM 3)) rfl; have f3 := HA4.out.free 3; have k4 := HA4.out.cell (i := 4) (v := .int .i64 (MM 4)) rfl; have f4 := HA4.out.free 4; have k5 := HA4.out.cell (i := 5) (v := .int .i64 (MM 5)) rfl; have f5 := HA4.out.free 5; have k6 := HA4.out.cell (i := 6) (v := .int .i64 (MM 6)) rfl; have f6 := HA4.out.free 6; have k7 := HA4.out.cell (i := 7) (v := .int .i64 (MM 7)) rfl; have f7 := HA4.out.free 7; clear hb4)
          have HA5 : Hid (At ((((((((w4.setCell ⟨w.heap.size, 0, none⟩ (.int .i64 (M3 0))).setCell ⟨w.heap.size, 1, none⟩ (.int .i64 (M3 1))).setCell ⟨w.heap.size, 2, none⟩ (.int .i64 (M3 2))).setCell ⟨w.heap.size, 3, none⟩ (.int .i64 (M3 3))).setCell ⟨w.heap.size, 4, none⟩ (.int .i64 (M3 4))).setCell ⟨w.heap.size, 5, none⟩ (.int .i64 (M3 5))).setCell ⟨w.heap.size, 6, none⟩ (.int .i64 (M3 6))).setCell ⟨w.heap.size, 7, none⟩ (.int .i64 (M3 7))) w.heap.size (memC (withM M (ops.take (k + 1)))) 62) := by rw [HTE.out, ← memC_set MM M3]; exact ((((((((HA4.out.set 0 (.int .i64 (M3 0))).set 1 (.int .i64 (M3 1))).set 2 (.int .i64 (M3 2))).set 3 (.int .i64 (M3 3))).set 4 (.int .i64 (M3 4))).set 5 (.int .i64 (M3 5))).set 6 (.int .i64 (M3 6))).set 7 (.int .i64 (M3 7)))
          have HB5 : Hid (Below w.heap.size w ((((((((w4.setCell ⟨w.heap.size, 0, none⟩ (.int .i64 (M3 0))).setCell ⟨w.heap.size, 1, none⟩ (.int .i64 (M3 1))).setCell ⟨w.heap.size, 2, none⟩ (.int .i64 (M3 2))).setCell ⟨w.heap.size, 3, none⟩ (.int .i64 (M3 3))).setCell ⟨w.heap.size, 4, none⟩ (.int .i64 (M3 4))).setCell ⟨w.heap.size, 5, none⟩ (.int .i64 (M3 5))).setCell ⟨w.heap.size, 6, none⟩ (.int .i64 (M3 6))).setCell ⟨w.heap.size, 7, none⟩ (.int .i64 (M3 7)))) := ((((((((HB4.out.setCell (p := ⟨w.heap.size, 0, none⟩) (Nat.le_refl _) (.int .i64 (M3 0))).setCell (p := ⟨w.heap.size, 1, none⟩) (Nat.le_refl _) (.int .i64 (M3 1))).setCell (p := ⟨w.heap.size, 2, none⟩) (Nat.le_refl _) (.int .i64 (M3 2))).setCell (p := ⟨w.heap.size, 3, none⟩) (Nat.le_refl _) (.int .i64 (M3 3))).setCell (p := ⟨w.heap.size, 4, none⟩) (Nat.le_refl _) (.int .i64 (M3 4))).setCell (p := ⟨w.heap.size, 5, none⟩) (Nat.le_refl _) (.int .i64 (M3 5))).setCell (p := ⟨w.heap.size, 6, none⟩) (Nat.le_refl _) (.int .i64 (M3 6))).setCell (p := ⟨w.heap.size, 7, none⟩) (Nat.le_refl _) (.int .i64 (M3 7)))
          go_roundw
          case rel => exact ⟨k + 1, by omega, by go_num, HR2.out, HA5.out, HB5.out⟩
          case measure => simp [intOf]; omega
        · have hres := HIS.out k hk HR.out (fun _ hc => by
            rcases HRK.1 hc with h | h
            · cases h
            · exact hox h)
          have hne : ((ox : Int) != MM v) = true := by simp; exact fun hc => hox hc.symm
          subst hres
          clear HRK HR hox
          go_upto_region 4 with fail
          generalize wr.alloc (.cells #[.bool false, .int .i64 v, .int .i64 ox] 89) = w2 at *
          generalize wr.heap.size = N2 at *
          have e0 := HO2.out.cell (i := 0) (v := .bool false) rfl
          have e1 := HO2.out.cell (i := 1) (v := .int .i64 v) rfl
          have e2 := HO2.out.cell (i := 2) (v := .int .i64 ox) rfl
          go_quiet (fail)
          have HB3 : Hid (Below w.heap.size w (w2.drewN nq)) := below_drN HB2.out nq
          go_wp2
          go_ret
          exact ⟨rfl, HB3.out⟩
    · obtain rfl : k = ops.length := by omega
      have hres := HIS.out ops.length (Nat.le_refl _) HR.out (fun h => absurd h (Nat.lt_irrefl _))
      subst hres
      go_wp2
      go_ret
      exact ⟨rfl, HB.out⟩
/-- two memories, of the call's own, laid one behind the other -/
theorem mem_two (w : World) (M : Int → Int) : At ((w.alloc (.cells (memC M) 62)).alloc (.cells (memC zeroM) 62)) w.heap.size (memC M) 62 ∧
    At ((w.alloc (.cells (memC M) 62)).alloc (.cells (memC zeroM) 62)) (w.heap.size + 1) (memC zeroM) 62 ∧
    Below w.heap.size w ((w.alloc (.cells (memC M) 62)).alloc (.cells (memC zeroM) 62)) := by
  refine ⟨(At.new w (memC M) _).alloc _, ?_, ((Below.refl _ _).alloc (Nat.le_refl _) _).alloc (by simp) _⟩
  have h := At.new (w.alloc (.cells (memC M) 62)) (memC zeroM) 62
  rwa [show (w.alloc (.cells (memC M) 62)).heap.size = w.heap.size + 1 from by simp] at h
set_option maxRecDepth 100000 in
set_option maxHeartbeats 1000000 in
theorem left_any (u : Value) (l : List Tx) (M : Int → Int) (i n : Nat) (w : World) (hv : Txs w u l) (hi : i < l.length) (h6 : l.length ≤ 6) (hn : n < 4294967296) (hok : okOps l[i].o) (hol : l[i].o.length ≤ 65536) :
    Calls Tryd.prog 26 #[.agg (memC M), u, .int .i64 (i : Int), .int .u32 (n : Int)] w fun e w' => e = .returned (.agg (memC (stepM l n M i))) ∧ Below w.heap.size w w' := by
  have HV := Lib.hid hv
  have HOK := Lib.hid hok
  obtain ⟨ha0, hr0, hb0⟩ := mem_two w M
  have HA0 := Lib.hid ha0
  have HR0 := Lib.hid hr0
  have HB0 := Lib.hid hb0
  have HTK := Lib.hid (fun (k : Nat) (hk : k < l[i].o.length) => with_take (M := M) hk)
  have hkb := bitL_any i (by omega)
  have hlt3 : 2 ^ i < 4294967296 := Nat.pow_lt_pow_right (a := 2) (m := i) (n := 32) (by decide) (by omega)
  have hand := u32_and_nat n (2 ^ i) hn hlt3
  have hap := and_powL n i
  have hst : stepM l n M i = if n.testBit i = true then withM M (l[i].o.take l[i].o.length) else M := by unfold stepM; rw [opsAtL_get hi, List.take_length]
  rw [hst]
  clear hst hlt3
  obtain ⟨pw, hpw⟩ : ∃ pw, 2 ^ i = pw := ⟨_, rfl⟩
  rw [hpw] at hkb hand hap
  clear hpw
  obtain ⟨za, hza⟩ : ∃ za : Nat, n &&& pw = za := ⟨_, rfl⟩
  rw [hza] at hand hap
  clear hza
  obtain ⟨a, c, rfl⟩ := hv.len
  have hz : memC M = #[.int .i64 (M 0), .int .i64 (M 1), .int .i64 (M 2), .int .i64 (M 3), .int .i64 (M 4), .int .i64 (M 5), .int .i64 (M 6), .int .i64 (M 7)] := rfl
  have hz0 : memC zeroM = #[.int .i64 0, .int .i64 0, .int .i64 0, .int .i64 0, .int .i64 0, .int .i64 0, .int .i64 0, .int .i64 0] := rfl
  rw [hz]
  rw [hz, hz0] at HA0 HR0 HB0
  clear hz hz0 hv hok ha0 hr0 hb0
  cases hb : n.testBit i with
  | false =>
    have tq : ((za : Int) == 0) = true := by rw [hb] at hap; simp [hap.2 rfl]
    rw [if_neg (by decide)]
    clear hap hb HTK
    unfold memC
    go_enter Tryd.func26, Tryd.ntmps26
    go_wp2_with (go_at_call 42; refine (hkb _).mono ?_; rintro e w2 ⟨rfl, rfl⟩)
    refine bodyPost_ret ?_ rfl ⟨rfl, ((Below.refl _ _).alloc (Nat.le_refl _) _).alloc (by simp) _⟩
    simp [results, Tryd.results26, go_sem]
  | true =>
    have tq : ((za : Int) == 0) = false := by rw [hb] at hap; simp; intro hc; exact absurd (hap.1 hc) (by decide)
    rw [if_pos rfl]
    clear hap hb
    obtain ⟨b, o, c', he⟩ := HV.out.opened (by omega)
    simp only [Value.slice.injEq] at he
    obtain ⟨rfl, -, rfl⟩ := he
    obtain ⟨ov, x0, x1, x2, x3, x4, q⟩ := HV.out.get i hi
    obtain ⟨ua, uc, rfl, -⟩ := q.len
    have HQ := Lib.hid q
    have HBL : Hid (b < w.heap.size) := cell_lt x4
    have hx4 := (HB0.out.cell (p := ⟨b, o + i * 5 + 4, none⟩) HBL.out).trans x4
    clear x0 x1 x2 x3 q HV
    generalize l[i].o = ops at *
    obtain ⟨MF, hMF⟩ : ∃ MF, withM M (ops.take ops.length) = MF := ⟨_, rfl⟩
    rw [hMF]
    have HMF := Lib.hid hMF
    clear hMF
    go_enter Tryd.func26, Tryd.ntmps26
    go_wp2_with (go_at_call 42; refine (hkb _).mono ?_; rintro e w2 ⟨rfl, rfl⟩)
    go_loopw [23] (fun x wr => ∃ k : Nat, k ≤ ops.length ∧ x = .int .i64 k ∧ Hid (At wr w.heap.size (memC (withM M (ops.take k))) 62) ∧ Hid (At wr (w.heap.size + 1) (memC zeroM) 62) ∧ Hid (Below w.heap.size w wr)) (fun x _ => ops.length - (intOf x).toNat)
    case atStart => exact ⟨0, by omega, rfl, HA0, HR0, HB0⟩
    case round =>
      clear HA0 HR0 HB0 hx4
      obtain ⟨k, hk, rfl, HA, HR, HB⟩ := hrel
      by_cases hlt : k < ops.length
      · obtain ⟨b2, o2, rfl, hbl, c0, c1, c2⟩ := Opv.at (HQ.out.below HB.out (Nat.le_refl _)) k hlt
        have HTE := Lib.hid (HTK.out k hlt)
        obtain ⟨hv0, hv7⟩ := HOK.out _ (List.getElem_mem hlt)
        generalize hO : ops[k] = O at *
        generalize withM M (ops.take k) = MM at *
        obtain ⟨ow, ov, ox⟩ := O
        dsimp only at *
        have HB3 := Lib.hid (HB.out.alloc HB.out.size (.cells #[.bool ow, .int .i64 ov, .int .i64 ox] 89))
        have HA3 := Lib.hid (HA.out.alloc (.cells #[.bool ow, .int .i64 ov, .int .i64 ox] 89))
        have HR3 := Lib.hid (HR.out.alloc (.cells #[.bool ow, .int .i64 ov, .int .i64 ox] 89))
        have HO3 := Lib.hid (At.new wr #[.bool ow, .int .i64 ov, .int .i64 ox] 89)
        have HWV := Lib.hid (fun (W : World) => withV_any MM ⟨ow, ov, ox⟩ ⟨hv0, hv7⟩ W)
        clear hO hv0 hv7 HA HR HB
        obtain ⟨M3, hM3⟩ : ∃ M3, stepO MM ⟨ow, ov, ox⟩ = M3 := ⟨_, rfl⟩
        rw [hM3] at HTE HWV
        clear hM3
        unfold memC at HWV
        dsimp only at HWV
        go_upto_region 6 with fail
        generalize wr.alloc (.cells #[.bool ow, .int .i64 ov, .int .i64 ox] 89) = w3 at *
        generalize wr.heap.size = N2 at *
        have e0 := HO3.out.cell (i := 0) (v := .bool ow) rfl
        have e1 := HO3.out.cell (i := 1) (v := .int .i64 ov) rfl
        have e2 := HO3.out.cell (i := 2) (v := .int .i64 ox) rfl
        have m0 := HA3.out.cell (i := 0) (v := .int .i64 (MM 0)) rfl
        have m1 := HA3.out.cell (i := 1) (v := .int .i64 (MM 1)) rfl
        have m2 := HA3.out.cell (i := 2) (v := .int .i64 (MM 2)) rfl
        have m3 := HA3.out.cell (i := 3) (v := .int .i64 (MM 3)) rfl
        have m4 := HA3.out.cell (i := 4) (v := .int .i64 (MM 4)) rfl
        have m5 := HA3.out.cell (i := 5) (v := .int .i64 (MM 5)) rfl
        have m6 := HA3.out.cell (i := 6) (v := .int .i64 (MM 6)) rfl
        have m7 := HA3.out.cell (i := 7) (v := .int .i64 (MM 7)) rfl
        go_wp2_with (go_at_call 43; refine (HWV.out _).mono ?_; rintro e w4 ⟨rfl, hb4⟩; have HA4 := Lib.hid (HA3.out.below hb4 HA3.out.lt); have HR4 := Lib.hid (HR3.out.below hb4 HR3.out.lt); have HB4 := Lib.hid (HB3.out.trans (hb4.mono HB3.out.size)); have k0 := HA4.out.cell (i := 0) (v := .int .i64 (MM 0)) rfl; have k1 := HA4.out.cell (i := 1) (v := .int .i64 (MM 1)) rfl; have k2 := HA4.out.cell (i := 2) (v := .int .i64 (MM 2)) rfl; have k3 := HA4.out.cell (i := 3) (v := .int .i64 (MM 3)) rfl; have k4 := HA4.out.cell (i := 4) (v := .int .i64 (MM 4)) rfl; have k5 := HA4.out.cell (i := 5) (v := .int .i64 (MM 5)) rfl; have k6 := HA4.out.cell (i := 6) (v := .int .i64 (MM 6)) rfl; have k7 := HA4.out.cell (i := 7) (v := .int .i64 (MM 7)) rfl; have f0 := HA4.out.free 0; have f1 := HA4.out.free 1; have f2 := HA4.out.free 2; have f3 := HA4.out.free 3; have f4 := HA4.out.free 4; have f5 := HA4.out.free 5; have f6 := HA4.out.free 6; have f7 := HA4.out.free 7; clear hb4)
        have HA5 : Hid (At ((((((((w4.setCell ⟨w.heap.size, 0, none⟩ (.int .i64 (M3 0))).setCell ⟨w.heap.size, 1, none⟩ (.int .i64 (M3 1))).setCell ⟨w.heap.size, 2, none⟩ (.int .i64 (M3 2))).setCell ⟨w.heap.size, 3, none⟩ (.int .i64 (M3 3))).setCell ⟨w.heap.size, 4, none⟩ (.int .i64 (M3 4))).setCell ⟨w.heap.size, 5, none⟩ (.int .i64 (M3 5))).setCell ⟨w.heap.size, 6, none⟩ (.int .i64 (M3 6))).setCell ⟨w.heap.size, 7, none⟩ (.int .i64 (M3 7))) w.heap.size (memC (withM M (ops.take (k + 1)))) 62) := by rw [HTE.out, ← memC_set MM M3]; exact ((((((((HA4.out.set 0 (.int .i64 (M3 0))).set 1 (.int .i64 (M3 1))).set 2 (.int .i64 (M3 2))).set 3 (.int .i64 (M3 3))).set 4 (.int .i64 (M3 4))).set 5 (.int .i64 (M3 5))).set 6 (.int .i64 (M3 6))).set 7 (.int .i64 (M3 7)))
        have HR5 : Hid (At ((((((((w4.setCell ⟨w.heap.size, 0, none⟩ (.int .i64 (M3 0))).setCell ⟨w.heap.size, 1, none⟩ (.int .i64 (M3 1))).setCell ⟨w.heap.size, 2, none⟩ (.int .i64 (M3 2))).setCell ⟨w.heap.size, 3, none⟩ (.int .i64 (M3 3))).setCell ⟨w.heap.size, 4, none⟩ (.int .i64 (M3 4))).setCell ⟨w.heap.size, 5, none⟩ (.int .i64 (M3 5))).setCell ⟨w.heap.size, 6, none⟩ (.int .i64 (M3 6))).setCell ⟨w.heap.size, 7, none⟩ (.int .i64 (M3 7))) (w.heap.size + 1) (memC zeroM) 62) := ((((((((HR4.out.other (a := ⟨w.heap.size, 0, none⟩) (by simp) (.int .i64 (M3 0))).other (a := ⟨w.heap.size, 1, none⟩) (by simp) (.int .i64 (M3 1))).other (a := ⟨w.heap.size, 2, none⟩) (by simp) (.int .i64 (M3 2))).other (a := ⟨w.heap.size, 3, none⟩) (by simp) (.int .i64 (M3 3))).other (a := ⟨w.heap.size, 4, none⟩) (by simp) (.int .i64 (M3 4))).other (a := ⟨w.heap.size, 5, none⟩) (by simp) (.int .i64 (M3 5))).other (a := ⟨w.heap.size, 6, none⟩) (by simp) (.int .i64 (M3 6))).other (a := ⟨w.heap.size, 7, none⟩) (by simp) (.int .i64 (M3 7)))
        have HB5 : Hid (Below w.heap.size w ((((((((w4.setCell ⟨w.heap.size, 0, none⟩ (.int .i64 (M3 0))).setCell ⟨w.heap.size, 1, none⟩ (.int .i64 (M3 1))).setCell ⟨w.heap.size, 2, none⟩ (.int .i64 (M3 2))).setCell ⟨w.heap.size, 3, none⟩ (.int .i64 (M3 3))).setCell ⟨w.heap.size, 4, none⟩ (.int .i64 (M3 4))).setCell ⟨w.heap.size, 5, none⟩ (.int .i64 (M3 5))).setCell ⟨w.heap.size, 6, none⟩ (.int .i64 (M3 6))).setCell ⟨w.heap.size, 7, none⟩ (.int .i64 (M3 7)))) := ((((((((HB4.out.setCell (p := ⟨w.heap.size, 0, none⟩) (Nat.le_refl _) (.int .i64 (M3 0))).setCell (p := ⟨w.heap.size, 1, none⟩) (Nat.le_refl _) (.int .i64 (M3 1))).setCell (p := ⟨w.heap.size, 2, none⟩) (Nat.le_refl _) (.int .i64 (M3 2))).setCell (p := ⟨w.heap.size, 3, none⟩) (Nat.le_refl _) (.int .i64 (M3 3))).setCell (p := ⟨w.heap.size, 4, none⟩) (Nat.le_refl _) (.int .i64 (M3 4))).setCell (p := ⟨w.heap.size, 5, none⟩) (Nat.le_refl _) (.int .i64 (M3 5))).setCell (p := ⟨w.heap.size, 6, none⟩) (Nat.le_refl _) (.int .i64 (M3 6))).setCell (p := ⟨w.heap.size, 7, none⟩) (Nat.le_refl _) (.int .i64 (M3 7)))
        go_roundw
        case rel => exact ⟨k + 1, by omega, by go_num, HA5.out, HR5.out, HB5.out⟩
        case measure => simp [intOf]; omega
      · obtain rfl : k = ops.length := by omega
        rw [HMF.out] at HA
        clear HTK HMF
        obtain ⟨w5, hw5⟩ : ∃ w5 : World, w5 = wr := ⟨wr, rfl⟩
        subst hw5
        have HF : Hid (At ((((((((w5.setCell ⟨(w.heap.size + 1), 0, none⟩ (.int .i64 (MF 0))).setCell ⟨(w.heap.size + 1), 1, none⟩ (.int .i64 (MF 1))).setCell ⟨(w.heap.size + 1), 2, none⟩ (.int .i64 (MF 2))).setCell ⟨(w.heap.size + 1), 3, none⟩ (.int .i64 (MF 3))).setCell ⟨(w.heap.size + 1), 4, none⟩ (.int .i64 (MF 4))).setCell ⟨(w.heap.size + 1), 5, none⟩ (.int .i64 (MF 5))).setCell ⟨(w.heap.size + 1), 6, none⟩ (.int .i64 (MF 6))).setCell ⟨(w.heap.size + 1), 7, none⟩ (.int .i64 (MF 7))) (w.heap.size + 1) (memC MF) 62) := by rw [← memC_set zeroM MF]; exact ((((((((HR.out.set 0 (.int .i64 (MF 0))).set 1 (.int .i64 (MF 1))).set 2 (.int .i64 (MF 2))).set 3 (.int .i64 (MF 3))).set 4 (.int .i64 (MF 4))).set 5 (.int .i64 (MF 5))).set 6 (.int .i64 (MF 6))).set 7 (.int .i64 (MF 7)))
        have HBF : Hid (Below w.heap.size w ((((((((w5.setCell ⟨(w.heap.size + 1), 0, none⟩ (.int .i64 (MF 0))).setCell ⟨(w.heap.size + 1), 1, none⟩ (.int .i64 (MF 1))).setCell ⟨(w.heap.size + 1), 2, none⟩ (.int .i64 (MF 2))).setCell ⟨(w.heap.size + 1), 3, none⟩ (.int .i64 (MF 3))).setCell ⟨(w.heap.size + 1), 4, none⟩ (.int .i64 (MF 4))).setCell ⟨(w.heap.size + 1), 5, none⟩ (.int .i64 (MF 5))).setCell ⟨(w.heap.size + 1), 6, none⟩ (.int .i64 (MF 6))).setCell ⟨(w.heap.size + 1), 7, none⟩ (.int .i64 (MF 7)))) := ((((((((HB.out.setCell (p := ⟨(w.heap.size + 1), 0, none⟩) (by simp) (.int .i64 (MF 0))).setCell (p := ⟨(w.heap.size + 1), 1, none⟩) (by simp) (.int .i64 (MF 1))).setCell (p := ⟨(w.heap.size + 1), 2, none⟩) (by simp) (.int .i64 (MF 2))).setCell (p := ⟨(w.heap.size + 1), 3, none⟩) (by simp) (.int .i64 (MF 3))).setCell (p := ⟨(w.heap.size + 1), 4, none⟩) (by simp) (.int .i64 (MF 4))).setCell (p := ⟨(w.heap.size + 1), 5, none⟩) (by simp) (.int .i64 (MF 5))).setCell (p := ⟨(w.heap.size + 1), 6, none⟩) (by simp) (.int .i64 (MF 6))).setCell (p := ⟨(w.heap.size + 1), 7, none⟩) (by simp) (.int .i64 (MF 7)))
        have m0 := HA.out.cell (i := 0) (v := .int .i64 (MF 0)) rfl
        have m1 := HA.out.cell (i := 1) (v := .int .i64 (MF 1)) rfl
        have m2 := HA.out.cell (i := 2) (v := .int .i64 (MF 2)) rfl
        have m3 := HA.out.cell (i := 3) (v := .int .i64 (MF 3)) rfl
        have m4 := HA.out.cell (i := 4) (v := .int .i64 (MF 4)) rfl
        have m5 := HA.out.cell (i := 5) (v := .int .i64 (MF 5)) rfl
        have m6 := HA.out.cell (i := 6) (v := .int .i64 (MF 6)) rfl
        have m7 := HA.out.cell (i := 7) (v := .int .i64 (MF 7)) rfl
        have z0 := HR.out.cell (i := 0) (v := .int .i64 0) rfl
        have z1 := HR.out.cell (i := 1) (v := .int .i64 0) rfl
        have z2 := HR.out.cell (i := 2) (v := .int .i64 0) rfl
        have z3 := HR.out.cell (i := 3) (v := .int .i64 0) rfl
        have z4 := HR.out.cell (i := 4) (v := .int .i64 0) rfl
        have z5 := HR.out.cell (i := 5) (v := .int .i64 0) rfl
        have z6 := HR.out.cell (i := 6) (v := .int .i64 0) rfl
        have z7 := HR.out.cell (i := 7) (v := .int .i64 0) rfl
        have f0 := HR.out.free 0
        have f1 := HR.out.free 1
        have f2 := HR.out.free 2
        have f3 := HR.out.free 3
        have f4 := HR.out.free 4
        have f5 := HR.out.free 5
        have f6 := HR.out.free 6
        have f7 := HR.out.free 7
        go_wp2
        generalize ((((((((w5.setCell ⟨(w.heap.size + 1), 0, none⟩ (.int .i64 (MF 0))).setCell ⟨(w.heap.size + 1), 1, none⟩ (.int .i64 (MF 1))).setCell ⟨(w.heap.size + 1), 2, none⟩ (.int .i64 (MF 2))).setCell ⟨(w.heap.size + 1), 3, none⟩ (.int .i64 (MF 3))).setCell ⟨(w.heap.size + 1), 4, none⟩ (.int .i64 (MF 4))).setCell ⟨(w.heap.size + 1), 5, none⟩ (.int .i64 (MF 5))).setCell ⟨(w.heap.size + 1), 6, none⟩ (.int .i64 (MF 6))).setCell ⟨(w.heap.size + 1), 7, none⟩ (.int .i64 (MF 7))) = w6 at *
        have e0 := HF.out.cell (i := 0) (v := .int .i64 (MF 0)) rfl
        have e1 := HF.out.cell (i := 1) (v := .int .i64 (MF 1)) rfl
        have e2 := HF.out.cell (i := 2) (v := .int .i64 (MF 2)) rfl
        have e3 := HF.out.cell (i := 3) (v := .int .i64 (MF 3)) rfl
        have e4 := HF.out.cell (i := 4) (v := .int .i64 (MF 4)) rfl
        have e5 := HF.out.cell (i := 5) (v := .int .i64 (MF 5)) rfl
        have e6 := HF.out.cell (i := 6) (v := .int .i64 (MF 6)) rfl
        have e7 := HF.out.cell (i := 7) (v := .int .i64 (MF 7)) rfl
        refine bodyPost_ret (v := .agg (memC MF)) ?_ rfl ⟨rfl, HBF.out⟩
        simp [results, Tryd.results26, go_sem, e0, e1, e2, e3, e4, e5, e6, e7, memC]
end Go.Proofs.YtmnblljenobofaaDoor
