/- Merged: OrdH, OrdI. -/
import Derived.Test.YtampoikncgagkaaDoorOrdG
import Derived.BigQuiet
/- The walks of the reference's Before, Bit and After. -/
namespace Go.Proofs.YtampoikncgagkaaDoor.WPlain
end Go.Proofs.YtampoikncgagkaaDoor.WPlain
namespace Go.Proofs.YtampoikncgagkaaDoor.QPlain
end Go.Proofs.YtampoikncgagkaaDoor.QPlain
namespace Go.Proofs.YtampoikncgagkaaDoor.RPlain
end Go.Proofs.YtampoikncgagkaaDoor.RPlain
namespace Go.Proofs.YtampoikncgagkaaDoor
open Go.RowKit WPlain QPlain RPlain

set_option maxRecDepth 100000 in
set_option maxHeartbeats 1000000 in
theorem refBefore_any (v : Value) (l : List Tx) (i k : Nat) (w : World) (hv : Txs w v l) (hi : i < l.length) (hk : k < l.length) (hl : l.length ≤ 65536) :
    Calls Tryd.prog 15 #[v, .int .i64 (i : Int), .int .i64 (k : Int)] w fun e w' => e = .returned (.bool (bfr l[i] l[k])) ∧ ∃ z, w' = w.drewN z := by
  obtain ⟨b, o, c, rfl⟩ := hv.opened (by omega)
  obtain ⟨u, x0, x1, x2, x3, x4, q⟩ := hv.get i hi
  obtain ⟨u', y0, y1, y2, y3, y4, q'⟩ := hv.get k hk
  clear q q' x0 x4 y0 y2 y3 y4 hv
  generalize l[i] = X at *
  generalize l[k] = Y at *
  by_cases h2 : X.s = 2
  · have HF : Hid (bfr X Y = decide (X.l < Y.f)) := by unfold Hid bfr; simp [h2]
    rw [h2] at x3
    clear h2
    go_enter Tryd.func15, Tryd.ntmps15
    go_wp2_with fail
    go_quiet (fail)
    go_wp2
    go_ret
    exact ⟨by rw [HF.out]; rfl, _, rfl⟩
  · by_cases h3 : X.s = 3
    · have HF : Hid (bfr X Y = decide (X.l < Y.f)) := by unfold Hid bfr; simp [h3]
      rw [h3] at x3
      clear h2 h3
      go_enter Tryd.func15, Tryd.ntmps15
      go_wp2_with fail
      go_quiet (fail)
      go_wp2
      go_ret
      exact ⟨by rw [HF.out]; rfl, _, rfl⟩
    · have HF : Hid (bfr X Y = false) := by unfold Hid bfr; simp [h2, h3]
      have t2 : (X.s == 2) = false := by simp [h2]
      have t3 : (X.s == 3) = false := by simp [h3]
      clear h2 h3
      go_enter Tryd.func15, Tryd.ntmps15
      go_wp2_with fail
      go_quiet (fail)
      go_wp2
      go_ret
      exact ⟨by rw [HF.out]; rfl, _, rfl⟩
set_option maxRecDepth 100000 in
theorem refBit_any (k : Nat) (hk : k < 32) (w : World) : Calls Tryd.prog 27 #[.int .i64 (k : Int)] w fun e w' => e = .returned (.int .u32 ((2 ^ k : Nat) : Int)) ∧ w' = w := by
  go_enter Tryd.func27, Tryd.ntmps27
  go_wp2_with fail
  go_loopw [3, 4] (fun y x wr => ∃ i : Nat, i ≤ k ∧ x = .int .i64 i ∧ (∃ p : Nat, y = .int .u32 p ∧ Hid (p = 2 ^ i)) ∧ wr = w) (fun _ x _ => k - (intOf x).toNat)
  case atStart => exact ⟨0, by omega, rfl, ⟨1, rfl, rfl⟩, rfl⟩
  case round =>
    obtain ⟨i, hi, rfl, ⟨p, rfl, HP⟩, rfl⟩ := hrel
    by_cases hlt : i < k
    · have hp1 : 2 * p < 4294967296 := by
        rw [HP.out, ← Nat.pow_succ']
        exact Nat.pow_lt_pow_right (a := 2) (m := i + 1) (n := 32) (by decide) (by omega)
      have HP2 : Hid (2 * p = 2 ^ (i + 1)) := by unfold Hid; rw [HP.out, Nat.pow_succ']
      clear HP
      go_wp2
      go_roundw
      case rel => exact ⟨i + 1, by omega, by go_num, ⟨2 * p, by go_num, HP2⟩, trivial⟩
      case measure => simp [intOf]; omega
    · obtain rfl : i = k := by omega
      go_wp2
      go_ret
      exact ⟨by rw [← HP.out]; rfl, rfl⟩
end Go.Proofs.YtampoikncgagkaaDoor
/- The walks of the reference's After, There, Keeps, Of and Same. -/
namespace Go.Proofs.YtampoikncgagkaaDoor.WPlain
end Go.Proofs.YtampoikncgagkaaDoor.WPlain
namespace Go.Proofs.YtampoikncgagkaaDoor.QPlain
end Go.Proofs.YtampoikncgagkaaDoor.QPlain
namespace Go.Proofs.YtampoikncgagkaaDoor.RPlain
end Go.Proofs.YtampoikncgagkaaDoor.RPlain
namespace Go.Proofs.YtampoikncgagkaaDoor
open Go.RowKit WPlain QPlain RPlain

theorem refOf_any (v : Value) (h : List Ev) (w : World) (hv : Evs w v h) (hl : h.length ≤ 65536) (hcap : ∀ a n c, v = .slice a n c → n ≤ c) :
    Calls Tryd.prog 11 #[v] w fun e w' => ∃ v', e = .returned v' ∧ Txs w' v' (tableS h) ∧ Below w.heap.size w w' := by
  have HT := Lib.hid (refTable_any v h w hv hl hcap)
  clear hv hl hcap
  go_enter Tryd.func11, Tryd.ntmps11
  go_wp2_with fail
  refine HT.out.mono ?_
  rintro e w1 ⟨v1, rfl, hv1, hb1⟩
  go_wp2
  go_ret
  exact ⟨_, rfl, hv1, hb1⟩
set_option maxRecDepth 100000 in
set_option maxHeartbeats 1000000 in
theorem refThere_any (v rv : Value) (l : List Tx) (row : List Int) (w : World) (hv : ∃ a c, v = .slice a l.length c) (hr : Rd w rv (ints row)) (hrl : row.length ≤ 65536) :
    Calls Tryd.prog 14 #[v, rv] w fun e w' => e = .returned (.bool (thereS l row)) ∧ w' = w := by
  obtain ⟨a, c, rfl⟩ := hv
  have HNT := Lib.hid (none_there l row)
  have HV := Lib.hid hr
  obtain ⟨va, vc, rfl⟩ := hr.len
  rw [ints_len] at HV ⊢
  clear hr
  generalize l.length = n at *
  go_enter Tryd.func14, Tryd.ntmps14
  go_wp2_with fail
  go_loopw [9] (fun x wr => ∃ k : Nat, k ≤ row.length ∧ x = .int .i64 k ∧ Hid ((row.take k).any (noneB n) = false) ∧ wr = w) (fun x _ => row.length - (intOf x).toNat)
  case atStart => exact ⟨0, by omega, rfl, rfl, rfl⟩
  case round =>
    obtain ⟨k, hk, rfl, HA, rfl⟩ := hrel
    by_cases hlt : k < row.length
    · have HT : Hid (row.take (k + 1) = row.take k ++ [row[k]]) := List.take_succ_eq_append_getElem hlt
      have HM : Hid (row[k] ∈ row) := List.getElem_mem hlt
      obtain ⟨b, o, c', he, hbl, hcs⟩ := HV.out.opened (by rw [ints_len]; omega)
      simp only [Value.slice.injEq] at he
      obtain ⟨rfl, -, rfl⟩ := he
      have hck := hcs k (.int .i64 row[k]) (by unfold ints; rw [List.getElem?_map, List.getElem?_eq_getElem hlt]; rfl)
      clear hcs
      generalize row[k] = y at *
      by_cases h1 : y < 0
      · have HA2 : Hid (row.any (noneB n) = true) := List.any_eq_true.2 ⟨y, HM.out, by unfold noneB; simp [h1]⟩
        rw [HA2.out] at HNT
        have t1 : decide (y < 0) = true := by simp [h1]
        clear HT HM HA
        go_wp2
        go_ret
        exact ⟨ret_bool (by have := HNT.out; simp at this; rw [this]), rfl⟩
      · have t1 : decide (y < 0) = false := by simp; omega
        by_cases h2 : (n : Int) ≤ y
        · have HA2 : Hid (row.any (noneB n) = true) := List.any_eq_true.2 ⟨y, HM.out, by unfold noneB; simp [h2]⟩
          rw [HA2.out] at HNT
          have t2 : decide ((n : Int) ≤ y) = true := by simp [h2]
          clear HT HM HA
          go_wp2
          go_ret
          exact ⟨ret_bool (by have := HNT.out; simp at this; rw [this]), rfl⟩
        · have t2 : decide ((n : Int) ≤ y) = false := by simp; omega
          have HA2 : Hid ((row.take (k + 1)).any (noneB n) = false) := by
            unfold Hid
            rw [HT.out, List.any_append, HA.out]
            simp [noneB, t1, t2]
          clear HT HM HA
          go_wp2
          go_roundw
          case rel => exact ⟨k + 1, by omega, by go_num, HA2, trivial⟩
          case measure => simp [intOf]; omega
    · obtain rfl : k = row.length := by omega
      have HA2 : Hid (row.any (noneB n) = false) := by have := HA.out; rwa [List.take_length] at this
      rw [HA2.out] at HNT
      clear HA
      go_wp2
      go_ret
      exact ⟨ret_bool (by have := HNT.out; simp at this; rw [this]), rfl⟩
set_option maxRecDepth 100000 in
set_option maxHeartbeats 1000000 in
theorem refSameU_any (v v' : Value) (L L' : List Nat) (w : World) (hv : Rd w v (u32s L)) (hv' : Rd w v' (u32s L')) (he : L = L') (hl : L.length ≤ 65536) :
    Calls Tryd.prog 12 #[v, v'] w fun e w' => e = .returned (.bool true) ∧ ∃ z, w' = w.drewN z := by
  subst he
  have hul : (u32s L).length = L.length := by simp [u32s]
  have HV := Lib.hid hv
  have HV' := Lib.hid hv'
  obtain ⟨a, c, rfl⟩ := hv.len
  obtain ⟨a', c', rfl⟩ := hv'.len
  rw [hul] at HV HV' ⊢
  clear hv hv' 
  go_enter Tryd.func12, Tryd.ntmps12
  go_wp2_with fail
  go_loopw [13] (fun x wr => ∃ k : Nat, k ≤ L.length ∧ x = .int .i64 k ∧ ∃ z, wr = w.drewN z) (fun x _ => L.length - (intOf x).toNat)
  case atStart => exact ⟨0, by omega, rfl, 0, rfl⟩
  case round =>
    obtain ⟨k, hk, rfl, z, rfl⟩ := hrel
    by_cases hlt : k < L.length
    · have hget : (u32s L)[k]? = some (.int .u32 (L[k] : Nat)) := by unfold u32s; rw [List.getElem?_map, List.getElem?_eq_getElem hlt]; rfl
      obtain ⟨b, o, c1, he, hbl, hcs⟩ := HV.out.opened (by omega)
      simp only [Value.slice.injEq] at he
      obtain ⟨rfl, -, rfl⟩ := he
      obtain ⟨b2, o2, c2, he2, hbl2, hcs2⟩ := HV'.out.opened (by omega)
      simp only [Value.slice.injEq] at he2
      obtain ⟨rfl, -, rfl⟩ := he2
      have e1 : (w.drewN z).cell? ⟨b, o + k, none⟩ = some (.int .u32 (L[k] : Nat)) := hcs k _ hget
      have e2 : (w.drewN z).cell? ⟨b2, o2 + k, none⟩ = some (.int .u32 (L[k] : Nat)) := hcs2 k _ hget
      clear hcs hcs2 hget
      generalize L[k] = y at *
      obtain ⟨wz, hwz⟩ : ∃ wz, w.drewN z = wz := ⟨_, rfl⟩
      rw [hwz] at e1 e2 ⊢
      have HWZ := Lib.hid hwz
      clear hwz
      go_wp2_with fail
      go_quiet (fail)
      go_wp2
      go_roundw
      case rel => exact ⟨k + 1, by omega, by go_num, _, by rw [← HWZ.out]; exact World.drewN_drewN _ _ _⟩
      case measure => simp [intOf]; omega
    · obtain rfl : k = L.length := by omega
      go_wp2
      go_ret
      exact ⟨rfl, _, rfl⟩
end Go.Proofs.YtampoikncgagkaaDoor
