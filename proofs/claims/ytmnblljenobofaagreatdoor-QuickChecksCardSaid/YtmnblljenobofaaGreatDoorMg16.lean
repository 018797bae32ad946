/- Merged: UnqH, GphD. -/
import Derived.Test.YtmnblljenobofaaGreatDoorMg15
import Derived.Test.YtmnblljenobofaaGreatDoorMg7
import Derived.Test.YtmnblljenobofaaGreatDoorMg12
import Derived.Deep.QuietTactic
import Derived.BigQuiet
/- The walks of the reference's Writes, Owns and Unique. -/
namespace Go.Proofs.YtmnblljenobofaaGreatDoor.WPlain
end Go.Proofs.YtmnblljenobofaaGreatDoor.WPlain
namespace Go.Proofs.YtmnblljenobofaaGreatDoor.QPlain
end Go.Proofs.YtmnblljenobofaaGreatDoor.QPlain
namespace Go.Proofs.YtmnblljenobofaaGreatDoor.RPlain
end Go.Proofs.YtmnblljenobofaaGreatDoor.RPlain
namespace Go.Proofs.YtmnblljenobofaaGreatDoor.RPlain
open WPlain QPlain

/-- is a write of a transaction one of its own, and not of 0? -/
def OkAt (l : List Tx) (i : Nat) (o : Rwo) : Prop := o.w = true → o.x ≠ 0 ∧ ∀ k, k < l.length → k ≠ i → writesB (opsAt l k) o.v o.x = false
theorem unq_all {l : List Tx} (h : ∀ i, i < l.length → ∀ o ∈ opsAt l i, OkAt l i o) : uniqueS l = true := by
  refine unique_iff.2 ⟨fun i hi o ho hw => (h i hi o ho hw).1, fun i k hi hk v x h1 h2 => ?_⟩
  obtain ⟨o, ho, hw, rfl, rfl⟩ := writes_iff.1 h1
  rcases Nat.decEq i k with hne | he
  · have := (h i hi o ho hw).2 k hk (fun hc => hne hc.symm)
    rw [h2] at this; cases this
  · exact he
theorem unq_zero {l : List Tx} {i : Nat} (hi : i < l.length) {o : Rwo} (ho : o ∈ opsAt l i) (hw : o.w = true) (hx : o.x = 0) : uniqueS l = false := by
  cases hu : uniqueS l with
  | false => rfl
  | true => exact absurd hx ((unique_iff.1 hu).zero i hi o ho hw)
theorem unq_two {l : List Tx} {i k : Nat} (hi : i < l.length) (hk : k < l.length) {o : Rwo} (ho : o ∈ opsAt l i) (hw : o.w = true) (hne : k ≠ i) (h : writesB (opsAt l k) o.v o.x = true) : uniqueS l = false := by
  cases hu : uniqueS l with
  | false => rfl
  | true => exact absurd ((unique_iff.1 hu).one k i hk hi _ _ h (writes_iff.2 ⟨o, ho, hw, rfl, rfl⟩)) hne
theorem opsAt_eq {l : List Tx} {i : Nat} (hi : i < l.length) : opsAt l i = l[i].o := by
  unfold opsAt
  rw [List.getElem?_eq_getElem hi]
theorem writes_take {ops : List Rwo} {k : Nat} (hk : k < ops.length) (v x : Int) : writesB (ops.take (k + 1)) v x = (writesB (ops.take k) v x || (ops[k].w && decide (ops[k].v = v) && decide (ops[k].x = x))) := by
  rw [List.take_succ_eq_append_getElem hk, writes_snoc]
theorem writes_hit {ops : List Rwo} {k : Nat} (hk : k < ops.length) {v x : Int} (hw : ops[k].w = true) (hv : ops[k].v = v) (hx : ops[k].x = x) : writesB ops v x = true := writes_iff.2 ⟨ops[k], List.getElem_mem hk, hw, hv, hx⟩
theorem owns_hit {ops : List Rwo} {k : Nat} (hk : k < ops.length) {v : Int} (hw : ops[k].w = true) (hv : ops[k].v = v) : ownsB ops v = true := owns_iff.2 ⟨ops[k], List.getElem_mem hk, hw, hv⟩
theorem owns_takeU {ops : List Rwo} {k : Nat} (hk : k < ops.length) (v : Int) : ownsB (ops.take (k + 1)) v = (ownsB (ops.take k) v || (ops[k].w && decide (ops[k].v = v))) := by
  rw [List.take_succ_eq_append_getElem hk]
  unfold ownsB
  rw [List.any_append]
  simp
end Go.Proofs.YtmnblljenobofaaGreatDoor.RPlain
namespace Go.Proofs.YtmnblljenobofaaGreatDoor
open Go.RowKit WPlain QPlain RPlain

set_option maxRecDepth 100000 in
set_option maxHeartbeats 2000000 in
theorem refWrites_any (n f la s : Int) (u : Value) (ops : List Rwo) (v x : Int) (w : World) (ho : Opv w u ops) (hl : ops.length ≤ 60) :
    Calls Tryz.prog 48 #[.agg #[.int .i64 n, .int .i64 f, .int .i64 la, .int .i64 s, u], .int .i64 v, .int .i64 x] w fun e w' => e = .returned (.bool (writesB ops v x)) ∧ Below w.heap.size w w' := by
  obtain ⟨oa, oc, rfl, hoc⟩ := ho.len
  have HO := Lib.hid ho
  have HB0 := Lib.hid ((Below.refl w.heap.size w).alloc (Nat.le_refl _) (.cells #[.int .i64 n, .int .i64 f, .int .i64 la, .int .i64 s, .slice oa ops.length oc] 64))
  have HWT := Lib.hid (fun (k : Nat) (hk : k < ops.length) => writes_take hk v x)
  have HWH := Lib.hid (fun (k : Nat) (hk : k < ops.length) (h1 : ops[k].w = true) (h2 : ops[k].v = v) (h3 : ops[k].x = x) => writes_hit hk h1 h2 h3)
  have HALL : Hid (writesB (ops.take ops.length) v x = writesB ops v x) := by unfold Hid; rw [List.take_length]
  have HR0 : Hid (writesB (ops.take 0) v x = false) := rfl
  obtain ⟨R, hR⟩ : ∃ R, writesB ops v x = R := ⟨_, rfl⟩
  rw [hR] at HALL HWH ⊢
  clear ho hR
  go_enter Tryz.func48, Tryz.ntmps48
  go_wp2_with fail
  go_loopw [12] (fun y wr => ∃ k : Nat, k ≤ ops.length ∧ y = .int .i64 k ∧ Hid (writesB (ops.take k) v x = false) ∧ Hid (Below w.heap.size w wr)) (fun y _ => ops.length - (intOf y).toNat)
  case atStart => exact ⟨0, by omega, rfl, HR0, HB0⟩
  case round =>
    clear HR0 HB0
    obtain ⟨k, hkl, rfl, HR, HB⟩ := hrel
    by_cases hlt : k < ops.length
    · obtain ⟨b, o, rfl, hbl, c0, c1, c2⟩ := Opv.at (HO.out.below HB.out (Nat.le_refl _)) k hlt
      have hwt := HWT.out k hlt
      have hwh := HWH.out k hlt
      rw [HR.out, Bool.false_or] at hwt
      generalize ops[k] = O at *
      obtain ⟨ow, ov, ox⟩ := O
      dsimp only at *
      have HB2 := Lib.hid (HB.out.alloc HB.out.size (.cells #[.bool ow, .int .i64 ov, .int .i64 ox] 82))
      have HWT1 := Lib.hid hwt
      have HWH1 := Lib.hid hwh
      clear hwt hwh HR HB
      cases ow with
      | false =>
        have HR2 : Hid (writesB (ops.take (k + 1)) v x = false) := by unfold Hid; rw [HWT1.out]; rfl
        clear HWT1 HWH1
        go_wp2
        go_roundw
        case rel => exact ⟨k + 1, by omega, by go_num, HR2, HB2⟩
        case measure => simp [intOf]; omega
      | true =>
        by_cases hv : ov = v
        · have tv : ((ov : Int) == v) = true := by simp [hv]
          by_cases hx : ox = x
          · have tx : ((ox : Int) == x) = true := by simp [hx]
            have hr := HWH1.out rfl hv hx
            subst hr
            clear hv hx HWT1 HWH1
            go_wp2
            go_ret
            exact ⟨rfl, HB2.out⟩
          · have tx : ((ox : Int) == x) = false := by simp [hx]
            have HR2 : Hid (writesB (ops.take (k + 1)) v x = false) := by unfold Hid; rw [HWT1.out]; simp [hx]
            clear hv hx HWT1 HWH1
            go_wp2
            go_roundw
            case rel => exact ⟨k + 1, by omega, by go_num, HR2, HB2⟩
            case measure => simp [intOf]; omega
        · have tv : ((ov : Int) == v) = false := by simp [hv]
          have HR2 : Hid (writesB (ops.take (k + 1)) v x = false) := by unfold Hid; rw [HWT1.out]; simp [hv]
          clear hv HWT1 HWH1
          go_wp2
          go_roundw
          case rel => exact ⟨k + 1, by omega, by go_num, HR2, HB2⟩
          case measure => simp [intOf]; omega
    · obtain rfl : k = ops.length := by omega
      have hr := HALL.out
      rw [HR.out] at hr
      subst hr
      go_wp2
      go_ret
      exact ⟨rfl, HB.out⟩
set_option maxRecDepth 100000 in
set_option maxHeartbeats 2000000 in
theorem refOwns_any (u : Value) (ops : List Rwo) (v : Int) (w : World) (ho : Opv w u ops) (hl : ops.length ≤ 60) :
    Calls Tryz.prog 106 #[u, .int .i64 v] w fun e w' => e = .returned (.bool (ownsB ops v)) ∧ Below w.heap.size w w' := by
  obtain ⟨oa, oc, rfl, hoc⟩ := ho.len
  have HO := Lib.hid ho
  have HB0 := Lib.hid (Below.refl w.heap.size w)
  have HWT := Lib.hid (fun (k : Nat) (hk : k < ops.length) => owns_takeU hk v)
  have HWH := Lib.hid (fun (k : Nat) (hk : k < ops.length) (h1 : ops[k].w = true) (h2 : ops[k].v = v) => owns_hit hk h1 h2)
  have HALL : Hid (ownsB (ops.take ops.length) v = ownsB ops v) := by unfold Hid; rw [List.take_length]
  have HR0 : Hid (ownsB (ops.take 0) v = false) := rfl
  obtain ⟨R, hR⟩ : ∃ R, ownsB ops v = R := ⟨_, rfl⟩
  rw [hR] at HALL HWH ⊢
  clear ho hR
  go_enter Tryz.func106, Tryz.ntmps106
  go_wp2_with fail
  go_loopw [9] (fun y wr => ∃ k : Nat, k ≤ ops.length ∧ y = .int .i64 k ∧ Hid (ownsB (ops.take k) v = false) ∧ Hid (Below w.heap.size w wr)) (fun y _ => ops.length - (intOf y).toNat)
  case atStart => exact ⟨0, by omega, rfl, HR0, HB0⟩
  case round =>
    clear HR0 HB0
    obtain ⟨k, hkl, rfl, HR, HB⟩ := hrel
    by_cases hlt : k < ops.length
    · obtain ⟨b, o, rfl, hbl, c0, c1, c2⟩ := Opv.at (HO.out.below HB.out (Nat.le_refl _)) k hlt
      have hwt := HWT.out k hlt
      have hwh := HWH.out k hlt
      rw [HR.out, Bool.false_or] at hwt
      generalize ops[k] = O at *
      obtain ⟨ow, ov, ox⟩ := O
      dsimp only at *
      have HB2 := Lib.hid (HB.out.alloc HB.out.size (.cells #[.bool ow, .int .i64 ov, .int .i64 ox] 82))
      have HWT1 := Lib.hid hwt
      have HWH1 := Lib.hid hwh
      clear hwt hwh HR HB
      cases ow with
      | false =>
        have HR2 : Hid (ownsB (ops.take (k + 1)) v = false) := by unfold Hid; rw [HWT1.out]; rfl
        clear HWT1 HWH1
        go_wp2
        go_roundw
        case rel => exact ⟨k + 1, by omega, by go_num, HR2, HB2⟩
        case measure => simp [intOf]; omega
      | true =>
        by_cases hv : ov = v
        · have tv : ((ov : Int) == v) = true := by simp [hv]
          have hr := HWH1.out rfl hv
          subst hr
          clear hv HWT1 HWH1
          go_wp2
          go_ret
          exact ⟨rfl, HB2.out⟩
        · have tv : ((ov : Int) == v) = false := by simp [hv]
          have HR2 : Hid (ownsB (ops.take (k + 1)) v = false) := by unfold Hid; rw [HWT1.out]; simp [hv]
          clear hv HWT1 HWH1
          go_wp2
          go_roundw
          case rel => exact ⟨k + 1, by omega, by go_num, HR2, HB2⟩
          case measure => simp [intOf]; omega
    · obtain rfl : k = ops.length := by omega
      have hr := HALL.out
      rw [HR.out] at hr
      subst hr
      go_wp2
      go_ret
      exact ⟨rfl, HB.out⟩
end Go.Proofs.YtmnblljenobofaaGreatDoor
/- The walks of package graph's bit, doesCommit, writes and lastWritten. -/
namespace Go.Proofs.YtmnblljenobofaaGreatDoor.WPlain
end Go.Proofs.YtmnblljenobofaaGreatDoor.WPlain
namespace Go.Proofs.YtmnblljenobofaaGreatDoor.QPlain
end Go.Proofs.YtmnblljenobofaaGreatDoor.QPlain
namespace Go.Proofs.YtmnblljenobofaaGreatDoor.RPlain
end Go.Proofs.YtmnblljenobofaaGreatDoor.RPlain
namespace Go.Proofs.YtmnblljenobofaaGreatDoor.RPlain
open WPlain QPlain

/-- does an Op write a variable? -/
def ownP (v : Int) (o : Rwo) : Bool := o.w && decide (o.v = v)
theorem any_ownP (ops : List Rwo) (v : Int) : ops.any (ownP v) = ownsB ops v := rfl
theorem lastW_take {ops : List Rwo} {k : Nat} (hk : k < ops.length) (v : Int) : lastGv (ops.take (k + 1)) v = if (ops[k].w && decide (ops[k].v = v)) = true then ops[k].x else lastGv (ops.take k) v := by
  rw [List.take_succ_eq_append_getElem hk, last_snoc]
end Go.Proofs.YtmnblljenobofaaGreatDoor.RPlain
namespace Go.Proofs.YtmnblljenobofaaGreatDoor
open Go.RowKit WPlain QPlain RPlain

theorem bitG_any (k : Nat) (hk : k < 32) (w : World) : Calls Tryz.prog 61 #[.int .i64 (k : Int)] w fun e w' => e = .returned (.int .u32 ((2 ^ k : Nat) : Int)) ∧ w' = w := by
  go_enter Tryz.func61, Tryz.ntmps61
  go_wp2
  go_ret
  exact ⟨by rw [pow_u32 hk]; rfl, rfl⟩
theorem bitG_all (k : Nat) (hk : k < 32) : Hid (∀ w, Calls Tryz.prog 61 #[.int .i64 (k : Int)] w fun e w' => e = .returned (.int .u32 ((2 ^ k : Nat) : Int)) ∧ w' = w) := fun w => bitG_any k hk w
set_option maxRecDepth 100000 in
theorem commitG_any (ta sa : Option Addr) (tn tc sn sc : Nat) (cm k : Nat) (hk : k < 32) (hcm : cm < 4294967296) (w : World) :
    Calls Tryz.prog 96 #[.agg #[.slice ta tn tc, .slice sa sn sc, .int .u32 (cm : Int)], .int .i64 (k : Int)] w fun e w' => e = .returned (.bool (cm.testBit k)) ∧ Below w.heap.size w w' := by
  have HBT := bitG_all k hk
  have hlt3 : 2 ^ k < 4294967296 := Nat.pow_lt_pow_right (a := 2) (m := k) (n := 32) (by decide) hk
  have hand := u32_and_nat cm (2 ^ k) hcm hlt3
  have hap := and_powL cm k
  obtain ⟨pw, hpw⟩ : ∃ pw, 2 ^ k = pw := ⟨_, rfl⟩
  rw [hpw] at HBT hand hap
  clear hpw hlt3
  generalize cm &&& pw = za at *
  have HZ : Hid (((za : Int) != 0) = cm.testBit k) := by
    by_cases h0 : za = 0
    · rw [hap.1 h0, h0]; rfl
    · cases hb : cm.testBit k with
      | false => exact absurd (hap.2 hb) h0
      | true => unfold Hid; simp; omega
  have HB0 := Lib.hid ((Below.refl w.heap.size w).alloc (Nat.le_refl _) (.cells #[.slice ta tn tc, .slice sa sn sc, .int .u32 (cm : Int)] 90))
  clear hap
  go_enter Tryz.func96, Tryz.ntmps96
  go_upto_region 1 with fail
  have e2 := (At.new w #[.slice ta tn tc, .slice sa sn sc, .int .u32 (cm : Int)] 90).cell (i := 2) rfl
  generalize w.alloc (.cells #[.slice ta tn tc, .slice sa sn sc, .int .u32 (cm : Int)] 90) = w2 at *
  go_quiet ((go_at_call 61; exact Calls.quiet_of_same (HBT.out _)))
  go_wp2
  refine bodyPost_ret (v := .bool (cm.testBit k)) (by rw [← HZ.out]; simp [results, Tryz.results96, go_sem]) rfl ⟨rfl, below_drN HB0.out _⟩
/-- the closure: does an Op write the variable? -/
theorem writesC_any (p : Rwo) (N : Nat) (x : Int) (w : World) (hc : w.cell? ⟨N, 0, none⟩ = some (.int .i64 x)) :
    Calls Tryz.prog 123 #[.agg #[.bool p.w, .int .i64 p.v, .int .i64 p.x], .pointer (some ⟨N, 0, none⟩)] w fun e w' => e = .returned (.bool (ownP x p)) ∧ Below w.heap.size w w' := by
  have hN := cell_lt hc
  obtain ⟨b, v, y⟩ := p
  unfold ownP
  dsimp only
  have HB0 := Lib.hid ((Below.refl w.heap.size w).alloc (Nat.le_refl _) (.cells #[.bool b, .int .i64 v, .int .i64 y] 82))
  have hcc := (((Below.refl w.heap.size w).alloc (Nat.le_refl _) (.cells #[.bool b, .int .i64 v, .int .i64 y] 82)).cell (p := ⟨N, 0, none⟩) hN).trans hc
  cases b with
  | false =>
    go_enter Tryz.func123, Tryz.ntmps123
    go_wp2
    go_ret
    exact ⟨rfl, HB0.out⟩
  | true =>
    by_cases hv : v = x
    · have tv : ((v : Int) == x) = true := by simp [hv]
      have td : decide (v = x) = true := decide_eq_true hv
      rw [td]
      clear hv td
      go_enter Tryz.func123, Tryz.ntmps123
      go_wp2
      go_ret
      exact ⟨rfl, HB0.out⟩
    · have tv : ((v : Int) == x) = false := by simp [hv]
      have td : decide (v = x) = false := decide_eq_false hv
      rw [td]
      clear hv td
      go_enter Tryz.func123, Tryz.ntmps123
      go_wp2
      go_ret
      exact ⟨rfl, HB0.out⟩
set_option maxRecDepth 100000 in
set_option maxHeartbeats 1000000 in
theorem indexW_any (u : Value) (ops : List Rwo) (N : Nat) (xv : Int) (w : World) (hv : Opv w u ops) (hl : ops.length ≤ 65536) (hc : w.cell? ⟨N, 0, none⟩ = some (.int .i64 xv)) :
    Calls Tryz.prog 132 #[u, .func (.func 123) #[] #[.pointer (some ⟨N, 0, none⟩)]] w fun e w' => (∃ z : Int, e = .returned (.int .i64 z) ∧ decide (0 ≤ z) = ops.any (ownP xv)) ∧ Below w.heap.size w w' := by
  have HV := Lib.hid hv
  have HCL := Lib.hid (fun (o : Rwo) (W : World) (hW : Below w.heap.size w W) => writesC_any o N xv W ((hW.cell (p := ⟨N, 0, none⟩) (cell_lt hc)).trans hc))
  obtain ⟨a, c, rfl, -⟩ := hv.len
  clear hv hc
  go_enter Tryz.func132, Tryz.ntmps132
  go_wp2_with fail
  go_loopw [8] (fun x wr => ∃ k : Nat, k ≤ ops.length ∧ x = .int .i64 k ∧ Hid ((ops.take k).any (ownP xv) = false) ∧ Hid (Below w.heap.size w wr)) (fun x _ => ops.length - (intOf x).toNat)
  case atStart => exact ⟨0, by omega, rfl, rfl, Below.refl _ _⟩
  case round =>
    obtain ⟨k, hk, rfl, HA, HB⟩ := hrel
    by_cases hlt : k < ops.length
    · have HT : Hid (ops.take (k + 1) = ops.take k ++ [ops[k]]) := List.take_succ_eq_append_getElem hlt
      have HM : Hid (ops[k] ∈ ops) := List.getElem_mem hlt
      obtain ⟨b, o, rfl, hbl, c0, c1, c2⟩ := Opv.at (HV.out.below HB.out (Nat.le_refl _)) k hlt
      have HC1 := Lib.hid (HCL.out ops[k] wr HB.out)
      generalize ops[k] = y at *
      cases hnb : (ownP xv) y with
      | false =>
        rw [hnb] at HC1
        have HA2 : Hid ((ops.take (k + 1)).any (ownP xv) = false) := by
          unfold Hid
          rw [HT.out, List.any_append, HA.out]
          simp [hnb]
        clear hnb HT HM HA
        go_wp2_with (go_at_call 123; refine HC1.out.mono ?_; rintro e w3 ⟨rfl, hb3⟩; have HB3 := Lib.hid (HB.out.trans (hb3.mono HB.out.size)); clear hb3)
        go_roundw
        case rel => exact ⟨k + 1, by omega, by go_num, HA2, HB3⟩
        case measure => simp [intOf]; omega
      | true =>
        rw [hnb] at HC1
        have HA2 : Hid (ops.any (ownP xv) = true) := List.any_eq_true.2 ⟨y, HM.out, hnb⟩
        clear hnb HT HM HA
        go_wp2_with (go_at_call 123; refine HC1.out.mono ?_; rintro e w3 ⟨rfl, hb3⟩; have HB3 := Lib.hid (HB.out.trans (hb3.mono HB.out.size)); clear hb3)
        go_ret
        exact ⟨⟨_, rfl, by rw [HA2.out]; exact decide_eq_true (by omega)⟩, HB3.out⟩
    · obtain rfl : k = ops.length := by omega
      have HA2 : Hid (ops.any (ownP xv) = false) := by have := HA.out; rwa [List.take_length] at this
      clear HA
      go_wp2
      go_ret
      exact ⟨⟨_, rfl, by rw [HA2.out]; rfl⟩, HB.out⟩
theorem containsW_any (u : Value) (ops : List Rwo) (N : Nat) (xv : Int) (w : World) (hv : Opv w u ops) (hl : ops.length ≤ 65536) (hc : w.cell? ⟨N, 0, none⟩ = some (.int .i64 xv)) :
    Calls Tryz.prog 122 #[u, .func (.func 123) #[] #[.pointer (some ⟨N, 0, none⟩)]] w fun e w' => e = .returned (.bool (ownsB ops xv)) ∧ Below w.heap.size w w' := by
  have HI := Lib.hid (indexW_any u ops N xv w hv hl hc)
  rw [any_ownP] at HI
  clear hv hl hc
  go_enter Tryz.func122, Tryz.ntmps122
  go_wp2_with fail
  refine HI.out.mono ?_
  rintro e w1 ⟨⟨z, rfl, hz⟩, hb⟩
  go_wp2
  all_goals go_ret
  all_goals exact ⟨ret_bool (by rw [← hz]), hb⟩
set_option maxRecDepth 100000 in
theorem writesG_any (n f la s : Int) (u : Value) (ops : List Rwo) (v : Int) (w : World) (ho : Opv w u ops) (hl : ops.length ≤ 60) :
    Calls Tryz.prog 97 #[.agg #[.int .i64 n, .int .i64 f, .int .i64 la, .int .i64 s, u], .int .i64 v] w fun e w' => e = .returned (.bool (ownsB ops v)) ∧ Below w.heap.size w w' := by
  obtain ⟨oa, oc, rfl, hoc⟩ := ho.len
  have hba : Below w.heap.size w (w.alloc (.cells #[.int .i64 n, .int .i64 f, .int .i64 la, .int .i64 s, .slice oa ops.length oc] 64)) := (Below.refl _ w).alloc (Nat.le_refl _) _
  have hbb := hba.alloc hba.size (.cells #[.int .i64 v] 3)
  have hA := (At.new (w.alloc (.cells #[.int .i64 n, .int .i64 f, .int .i64 la, .int .i64 s, .slice oa ops.length oc] 64)) #[.int .i64 v] 3).cell (i := 0) rfl
  have hsz : (w.alloc (.cells #[.int .i64 n, .int .i64 f, .int .i64 la, .int .i64 s, .slice oa ops.length oc] 64)).heap.size = w.heap.size + 1 := by simp
  rw [hsz] at hA
  have HC := Lib.hid (containsW_any _ ops (w.heap.size + 1) v _ (ho.below hbb (Nat.le_refl _)) (by omega) hA)
  have HB := Lib.hid hbb
  clear ho hba hbb hA hsz
  generalize ownsB ops v = r at *
  go_enter Tryz.func97, Tryz.ntmps97
  go_wp2_with fail
  refine HC.out.mono ?_
  rintro e w1 ⟨rfl, hb1⟩
  have HB1 := Lib.hid (HB.out.trans (hb1.mono HB.out.size))
  go_wp2
  go_ret
  exact ⟨rfl, HB1.out⟩
set_option maxRecDepth 100000 in
set_option maxHeartbeats 2000000 in
theorem lastG_any (u : Value) (ops : List Rwo) (v : Int) (w : World) (ho : Opv w u ops) (hl : ops.length ≤ 60) :
    Calls Tryz.prog 121 #[u, .int .i64 v] w fun e w' => e = .returned (.int .i64 (lastGv ops v)) ∧ Below w.heap.size w w' := by
  obtain ⟨oa, oc, rfl, hoc⟩ := ho.len
  have HO := Lib.hid ho
  have HB0 := Lib.hid (Below.refl w.heap.size w)
  have HLT := Lib.hid (fun (k : Nat) (hk : k < ops.length) => lastW_take hk v)
  have HALL : Hid (lastGv (ops.take ops.length) v = lastGv ops v) := by unfold Hid; rw [List.take_length]
  have HR0 : Hid ((0 : Int) = lastGv (ops.take 0) v) := rfl
  obtain ⟨R, hR⟩ : ∃ R, lastGv ops v = R := ⟨_, rfl⟩
  rw [hR] at HALL ⊢
  clear ho hR
  go_enter Tryz.func121, Tryz.ntmps121
  go_wp2_with fail
  go_loopw [5, 10] (fun q y wr => ∃ k : Nat, k ≤ ops.length ∧ y = .int .i64 k ∧ (∃ z : Int, q = .int .i64 z ∧ Hid (z = lastGv (ops.take k) v)) ∧ Hid (Below w.heap.size w wr)) (fun _ y _ => ops.length - (intOf y).toNat)
  case atStart => exact ⟨0, by omega, rfl, ⟨0, rfl, HR0⟩, HB0⟩
  case round =>
    clear HR0 HB0
    obtain ⟨k, hkl, rfl, ⟨z, rfl, HR⟩, HB⟩ := hrel
    by_cases hlt : k < ops.length
    · obtain ⟨b, o, rfl, hbl, c0, c1, c2⟩ := Opv.at (HO.out.below HB.out (Nat.le_refl _)) k hlt
      have hwt := HLT.out k hlt
      rw [← HR.out] at hwt
      generalize ops[k] = O at *
      obtain ⟨ow, ov, ox⟩ := O
      dsimp only at *
      have HB2 := Lib.hid (HB.out.alloc HB.out.size (.cells #[.bool ow, .int .i64 ov, .int .i64 ox] 82))
      have HWT1 := Lib.hid hwt
      clear hwt HR HB
      cases ow with
      | false =>
        have HR2 : Hid (z = lastGv (ops.take (k + 1)) v) := by unfold Hid; rw [HWT1.out]; simp
        clear HWT1
        go_wp2
        go_roundw
        case rel => exact ⟨k + 1, by omega, by go_num, ⟨_, rfl, HR2⟩, HB2⟩
        case measure => simp [intOf]; omega
      | true =>
        by_cases hv : ov = v
        · have tv : ((ov : Int) == v) = true := by simp [hv]
          have HR2 : Hid (ox = lastGv (ops.take (k + 1)) v) := by unfold Hid; rw [HWT1.out]; simp [hv]
          clear hv HWT1
          go_wp2
          go_roundw
          case rel => exact ⟨k + 1, by omega, by go_num, ⟨_, rfl, HR2⟩, HB2⟩
          case measure => simp [intOf]; omega
        · have tv : ((ov : Int) == v) = false := by simp [hv]
          have HR2 : Hid (z = lastGv (ops.take (k + 1)) v) := by unfold Hid; rw [HWT1.out]; simp [hv]
          clear hv HWT1
          go_wp2
          go_roundw
          case rel => exact ⟨k + 1, by omega, by go_num, ⟨_, rfl, HR2⟩, HB2⟩
          case measure => simp [intOf]; omega
    · obtain rfl : k = ops.length := by omega
      have hr := HALL.out
      rw [← HR.out] at hr
      subst hr
      go_wp2
      go_ret
      exact ⟨rfl, HB.out⟩
end Go.Proofs.YtmnblljenobofaaGreatDoor
