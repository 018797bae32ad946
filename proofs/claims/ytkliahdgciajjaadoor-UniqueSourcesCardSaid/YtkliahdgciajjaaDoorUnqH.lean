/- The walks of the reference's Writes, Owns and Unique. -/
import Derived.Test.YtkliahdgciajjaaDoorUnqE
namespace Go.Proofs.YtkliahdgciajjaaDoor.WPlain
end Go.Proofs.YtkliahdgciajjaaDoor.WPlain
namespace Go.Proofs.YtkliahdgciajjaaDoor.QPlain
end Go.Proofs.YtkliahdgciajjaaDoor.QPlain
namespace Go.Proofs.YtkliahdgciajjaaDoor.RPlain
end Go.Proofs.YtkliahdgciajjaaDoor.RPlain
namespace Go.Proofs.YtkliahdgciajjaaDoor.RPlain
open WPlain QPlain

/-- is a write of a transaction one of its own, and not of 0? -/
def OkAt (l : List Tx) (i : Nat) (o : Rwo) : Prop := o.w = true → o.x ≠ 0 ∧ ∀ k, k < l.length → k ≠ i → writesB (opsAt l k) o.v o.x = false
theorem unq_all {l : List Tx} (h : ∀ i, i < l.length → ∀ o ∈ opsAt l i, OkAt l i o) : uniqueS l = true := by
  refine unique_iff.2 ⟨fun i hi o ho hw => (h i hi o ho hw).1, fun i k hi hk v x h1 h2 => ?_⟩
  obtain ⟨o, ho, hw, rfl, rfl⟩ := writes_iff.1 h1
  rcases Nat.decEq i k with hne | he
  · have := (h i hi o ho hw).2 k hk (fun hc => hne hc.symm)
    rw [h2] at this; cases this
  · exact he
theorem unq_zero {l : List Tx} {i : Nat} (hi : i < l.length) {o : Rwo} (ho : o ∈ opsAt l i) (hw : o.w = true) (hx : o.x = 0) : uniqueS l = false := by
  cases hu : uniqueS l with
  | false => rfl
  | true => exact absurd hx ((unique_iff.1 hu).zero i hi o ho hw)
theorem unq_two {l : List Tx} {i k : Nat} (hi : i < l.length) (hk : k < l.length) {o : Rwo} (ho : o ∈ opsAt l i) (hw : o.w = true) (hne : k ≠ i) (h : writesB (opsAt l k) o.v o.x = true) : uniqueS l = false := by
  cases hu : uniqueS l with
  | false => rfl
  | true => exact absurd ((unique_iff.1 hu).one k i hk hi _ _ h (writes_iff.2 ⟨o, ho, hw, rfl, rfl⟩)) hne
theorem opsAt_eq {l : List Tx} {i : Nat} (hi : i < l.length) : opsAt l i = l[i].o := by
  unfold opsAt
  rw [List.getElem?_eq_getElem hi]
theorem writes_take {ops : List Rwo} {k : Nat} (hk : k < ops.length) (v x : Int) : writesB (ops.take (k + 1)) v x = (writesB (ops.take k) v x || (ops[k].w && decide (ops[k].v = v) && decide (ops[k].x = x))) := by
  rw [List.take_succ_eq_append_getElem hk, writes_snoc]
theorem writes_hit {ops : List Rwo} {k : Nat} (hk : k < ops.length) {v x : Int} (hw : ops[k].w = true) (hv : ops[k].v = v) (hx : ops[k].x = x) : writesB ops v x = true := writes_iff.2 ⟨ops[k], List.getElem_mem hk, hw, hv, hx⟩
theorem owns_hit {ops : List Rwo} {k : Nat} (hk : k < ops.length) {v : Int} (hw : ops[k].w = true) (hv : ops[k].v = v) : ownsB ops v = true := owns_iff.2 ⟨ops[k], List.getElem_mem hk, hw, hv⟩
theorem owns_takeU {ops : List Rwo} {k : Nat} (hk : k < ops.length) (v : Int) : ownsB (ops.take (k + 1)) v = (ownsB (ops.take k) v || (ops[k].w && decide (ops[k].v = v))) := by
  rw [List.take_succ_eq_append_getElem hk]
  unfold ownsB
  rw [List.any_append]
  simp
end Go.Proofs.YtkliahdgciajjaaDoor.RPlain
namespace Go.Proofs.YtkliahdgciajjaaDoor
open Go.RowKit WPlain QPlain RPlain

set_option maxRecDepth 100000 in
set_option maxHeartbeats 2000000 in
theorem refWrites_any (n f la s : Int) (u : Value) (ops : List Rwo) (v x : Int) (w : World) (ho : Opv w u ops) (hl : ops.length ≤ 60) :
    Calls Tryd.prog 17 #[.agg #[.int .i64 n, .int .i64 f, .int .i64 la, .int .i64 s, u], .int .i64 v, .int .i64 x] w fun e w' => e = .returned (.bool (writesB ops v x)) ∧ Below w.heap.size w w' := by
  obtain ⟨oa, oc, rfl, hoc⟩ := ho.len
  have HO := Lib.hid ho
  have HB0 := Lib.hid ((Below.refl w.heap.size w).alloc (Nat.le_refl _) (.cells #[.int .i64 n, .int .i64 f, .int .i64 la, .int .i64 s, .slice oa ops.length oc] 42))
  have HWT := Lib.hid (fun (k : Nat) (hk : k < ops.length) => writes_take hk v x)
  have HWH := Lib.hid (fun (k : Nat) (hk : k < ops.length) (h1 : ops[k].w = true) (h2 : ops[k].v = v) (h3 : ops[k].x = x) => writes_hit hk h1 h2 h3)
  have HALL : Hid (writesB (ops.take ops.length) v x = writesB ops v x) := by unfold Hid; rw [List.take_length]
  have HR0 : Hid (writesB (ops.take 0) v x = false) := rfl
  obtain ⟨R, hR⟩ : ∃ R, writesB ops v x = R := ⟨_, rfl⟩
  rw [hR] at HALL HWH ⊢
  clear ho hR
  go_enter Tryd.func17, Tryd.ntmps17
  go_wp2_with fail
  go_loopw [12] (fun y wr => ∃ k : Nat, k ≤ ops.length ∧ y = .int .i64 k ∧ Hid (writesB (ops.take k) v x = false) ∧ Hid (Below w.heap.size w wr)) (fun y _ => ops.length - (intOf y).toNat)
  case atStart => exact ⟨0, by omega, rfl, HR0, HB0⟩
  case round =>
    clear HR0 HB0
    obtain ⟨k, hkl, rfl, HR, HB⟩ := hrel
    by_cases hlt : k < ops.length
    · obtain ⟨b, o, rfl, hbl, c0, c1, c2⟩ := Opv.at (HO.out.below HB.out (Nat.le_refl _)) k hlt
      have hwt := HWT.out k hlt
      have hwh := HWH.out k hlt
      rw [HR.out, Bool.false_or] at hwt
      generalize ops[k] = O at *
      obtain ⟨ow, ov, ox⟩ := O
      dsimp only at *
      have HB2 := Lib.hid (HB.out.alloc HB.out.size (.cells #[.bool ow, .int .i64 ov, .int .i64 ox] 46))
      have HWT1 := Lib.hid hwt
      have HWH1 := Lib.hid hwh
      clear hwt hwh HR HB
      cases ow with
      | false =>
        have HR2 : Hid (writesB (ops.take (k + 1)) v x = false) := by unfold Hid; rw [HWT1.out]; rfl
        clear HWT1 HWH1
        go_wp2
        go_roundw
        case rel => exact ⟨k + 1, by omega, by go_num, HR2, HB2⟩
        case measure => simp [intOf]; omega
      | true =>
        by_cases hv : ov = v
        · have tv : ((ov : Int) == v) = true := by simp [hv]
          by_cases hx : ox = x
          · have tx : ((ox : Int) == x) = true := by simp [hx]
            have hr := HWH1.out rfl hv hx
            subst hr
            clear hv hx HWT1 HWH1
            go_wp2
            go_ret
            exact ⟨rfl, HB2.out⟩
          · have tx : ((ox : Int) == x) = false := by simp [hx]
            have HR2 : Hid (writesB (ops.take (k + 1)) v x = false) := by unfold Hid; rw [HWT1.out]; simp [hx]
            clear hv hx HWT1 HWH1
            go_wp2
            go_roundw
            case rel => exact ⟨k + 1, by omega, by go_num, HR2, HB2⟩
            case measure => simp [intOf]; omega
        · have tv : ((ov : Int) == v) = false := by simp [hv]
          have HR2 : Hid (writesB (ops.take (k + 1)) v x = false) := by unfold Hid; rw [HWT1.out]; simp [hv]
          clear hv HWT1 HWH1
          go_wp2
          go_roundw
          case rel => exact ⟨k + 1, by omega, by go_num, HR2, HB2⟩
          case measure => simp [intOf]; omega
    · obtain rfl : k = ops.length := by omega
      have hr := HALL.out
      rw [HR.out] at hr
      subst hr
      go_wp2
      go_ret
      exact ⟨rfl, HB.out⟩
set_option maxRecDepth 100000 in
set_option maxHeartbeats 2000000 in
theorem refOwns_any (u : Value) (ops : List Rwo) (v : Int) (w : World) (ho : Opv w u ops) (hl : ops.length ≤ 60) :
    Calls Tryd.prog 30 #[u, .int .i64 v] w fun e w' => e = .returned (.bool (ownsB ops v)) ∧ Below w.heap.size w w' := by
  obtain ⟨oa, oc, rfl, hoc⟩ := ho.len
  have HO := Lib.hid ho
  have HB0 := Lib.hid (Below.refl w.heap.size w)
  have HWT := Lib.hid (fun (k : Nat) (hk : k < ops.length) => owns_takeU hk v)
  have HWH := Lib.hid (fun (k : Nat) (hk : k < ops.length) (h1 : ops[k].w = true) (h2 : ops[k].v = v) => owns_hit hk h1 h2)
  have HALL : Hid (ownsB (ops.take ops.length) v = ownsB ops v) := by unfold Hid; rw [List.take_length]
  have HR0 : Hid (ownsB (ops.take 0) v = false) := rfl
  obtain ⟨R, hR⟩ : ∃ R, ownsB ops v = R := ⟨_, rfl⟩
  rw [hR] at HALL HWH ⊢
  clear ho hR
  go_enter Tryd.func30, Tryd.ntmps30
  go_wp2_with fail
  go_loopw [9] (fun y wr => ∃ k : Nat, k ≤ ops.length ∧ y = .int .i64 k ∧ Hid (ownsB (ops.take k) v = false) ∧ Hid (Below w.heap.size w wr)) (fun y _ => ops.length - (intOf y).toNat)
  case atStart => exact ⟨0, by omega, rfl, HR0, HB0⟩
  case round =>
    clear HR0 HB0
    obtain ⟨k, hkl, rfl, HR, HB⟩ := hrel
    by_cases hlt : k < ops.length
    · obtain ⟨b, o, rfl, hbl, c0, c1, c2⟩ := Opv.at (HO.out.below HB.out (Nat.le_refl _)) k hlt
      have hwt := HWT.out k hlt
      have hwh := HWH.out k hlt
      rw [HR.out, Bool.false_or] at hwt
      generalize ops[k] = O at *
      obtain ⟨ow, ov, ox⟩ := O
      dsimp only at *
      have HB2 := Lib.hid (HB.out.alloc HB.out.size (.cells #[.bool ow, .int .i64 ov, .int .i64 ox] 46))
      have HWT1 := Lib.hid hwt
      have HWH1 := Lib.hid hwh
      clear hwt hwh HR HB
      cases ow with
      | false =>
        have HR2 : Hid (ownsB (ops.take (k + 1)) v = false) := by unfold Hid; rw [HWT1.out]; rfl
        clear HWT1 HWH1
        go_wp2
        go_roundw
        case rel => exact ⟨k + 1, by omega, by go_num, HR2, HB2⟩
        case measure => simp [intOf]; omega
      | true =>
        by_cases hv : ov = v
        · have tv : ((ov : Int) == v) = true := by simp [hv]
          have hr := HWH1.out rfl hv
          subst hr
          clear hv HWT1 HWH1
          go_wp2
          go_ret
          exact ⟨rfl, HB2.out⟩
        · have tv : ((ov : Int) == v) = false := by simp [hv]
          have HR2 : Hid (ownsB (ops.take (k + 1)) v = false) := by unfold Hid; rw [HWT1.out]; simp [hv]
          clear hv HWT1 HWH1
          go_wp2
          go_roundw
          case rel => exact ⟨k + 1, by omega, by go_num, HR2, HB2⟩
          case measure => simp [intOf]; omega
    · obtain rfl : k = ops.length := by omega
      have hr := HALL.out
      rw [HR.out] at hr
      subst hr
      go_wp2
      go_ret
      exact ⟨rfl, HB.out⟩
end Go.Proofs.YtkliahdgciajjaaDoor
