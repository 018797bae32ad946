/- The walks of package text's mayBe and Right. (Written by gen_txtH.py.) -/
import Derived.Test.YtmnblljenobofaaGreatDoorMg3
namespace Go.Proofs.YtmnblljenobofaaGreatDoor.WPlain
end Go.Proofs.YtmnblljenobofaaGreatDoor.WPlain
namespace Go.Proofs.YtmnblljenobofaaGreatDoor
open Go.RowKit WPlain

theorem mayBe_out (k t v x : Int) (w : World) (hk : inB k 0 9 = false) :
    Calls Tryz.prog 136 #[.agg #[.int .i64 k, .int .i64 t, .int .i64 v, .int .i64 x]] w fun e w' => e = .returned (.bool false) ∧ Below w.heap.size w w' := by
  have HK := Lib.hid hk
  clear hk
  have hb := (Below.refl w.heap.size w).alloc (Nat.le_refl _) (.cells #[.int .i64 k, .int .i64 t, .int .i64 v, .int .i64 x] 53)
  go_enter Tryz.func136, Tryz.ntmps136
  go_wp2_with fail
  refine (within_any _ _ _ _).mono ?_
  rintro e w1 ⟨rfl, rfl⟩
  rw [HK.out]
  go_wp2
  go_ret
  exact ⟨rfl, hb⟩

set_option maxHeartbeats 1000000 in
theorem mayBe_0000 (kk : Nat) (t v x : Int) (kb : ByteArray) (w : World) (hk : kk < 10) (h0 : w.cell? ⟨0, kk * 3, none⟩ = some (.string kb)) (h1 : w.cell? ⟨0, kk * 3 + 1, none⟩ = some (.bool false)) (h2 : w.cell? ⟨0, kk * 3 + 2, none⟩ = some (.bool false)) (hg : 0 < w.heap.size) (hv : ((v : Int) != 0) = false) (hx : ((x : Int) != 0) = false)  :
    Calls Tryz.prog 136 #[.agg #[.int .i64 kk, .int .i64 t, .int .i64 v, .int .i64 x]] w fun e w' => e = .returned (.bool (inB t 0 9999 && inB v 0 7 && inB x (-2147483648) 2147483647)) ∧ Below w.heap.size w w' := by
  have hkb : inB kk 0 9 = true := by simp [inB]; omega
  have HKB := Lib.hid hkb
  clear hkb
  have hb := ((Below.refl w.heap.size w).alloc (Nat.le_refl _) (.cells #[.int .i64 kk, .int .i64 t, .int .i64 v, .int .i64 x] 53)).alloc (by simp) (.cells #[.string kb, .bool false, .bool false] 168)
  cases ht : inB t 0 9999 with
  | false =>
    have HT := Lib.hid ht
    clear ht
    go_enter Tryz.func136, Tryz.ntmps136
    go_wp2_with fail
    refine (within_any _ _ _ _).mono ?_
    rintro e w1 ⟨rfl, rfl⟩
    rw [HKB.out]
    go_wp2_with fail
    refine (within_any _ _ _ _).mono ?_
    rintro e w1 ⟨rfl, rfl⟩
    rw [HT.out]
    go_wp2
    go_ret
    exact ⟨rfl, hb⟩
  | true =>
    have HT := Lib.hid ht
    clear ht
    cases hq : inB v 0 7 with
    | false =>
      have HQ := Lib.hid hq
      clear hq
      go_enter Tryz.func136, Tryz.ntmps136
      go_wp2_with fail
      refine (within_any _ _ _ _).mono ?_
      rintro e w1 ⟨rfl, rfl⟩
      rw [HKB.out]
      go_wp2_with fail
      refine (within_any _ _ _ _).mono ?_
      rintro e w1 ⟨rfl, rfl⟩
      rw [HT.out]
      go_wp2_with fail
      refine (within_any _ _ _ _).mono ?_
      rintro e w1 ⟨rfl, rfl⟩
      rw [HQ.out]
      go_wp2
      go_ret
      exact ⟨rfl, hb⟩
    | true =>
      have HQ := Lib.hid hq
      clear hq
      obtain ⟨bb, hbb⟩ : ∃ bb, bb = inB x (-2147483648) 2147483647 := ⟨_, rfl⟩
      rw [← hbb]
      have HB := Lib.hid hbb.symm
      clear hbb
      go_enter Tryz.func136, Tryz.ntmps136
      go_wp2_with fail
      refine (within_any _ _ _ _).mono ?_
      rintro e w1 ⟨rfl, rfl⟩
      rw [HKB.out]
      go_wp2_with fail
      refine (within_any _ _ _ _).mono ?_
      rintro e w1 ⟨rfl, rfl⟩
      rw [HT.out]
      go_wp2_with fail
      refine (within_any _ _ _ _).mono ?_
      rintro e w1 ⟨rfl, rfl⟩
      rw [HQ.out]
      go_wp2_with fail
      refine (within_any _ _ _ _).mono ?_
      rintro e w1 ⟨rfl, rfl⟩
      rw [HB.out]
      go_wp2
      go_ret
      exact ⟨ret_bool (by simp), hb⟩

set_option maxHeartbeats 1000000 in
theorem mayBe_0001 (kk : Nat) (t v x : Int) (kb : ByteArray) (w : World) (hk : kk < 10) (h0 : w.cell? ⟨0, kk * 3, none⟩ = some (.string kb)) (h1 : w.cell? ⟨0, kk * 3 + 1, none⟩ = some (.bool false)) (h2 : w.cell? ⟨0, kk * 3 + 2, none⟩ = some (.bool false)) (hg : 0 < w.heap.size) (hv : ((v : Int) != 0) = false) (hx : ((x : Int) != 0) = true)  :
    Calls Tryz.prog 136 #[.agg #[.int .i64 kk, .int .i64 t, .int .i64 v, .int .i64 x]] w fun e w' => e = .returned (.bool false) ∧ Below w.heap.size w w' := by
  have hkb : inB kk 0 9 = true := by simp [inB]; omega
  have HKB := Lib.hid hkb
  clear hkb
  have hb := ((Below.refl w.heap.size w).alloc (Nat.le_refl _) (.cells #[.int .i64 kk, .int .i64 t, .int .i64 v, .int .i64 x] 53)).alloc (by simp) (.cells #[.string kb, .bool false, .bool false] 168)
  go_enter Tryz.func136, Tryz.ntmps136
  go_wp2_with fail
  refine (within_any _ _ _ _).mono ?_
  rintro e w1 ⟨rfl, rfl⟩
  rw [HKB.out]
  go_wp2
  go_ret
  exact ⟨rfl, hb⟩

set_option maxHeartbeats 1000000 in
theorem mayBe_0010 (kk : Nat) (t v x : Int) (kb : ByteArray) (w : World) (hk : kk < 10) (h0 : w.cell? ⟨0, kk * 3, none⟩ = some (.string kb)) (h1 : w.cell? ⟨0, kk * 3 + 1, none⟩ = some (.bool false)) (h2 : w.cell? ⟨0, kk * 3 + 2, none⟩ = some (.bool false)) (hg : 0 < w.heap.size) (hv : ((v : Int) != 0) = true) (_ : ((x : Int) != 0) = false)  :
    Calls Tryz.prog 136 #[.agg #[.int .i64 kk, .int .i64 t, .int .i64 v, .int .i64 x]] w fun e w' => e = .returned (.bool false) ∧ Below w.heap.size w w' := by
  have hkb : inB kk 0 9 = true := by simp [inB]; omega
  have HKB := Lib.hid hkb
  clear hkb
  have hb := ((Below.refl w.heap.size w).alloc (Nat.le_refl _) (.cells #[.int .i64 kk, .int .i64 t, .int .i64 v, .int .i64 x] 53)).alloc (by simp) (.cells #[.string kb, .bool false, .bool false] 168)
  go_enter Tryz.func136, Tryz.ntmps136
  go_wp2_with fail
  refine (within_any _ _ _ _).mono ?_
  rintro e w1 ⟨rfl, rfl⟩
  rw [HKB.out]
  go_wp2
  go_ret
  exact ⟨rfl, hb⟩

set_option maxHeartbeats 1000000 in
theorem mayBe_0011 (kk : Nat) (t v x : Int) (kb : ByteArray) (w : World) (hk : kk < 10) (h0 : w.cell? ⟨0, kk * 3, none⟩ = some (.string kb)) (h1 : w.cell? ⟨0, kk * 3 + 1, none⟩ = some (.bool false)) (h2 : w.cell? ⟨0, kk * 3 + 2, none⟩ = some (.bool false)) (hg : 0 < w.heap.size) (hv : ((v : Int) != 0) = true) (_ : ((x : Int) != 0) = true)  :
    Calls Tryz.prog 136 #[.agg #[.int .i64 kk, .int .i64 t, .int .i64 v, .int .i64 x]] w fun e w' => e = .returned (.bool false) ∧ Below w.heap.size w w' := by
  have hkb : inB kk 0 9 = true := by simp [inB]; omega
  have HKB := Lib.hid hkb
  clear hkb
  have hb := ((Below.refl w.heap.size w).alloc (Nat.le_refl _) (.cells #[.int .i64 kk, .int .i64 t, .int .i64 v, .int .i64 x] 53)).alloc (by simp) (.cells #[.string kb, .bool false, .bool false] 168)
  go_enter Tryz.func136, Tryz.ntmps136
  go_wp2_with fail
  refine (within_any _ _ _ _).mono ?_
  rintro e w1 ⟨rfl, rfl⟩
  rw [HKB.out]
  go_wp2
  go_ret
  exact ⟨rfl, hb⟩

set_option maxHeartbeats 1000000 in
theorem mayBe_0100 (kk : Nat) (t v x : Int) (kb : ByteArray) (w : World) (hk : kk < 10) (h0 : w.cell? ⟨0, kk * 3, none⟩ = some (.string kb)) (h1 : w.cell? ⟨0, kk * 3 + 1, none⟩ = some (.bool false)) (h2 : w.cell? ⟨0, kk * 3 + 2, none⟩ = some (.bool true)) (hg : 0 < w.heap.size) (hv : ((v : Int) != 0) = false) (_ : ((x : Int) != 0) = false)  :
    Calls Tryz.prog 136 #[.agg #[.int .i64 kk, .int .i64 t, .int .i64 v, .int .i64 x]] w fun e w' => e = .returned (.bool (inB t 0 9999 && inB v 0 7 && inB x (-2147483648) 2147483647)) ∧ Below w.heap.size w w' := by
  have hkb : inB kk 0 9 = true := by simp [inB]; omega
  have HKB := Lib.hid hkb
  clear hkb
  have hb := ((Below.refl w.heap.size w).alloc (Nat.le_refl _) (.cells #[.int .i64 kk, .int .i64 t, .int .i64 v, .int .i64 x] 53)).alloc (by simp) (.cells #[.string kb, .bool false, .bool true] 168)
  cases ht : inB t 0 9999 with
  | false =>
    have HT := Lib.hid ht
    clear ht
    go_enter Tryz.func136, Tryz.ntmps136
    go_wp2_with fail
    refine (within_any _ _ _ _).mono ?_
    rintro e w1 ⟨rfl, rfl⟩
    rw [HKB.out]
    go_wp2_with fail
    refine (within_any _ _ _ _).mono ?_
    rintro e w1 ⟨rfl, rfl⟩
    rw [HT.out]
    go_wp2
    go_ret
    exact ⟨rfl, hb⟩
  | true =>
    have HT := Lib.hid ht
    clear ht
    cases hq : inB v 0 7 with
    | false =>
      have HQ := Lib.hid hq
      clear hq
      go_enter Tryz.func136, Tryz.ntmps136
      go_wp2_with fail
      refine (within_any _ _ _ _).mono ?_
      rintro e w1 ⟨rfl, rfl⟩
      rw [HKB.out]
      go_wp2_with fail
      refine (within_any _ _ _ _).mono ?_
      rintro e w1 ⟨rfl, rfl⟩
      rw [HT.out]
      go_wp2_with fail
      refine (within_any _ _ _ _).mono ?_
      rintro e w1 ⟨rfl, rfl⟩
      rw [HQ.out]
      go_wp2
      go_ret
      exact ⟨rfl, hb⟩
    | true =>
      have HQ := Lib.hid hq
      clear hq
      obtain ⟨bb, hbb⟩ : ∃ bb, bb = inB x (-2147483648) 2147483647 := ⟨_, rfl⟩
      rw [← hbb]
      have HB := Lib.hid hbb.symm
      clear hbb
      go_enter Tryz.func136, Tryz.ntmps136
      go_wp2_with fail
      refine (within_any _ _ _ _).mono ?_
      rintro e w1 ⟨rfl, rfl⟩
      rw [HKB.out]
      go_wp2_with fail
      refine (within_any _ _ _ _).mono ?_
      rintro e w1 ⟨rfl, rfl⟩
      rw [HT.out]
      go_wp2_with fail
      refine (within_any _ _ _ _).mono ?_
      rintro e w1 ⟨rfl, rfl⟩
      rw [HQ.out]
      go_wp2_with fail
      refine (within_any _ _ _ _).mono ?_
      rintro e w1 ⟨rfl, rfl⟩
      rw [HB.out]
      go_wp2
      go_ret
      exact ⟨ret_bool (by simp), hb⟩

set_option maxHeartbeats 1000000 in
theorem mayBe_0101 (kk : Nat) (t v x : Int) (kb : ByteArray) (w : World) (hk : kk < 10) (h0 : w.cell? ⟨0, kk * 3, none⟩ = some (.string kb)) (h1 : w.cell? ⟨0, kk * 3 + 1, none⟩ = some (.bool false)) (h2 : w.cell? ⟨0, kk * 3 + 2, none⟩ = some (.bool true)) (hg : 0 < w.heap.size) (hv : ((v : Int) != 0) = false) (_ : ((x : Int) != 0) = true)  :
    Calls Tryz.prog 136 #[.agg #[.int .i64 kk, .int .i64 t, .int .i64 v, .int .i64 x]] w fun e w' => e = .returned (.bool (inB t 0 9999 && inB v 0 7 && inB x (-2147483648) 2147483647)) ∧ Below w.heap.size w w' := by
  have hkb : inB kk 0 9 = true := by simp [inB]; omega
  have HKB := Lib.hid hkb
  clear hkb
  have hb := ((Below.refl w.heap.size w).alloc (Nat.le_refl _) (.cells #[.int .i64 kk, .int .i64 t, .int .i64 v, .int .i64 x] 53)).alloc (by simp) (.cells #[.string kb, .bool false, .bool true] 168)
  cases ht : inB t 0 9999 with
  | false =>
    have HT := Lib.hid ht
    clear ht
    go_enter Tryz.func136, Tryz.ntmps136
    go_wp2_with fail
    refine (within_any _ _ _ _).mono ?_
    rintro e w1 ⟨rfl, rfl⟩
    rw [HKB.out]
    go_wp2_with fail
    refine (within_any _ _ _ _).mono ?_
    rintro e w1 ⟨rfl, rfl⟩
    rw [HT.out]
    go_wp2
    go_ret
    exact ⟨rfl, hb⟩
  | true =>
    have HT := Lib.hid ht
    clear ht
    cases hq : inB v 0 7 with
    | false =>
      have HQ := Lib.hid hq
      clear hq
      go_enter Tryz.func136, Tryz.ntmps136
      go_wp2_with fail
      refine (within_any _ _ _ _).mono ?_
      rintro e w1 ⟨rfl, rfl⟩
      rw [HKB.out]
      go_wp2_with fail
      refine (within_any _ _ _ _).mono ?_
      rintro e w1 ⟨rfl, rfl⟩
      rw [HT.out]
      go_wp2_with fail
      refine (within_any _ _ _ _).mono ?_
      rintro e w1 ⟨rfl, rfl⟩
      rw [HQ.out]
      go_wp2
      go_ret
      exact ⟨rfl, hb⟩
    | true =>
      have HQ := Lib.hid hq
      clear hq
      obtain ⟨bb, hbb⟩ : ∃ bb, bb = inB x (-2147483648) 2147483647 := ⟨_, rfl⟩
      rw [← hbb]
      have HB := Lib.hid hbb.symm
      clear hbb
      go_enter Tryz.func136, Tryz.ntmps136
      go_wp2_with fail
      refine (within_any _ _ _ _).mono ?_
      rintro e w1 ⟨rfl, rfl⟩
      rw [HKB.out]
      go_wp2_with fail
      refine (within_any _ _ _ _).mono ?_
      rintro e w1 ⟨rfl, rfl⟩
      rw [HT.out]
      go_wp2_with fail
      refine (within_any _ _ _ _).mono ?_
      rintro e w1 ⟨rfl, rfl⟩
      rw [HQ.out]
      go_wp2_with fail
      refine (within_any _ _ _ _).mono ?_
      rintro e w1 ⟨rfl, rfl⟩
      rw [HB.out]
      go_wp2
      go_ret
      exact ⟨ret_bool (by simp), hb⟩

set_option maxHeartbeats 1000000 in
theorem mayBe_0110 (kk : Nat) (t v x : Int) (kb : ByteArray) (w : World) (hk : kk < 10) (h0 : w.cell? ⟨0, kk * 3, none⟩ = some (.string kb)) (h1 : w.cell? ⟨0, kk * 3 + 1, none⟩ = some (.bool false)) (h2 : w.cell? ⟨0, kk * 3 + 2, none⟩ = some (.bool true)) (hg : 0 < w.heap.size) (hv : ((v : Int) != 0) = true) (_ : ((x : Int) != 0) = false)  :
    Calls Tryz.prog 136 #[.agg #[.int .i64 kk, .int .i64 t, .int .i64 v, .int .i64 x]] w fun e w' => e = .returned (.bool false) ∧ Below w.heap.size w w' := by
  have hkb : inB kk 0 9 = true := by simp [inB]; omega
  have HKB := Lib.hid hkb
  clear hkb
  have hb := ((Below.refl w.heap.size w).alloc (Nat.le_refl _) (.cells #[.int .i64 kk, .int .i64 t, .int .i64 v, .int .i64 x] 53)).alloc (by simp) (.cells #[.string kb, .bool false, .bool true] 168)
  go_enter Tryz.func136, Tryz.ntmps136
  go_wp2_with fail
  refine (within_any _ _ _ _).mono ?_
  rintro e w1 ⟨rfl, rfl⟩
  rw [HKB.out]
  go_wp2
  go_ret
  exact ⟨rfl, hb⟩

set_option maxHeartbeats 1000000 in
theorem mayBe_0111 (kk : Nat) (t v x : Int) (kb : ByteArray) (w : World) (hk : kk < 10) (h0 : w.cell? ⟨0, kk * 3, none⟩ = some (.string kb)) (h1 : w.cell? ⟨0, kk * 3 + 1, none⟩ = some (.bool false)) (h2 : w.cell? ⟨0, kk * 3 + 2, none⟩ = some (.bool true)) (hg : 0 < w.heap.size) (hv : ((v : Int) != 0) = true) (_ : ((x : Int) != 0) = true)  :
    Calls Tryz.prog 136 #[.agg #[.int .i64 kk, .int .i64 t, .int .i64 v, .int .i64 x]] w fun e w' => e = .returned (.bool false) ∧ Below w.heap.size w w' := by
  have hkb : inB kk 0 9 = true := by simp [inB]; omega
  have HKB := Lib.hid hkb
  clear hkb
  have hb := ((Below.refl w.heap.size w).alloc (Nat.le_refl _) (.cells #[.int .i64 kk, .int .i64 t, .int .i64 v, .int .i64 x] 53)).alloc (by simp) (.cells #[.string kb, .bool false, .bool true] 168)
  go_enter Tryz.func136, Tryz.ntmps136
  go_wp2_with fail
  refine (within_any _ _ _ _).mono ?_
  rintro e w1 ⟨rfl, rfl⟩
  rw [HKB.out]
  go_wp2
  go_ret
  exact ⟨rfl, hb⟩

set_option maxHeartbeats 1000000 in
theorem mayBe_1000 (kk : Nat) (t v x : Int) (kb : ByteArray) (w : World) (hk : kk < 10) (h0 : w.cell? ⟨0, kk * 3, none⟩ = some (.string kb)) (h1 : w.cell? ⟨0, kk * 3 + 1, none⟩ = some (.bool true)) (h2 : w.cell? ⟨0, kk * 3 + 2, none⟩ = some (.bool false)) (hg : 0 < w.heap.size) (_ : ((v : Int) != 0) = false) (hx : ((x : Int) != 0) = false)  :
    Calls Tryz.prog 136 #[.agg #[.int .i64 kk, .int .i64 t, .int .i64 v, .int .i64 x]] w fun e w' => e = .returned (.bool (inB t 0 9999 && inB v 0 7 && inB x (-2147483648) 2147483647)) ∧ Below w.heap.size w w' := by
  have hkb : inB kk 0 9 = true := by simp [inB]; omega
  have HKB := Lib.hid hkb
  clear hkb
  have hb := ((Below.refl w.heap.size w).alloc (Nat.le_refl _) (.cells #[.int .i64 kk, .int .i64 t, .int .i64 v, .int .i64 x] 53)).alloc (by simp) (.cells #[.string kb, .bool true, .bool false] 168)
  cases ht : inB t 0 9999 with
  | false =>
    have HT := Lib.hid ht
    clear ht
    go_enter Tryz.func136, Tryz.ntmps136
    go_wp2_with fail
    refine (within_any _ _ _ _).mono ?_
    rintro e w1 ⟨rfl, rfl⟩
    rw [HKB.out]
    go_wp2_with fail
    refine (within_any _ _ _ _).mono ?_
    rintro e w1 ⟨rfl, rfl⟩
    rw [HT.out]
    go_wp2
    go_ret
    exact ⟨rfl, hb⟩
  | true =>
    have HT := Lib.hid ht
    clear ht
    cases hq : inB v 0 7 with
    | false =>
      have HQ := Lib.hid hq
      clear hq
      go_enter Tryz.func136, Tryz.ntmps136
      go_wp2_with fail
      refine (within_any _ _ _ _).mono ?_
      rintro e w1 ⟨rfl, rfl⟩
      rw [HKB.out]
      go_wp2_with fail
      refine (within_any _ _ _ _).mono ?_
      rintro e w1 ⟨rfl, rfl⟩
      rw [HT.out]
      go_wp2_with fail
      refine (within_any _ _ _ _).mono ?_
      rintro e w1 ⟨rfl, rfl⟩
      rw [HQ.out]
      go_wp2
      go_ret
      exact ⟨rfl, hb⟩
    | true =>
      have HQ := Lib.hid hq
      clear hq
      obtain ⟨bb, hbb⟩ : ∃ bb, bb = inB x (-2147483648) 2147483647 := ⟨_, rfl⟩
      rw [← hbb]
      have HB := Lib.hid hbb.symm
      clear hbb
      go_enter Tryz.func136, Tryz.ntmps136
      go_wp2_with fail
      refine (within_any _ _ _ _).mono ?_
      rintro e w1 ⟨rfl, rfl⟩
      rw [HKB.out]
      go_wp2_with fail
      refine (within_any _ _ _ _).mono ?_
      rintro e w1 ⟨rfl, rfl⟩
      rw [HT.out]
      go_wp2_with fail
      refine (within_any _ _ _ _).mono ?_
      rintro e w1 ⟨rfl, rfl⟩
      rw [HQ.out]
      go_wp2_with fail
      refine (within_any _ _ _ _).mono ?_
      rintro e w1 ⟨rfl, rfl⟩
      rw [HB.out]
      go_wp2
      go_ret
      exact ⟨ret_bool (by simp), hb⟩

set_option maxHeartbeats 1000000 in
theorem mayBe_1001 (kk : Nat) (t v x : Int) (kb : ByteArray) (w : World) (hk : kk < 10) (h0 : w.cell? ⟨0, kk * 3, none⟩ = some (.string kb)) (h1 : w.cell? ⟨0, kk * 3 + 1, none⟩ = some (.bool true)) (h2 : w.cell? ⟨0, kk * 3 + 2, none⟩ = some (.bool false)) (hg : 0 < w.heap.size) (_ : ((v : Int) != 0) = false) (hx : ((x : Int) != 0) = true)  :
    Calls Tryz.prog 136 #[.agg #[.int .i64 kk, .int .i64 t, .int .i64 v, .int .i64 x]] w fun e w' => e = .returned (.bool false) ∧ Below w.heap.size w w' := by
  have hkb : inB kk 0 9 = true := by simp [inB]; omega
  have HKB := Lib.hid hkb
  clear hkb
  have hb := ((Below.refl w.heap.size w).alloc (Nat.le_refl _) (.cells #[.int .i64 kk, .int .i64 t, .int .i64 v, .int .i64 x] 53)).alloc (by simp) (.cells #[.string kb, .bool true, .bool false] 168)
  go_enter Tryz.func136, Tryz.ntmps136
  go_wp2_with fail
  refine (within_any _ _ _ _).mono ?_
  rintro e w1 ⟨rfl, rfl⟩
  rw [HKB.out]
  go_wp2
  go_ret
  exact ⟨rfl, hb⟩

set_option maxHeartbeats 1000000 in
theorem mayBe_1010 (kk : Nat) (t v x : Int) (kb : ByteArray) (w : World) (hk : kk < 10) (h0 : w.cell? ⟨0, kk * 3, none⟩ = some (.string kb)) (h1 : w.cell? ⟨0, kk * 3 + 1, none⟩ = some (.bool true)) (h2 : w.cell? ⟨0, kk * 3 + 2, none⟩ = some (.bool false)) (hg : 0 < w.heap.size) (_ : ((v : Int) != 0) = true) (hx : ((x : Int) != 0) = false)  :
    Calls Tryz.prog 136 #[.agg #[.int .i64 kk, .int .i64 t, .int .i64 v, .int .i64 x]] w fun e w' => e = .returned (.bool (inB t 0 9999 && inB v 0 7 && inB x (-2147483648) 2147483647)) ∧ Below w.heap.size w w' := by
  have hkb : inB kk 0 9 = true := by simp [inB]; omega
  have HKB := Lib.hid hkb
  clear hkb
  have hb := ((Below.refl w.heap.size w).alloc (Nat.le_refl _) (.cells #[.int .i64 kk, .int .i64 t, .int .i64 v, .int .i64 x] 53)).alloc (by simp) (.cells #[.string kb, .bool true, .bool false] 168)
  cases ht : inB t 0 9999 with
  | false =>
    have HT := Lib.hid ht
    clear ht
    go_enter Tryz.func136, Tryz.ntmps136
    go_wp2_with fail
    refine (within_any _ _ _ _).mono ?_
    rintro e w1 ⟨rfl, rfl⟩
    rw [HKB.out]
    go_wp2_with fail
    refine (within_any _ _ _ _).mono ?_
    rintro e w1 ⟨rfl, rfl⟩
    rw [HT.out]
    go_wp2
    go_ret
    exact ⟨rfl, hb⟩
  | true =>
    have HT := Lib.hid ht
    clear ht
    cases hq : inB v 0 7 with
    | false =>
      have HQ := Lib.hid hq
      clear hq
      go_enter Tryz.func136, Tryz.ntmps136
      go_wp2_with fail
      refine (within_any _ _ _ _).mono ?_
      rintro e w1 ⟨rfl, rfl⟩
      rw [HKB.out]
      go_wp2_with fail
      refine (within_any _ _ _ _).mono ?_
      rintro e w1 ⟨rfl, rfl⟩
      rw [HT.out]
      go_wp2_with fail
      refine (within_any _ _ _ _).mono ?_
      rintro e w1 ⟨rfl, rfl⟩
      rw [HQ.out]
      go_wp2
      go_ret
      exact ⟨rfl, hb⟩
    | true =>
      have HQ := Lib.hid hq
      clear hq
      obtain ⟨bb, hbb⟩ : ∃ bb, bb = inB x (-2147483648) 2147483647 := ⟨_, rfl⟩
      rw [← hbb]
      have HB := Lib.hid hbb.symm
      clear hbb
      go_enter Tryz.func136, Tryz.ntmps136
      go_wp2_with fail
      refine (within_any _ _ _ _).mono ?_
      rintro e w1 ⟨rfl, rfl⟩
      rw [HKB.out]
      go_wp2_with fail
      refine (within_any _ _ _ _).mono ?_
      rintro e w1 ⟨rfl, rfl⟩
      rw [HT.out]
      go_wp2_with fail
      refine (within_any _ _ _ _).mono ?_
      rintro e w1 ⟨rfl, rfl⟩
      rw [HQ.out]
      go_wp2_with fail
      refine (within_any _ _ _ _).mono ?_
      rintro e w1 ⟨rfl, rfl⟩
      rw [HB.out]
      go_wp2
      go_ret
      exact ⟨ret_bool (by simp), hb⟩

set_option maxHeartbeats 1000000 in
theorem mayBe_1011 (kk : Nat) (t v x : Int) (kb : ByteArray) (w : World) (hk : kk < 10) (h0 : w.cell? ⟨0, kk * 3, none⟩ = some (.string kb)) (h1 : w.cell? ⟨0, kk * 3 + 1, none⟩ = some (.bool true)) (h2 : w.cell? ⟨0, kk * 3 + 2, none⟩ = some (.bool false)) (hg : 0 < w.heap.size) (_ : ((v : Int) != 0) = true) (hx : ((x : Int) != 0) = true)  :
    Calls Tryz.prog 136 #[.agg #[.int .i64 kk, .int .i64 t, .int .i64 v, .int .i64 x]] w fun e w' => e = .returned (.bool false) ∧ Below w.heap.size w w' := by
  have hkb : inB kk 0 9 = true := by simp [inB]; omega
  have HKB := Lib.hid hkb
  clear hkb
  have hb := ((Below.refl w.heap.size w).alloc (Nat.le_refl _) (.cells #[.int .i64 kk, .int .i64 t, .int .i64 v, .int .i64 x] 53)).alloc (by simp) (.cells #[.string kb, .bool true, .bool false] 168)
  go_enter Tryz.func136, Tryz.ntmps136
  go_wp2_with fail
  refine (within_any _ _ _ _).mono ?_
  rintro e w1 ⟨rfl, rfl⟩
  rw [HKB.out]
  go_wp2
  go_ret
  exact ⟨rfl, hb⟩

set_option maxHeartbeats 1000000 in
theorem mayBe_1100 (kk : Nat) (t v x : Int) (kb : ByteArray) (w : World) (hk : kk < 10) (h0 : w.cell? ⟨0, kk * 3, none⟩ = some (.string kb)) (h1 : w.cell? ⟨0, kk * 3 + 1, none⟩ = some (.bool true)) (h2 : w.cell? ⟨0, kk * 3 + 2, none⟩ = some (.bool true)) (hg : 0 < w.heap.size) (_ : ((v : Int) != 0) = false) (_ : ((x : Int) != 0) = false)  :
    Calls Tryz.prog 136 #[.agg #[.int .i64 kk, .int .i64 t, .int .i64 v, .int .i64 x]] w fun e w' => e = .returned (.bool (inB t 0 9999 && inB v 0 7 && inB x (-2147483648) 2147483647)) ∧ Below w.heap.size w w' := by
  have hkb : inB kk 0 9 = true := by simp [inB]; omega
  have HKB := Lib.hid hkb
  clear hkb
  have hb := ((Below.refl w.heap.size w).alloc (Nat.le_refl _) (.cells #[.int .i64 kk, .int .i64 t, .int .i64 v, .int .i64 x] 53)).alloc (by simp) (.cells #[.string kb, .bool true, .bool true] 168)
  cases ht : inB t 0 9999 with
  | false =>
    have HT := Lib.hid ht
    clear ht
    go_enter Tryz.func136, Tryz.ntmps136
    go_wp2_with fail
    refine (within_any _ _ _ _).mono ?_
    rintro e w1 ⟨rfl, rfl⟩
    rw [HKB.out]
    go_wp2_with fail
    refine (within_any _ _ _ _).mono ?_
    rintro e w1 ⟨rfl, rfl⟩
    rw [HT.out]
    go_wp2
    go_ret
    exact ⟨rfl, hb⟩
  | true =>
    have HT := Lib.hid ht
    clear ht
    cases hq : inB v 0 7 with
    | false =>
      have HQ := Lib.hid hq
      clear hq
      go_enter Tryz.func136, Tryz.ntmps136
      go_wp2_with fail
      refine (within_any _ _ _ _).mono ?_
      rintro e w1 ⟨rfl, rfl⟩
      rw [HKB.out]
      go_wp2_with fail
      refine (within_any _ _ _ _).mono ?_
      rintro e w1 ⟨rfl, rfl⟩
      rw [HT.out]
      go_wp2_with fail
      refine (within_any _ _ _ _).mono ?_
      rintro e w1 ⟨rfl, rfl⟩
      rw [HQ.out]
      go_wp2
      go_ret
      exact ⟨rfl, hb⟩
    | true =>
      have HQ := Lib.hid hq
      clear hq
      obtain ⟨bb, hbb⟩ : ∃ bb, bb = inB x (-2147483648) 2147483647 := ⟨_, rfl⟩
      rw [← hbb]
      have HB := Lib.hid hbb.symm
      clear hbb
      go_enter Tryz.func136, Tryz.ntmps136
      go_wp2_with fail
      refine (within_any _ _ _ _).mono ?_
      rintro e w1 ⟨rfl, rfl⟩
      rw [HKB.out]
      go_wp2_with fail
      refine (within_any _ _ _ _).mono ?_
      rintro e w1 ⟨rfl, rfl⟩
      rw [HT.out]
      go_wp2_with fail
      refine (within_any _ _ _ _).mono ?_
      rintro e w1 ⟨rfl, rfl⟩
      rw [HQ.out]
      go_wp2_with fail
      refine (within_any _ _ _ _).mono ?_
      rintro e w1 ⟨rfl, rfl⟩
      rw [HB.out]
      go_wp2
      go_ret
      exact ⟨ret_bool (by simp), hb⟩

set_option maxHeartbeats 1000000 in
theorem mayBe_1101 (kk : Nat) (t v x : Int) (kb : ByteArray) (w : World) (hk : kk < 10) (h0 : w.cell? ⟨0, kk * 3, none⟩ = some (.string kb)) (h1 : w.cell? ⟨0, kk * 3 + 1, none⟩ = some (.bool true)) (h2 : w.cell? ⟨0, kk * 3 + 2, none⟩ = some (.bool true)) (hg : 0 < w.heap.size) (_ : ((v : Int) != 0) = false) (_ : ((x : Int) != 0) = true)  :
    Calls Tryz.prog 136 #[.agg #[.int .i64 kk, .int .i64 t, .int .i64 v, .int .i64 x]] w fun e w' => e = .returned (.bool (inB t 0 9999 && inB v 0 7 && inB x (-2147483648) 2147483647)) ∧ Below w.heap.size w w' := by
  have hkb : inB kk 0 9 = true := by simp [inB]; omega
  have HKB := Lib.hid hkb
  clear hkb
  have hb := ((Below.refl w.heap.size w).alloc (Nat.le_refl _) (.cells #[.int .i64 kk, .int .i64 t, .int .i64 v, .int .i64 x] 53)).alloc (by simp) (.cells #[.string kb, .bool true, .bool true] 168)
  cases ht : inB t 0 9999 with
  | false =>
    have HT := Lib.hid ht
    clear ht
    go_enter Tryz.func136, Tryz.ntmps136
    go_wp2_with fail
    refine (within_any _ _ _ _).mono ?_
    rintro e w1 ⟨rfl, rfl⟩
    rw [HKB.out]
    go_wp2_with fail
    refine (within_any _ _ _ _).mono ?_
    rintro e w1 ⟨rfl, rfl⟩
    rw [HT.out]
    go_wp2
    go_ret
    exact ⟨rfl, hb⟩
  | true =>
    have HT := Lib.hid ht
    clear ht
    cases hq : inB v 0 7 with
    | false =>
      have HQ := Lib.hid hq
      clear hq
      go_enter Tryz.func136, Tryz.ntmps136
      go_wp2_with fail
      refine (within_any _ _ _ _).mono ?_
      rintro e w1 ⟨rfl, rfl⟩
      rw [HKB.out]
      go_wp2_with fail
      refine (within_any _ _ _ _).mono ?_
      rintro e w1 ⟨rfl, rfl⟩
      rw [HT.out]
      go_wp2_with fail
      refine (within_any _ _ _ _).mono ?_
      rintro e w1 ⟨rfl, rfl⟩
      rw [HQ.out]
      go_wp2
      go_ret
      exact ⟨rfl, hb⟩
    | true =>
      have HQ := Lib.hid hq
      clear hq
      obtain ⟨bb, hbb⟩ : ∃ bb, bb = inB x (-2147483648) 2147483647 := ⟨_, rfl⟩
      rw [← hbb]
      have HB := Lib.hid hbb.symm
      clear hbb
      go_enter Tryz.func136, Tryz.ntmps136
      go_wp2_with fail
      refine (within_any _ _ _ _).mono ?_
      rintro e w1 ⟨rfl, rfl⟩
      rw [HKB.out]
      go_wp2_with fail
      refine (within_any _ _ _ _).mono ?_
      rintro e w1 ⟨rfl, rfl⟩
      rw [HT.out]
      go_wp2_with fail
      refine (within_any _ _ _ _).mono ?_
      rintro e w1 ⟨rfl, rfl⟩
      rw [HQ.out]
      go_wp2_with fail
      refine (within_any _ _ _ _).mono ?_
      rintro e w1 ⟨rfl, rfl⟩
      rw [HB.out]
      go_wp2
      go_ret
      exact ⟨ret_bool (by simp), hb⟩

set_option maxHeartbeats 1000000 in
theorem mayBe_1110 (kk : Nat) (t v x : Int) (kb : ByteArray) (w : World) (hk : kk < 10) (h0 : w.cell? ⟨0, kk * 3, none⟩ = some (.string kb)) (h1 : w.cell? ⟨0, kk * 3 + 1, none⟩ = some (.bool true)) (h2 : w.cell? ⟨0, kk * 3 + 2, none⟩ = some (.bool true)) (hg : 0 < w.heap.size) (_ : ((v : Int) != 0) = true) (_ : ((x : Int) != 0) = false)  :
    Calls Tryz.prog 136 #[.agg #[.int .i64 kk, .int .i64 t, .int .i64 v, .int .i64 x]] w fun e w' => e = .returned (.bool (inB t 0 9999 && inB v 0 7 && inB x (-2147483648) 2147483647)) ∧ Below w.heap.size w w' := by
  have hkb : inB kk 0 9 = true := by simp [inB]; omega
  have HKB := Lib.hid hkb
  clear hkb
  have hb := ((Below.refl w.heap.size w).alloc (Nat.le_refl _) (.cells #[.int .i64 kk, .int .i64 t, .int .i64 v, .int .i64 x] 53)).alloc (by simp) (.cells #[.string kb, .bool true, .bool true] 168)
  cases ht : inB t 0 9999 with
  | false =>
    have HT := Lib.hid ht
    clear ht
    go_enter Tryz.func136, Tryz.ntmps136
    go_wp2_with fail
    refine (within_any _ _ _ _).mono ?_
    rintro e w1 ⟨rfl, rfl⟩
    rw [HKB.out]
    go_wp2_with fail
    refine (within_any _ _ _ _).mono ?_
    rintro e w1 ⟨rfl, rfl⟩
    rw [HT.out]
    go_wp2
    go_ret
    exact ⟨rfl, hb⟩
  | true =>
    have HT := Lib.hid ht
    clear ht
    cases hq : inB v 0 7 with
    | false =>
      have HQ := Lib.hid hq
      clear hq
      go_enter Tryz.func136, Tryz.ntmps136
      go_wp2_with fail
      refine (within_any _ _ _ _).mono ?_
      rintro e w1 ⟨rfl, rfl⟩
      rw [HKB.out]
      go_wp2_with fail
      refine (within_any _ _ _ _).mono ?_
      rintro e w1 ⟨rfl, rfl⟩
      rw [HT.out]
      go_wp2_with fail
      refine (within_any _ _ _ _).mono ?_
      rintro e w1 ⟨rfl, rfl⟩
      rw [HQ.out]
      go_wp2
      go_ret
      exact ⟨rfl, hb⟩
    | true =>
      have HQ := Lib.hid hq
      clear hq
      obtain ⟨bb, hbb⟩ : ∃ bb, bb = inB x (-2147483648) 2147483647 := ⟨_, rfl⟩
      rw [← hbb]
      have HB := Lib.hid hbb.symm
      clear hbb
      go_enter Tryz.func136, Tryz.ntmps136
      go_wp2_with fail
      refine (within_any _ _ _ _).mono ?_
      rintro e w1 ⟨rfl, rfl⟩
      rw [HKB.out]
      go_wp2_with fail
      refine (within_any _ _ _ _).mono ?_
      rintro e w1 ⟨rfl, rfl⟩
      rw [HT.out]
      go_wp2_with fail
      refine (within_any _ _ _ _).mono ?_
      rintro e w1 ⟨rfl, rfl⟩
      rw [HQ.out]
      go_wp2_with fail
      refine (within_any _ _ _ _).mono ?_
      rintro e w1 ⟨rfl, rfl⟩
      rw [HB.out]
      go_wp2
      go_ret
      exact ⟨ret_bool (by simp), hb⟩

set_option maxHeartbeats 1000000 in
theorem mayBe_1111 (kk : Nat) (t v x : Int) (kb : ByteArray) (w : World) (hk : kk < 10) (h0 : w.cell? ⟨0, kk * 3, none⟩ = some (.string kb)) (h1 : w.cell? ⟨0, kk * 3 + 1, none⟩ = some (.bool true)) (h2 : w.cell? ⟨0, kk * 3 + 2, none⟩ = some (.bool true)) (hg : 0 < w.heap.size) (_ : ((v : Int) != 0) = true) (_ : ((x : Int) != 0) = true)  :
    Calls Tryz.prog 136 #[.agg #[.int .i64 kk, .int .i64 t, .int .i64 v, .int .i64 x]] w fun e w' => e = .returned (.bool (inB t 0 9999 && inB v 0 7 && inB x (-2147483648) 2147483647)) ∧ Below w.heap.size w w' := by
  have hkb : inB kk 0 9 = true := by simp [inB]; omega
  have HKB := Lib.hid hkb
  clear hkb
  have hb := ((Below.refl w.heap.size w).alloc (Nat.le_refl _) (.cells #[.int .i64 kk, .int .i64 t, .int .i64 v, .int .i64 x] 53)).alloc (by simp) (.cells #[.string kb, .bool true, .bool true] 168)
  cases ht : inB t 0 9999 with
  | false =>
    have HT := Lib.hid ht
    clear ht
    go_enter Tryz.func136, Tryz.ntmps136
    go_wp2_with fail
    refine (within_any _ _ _ _).mono ?_
    rintro e w1 ⟨rfl, rfl⟩
    rw [HKB.out]
    go_wp2_with fail
    refine (within_any _ _ _ _).mono ?_
    rintro e w1 ⟨rfl, rfl⟩
    rw [HT.out]
    go_wp2
    go_ret
    exact ⟨rfl, hb⟩
  | true =>
    have HT := Lib.hid ht
    clear ht
    cases hq : inB v 0 7 with
    | false =>
      have HQ := Lib.hid hq
      clear hq
      go_enter Tryz.func136, Tryz.ntmps136
      go_wp2_with fail
      refine (within_any _ _ _ _).mono ?_
      rintro e w1 ⟨rfl, rfl⟩
      rw [HKB.out]
      go_wp2_with fail
      refine (within_any _ _ _ _).mono ?_
      rintro e w1 ⟨rfl, rfl⟩
      rw [HT.out]
      go_wp2_with fail
      refine (within_any _ _ _ _).mono ?_
      rintro e w1 ⟨rfl, rfl⟩
      rw [HQ.out]
      go_wp2
      go_ret
      exact ⟨rfl, hb⟩
    | true =>
      have HQ := Lib.hid hq
      clear hq
      obtain ⟨bb, hbb⟩ : ∃ bb, bb = inB x (-2147483648) 2147483647 := ⟨_, rfl⟩
      rw [← hbb]
      have HB := Lib.hid hbb.symm
      clear hbb
      go_enter Tryz.func136, Tryz.ntmps136
      go_wp2_with fail
      refine (within_any _ _ _ _).mono ?_
      rintro e w1 ⟨rfl, rfl⟩
      rw [HKB.out]
      go_wp2_with fail
      refine (within_any _ _ _ _).mono ?_
      rintro e w1 ⟨rfl, rfl⟩
      rw [HT.out]
      go_wp2_with fail
      refine (within_any _ _ _ _).mono ?_
      rintro e w1 ⟨rfl, rfl⟩
      rw [HQ.out]
      go_wp2_with fail
      refine (within_any _ _ _ _).mono ?_
      rintro e w1 ⟨rfl, rfl⟩
      rw [HB.out]
      go_wp2
      go_ret
      exact ⟨ret_bool (by simp), hb⟩

theorem mayBe_any (e : Ev) (w : World) (hK : HasK w) :
    Calls Tryz.prog 136 #[evVal e] w fun en w' => en = .returned (.bool (evOk e)) ∧ Below w.heap.size w w' := by
  obtain ⟨k, t, v, x⟩ := e
  unfold evVal evOk
  simp only []
  cases hk : inB k 0 9 with
  | false => exact mayBe_out k t v x w hk
  | true =>
    have hk' : 0 ≤ k ∧ k ≤ 9 := by simpa [inB] using hk
    obtain ⟨kk, rfl⟩ : ∃ kk : Nat, k = (kk : Int) := ⟨k.toNat, by omega⟩
    have hkk : kk < 10 := by omega
    have h0 := hK.word hkk
    have h1 := hK.hasV hkk
    have h2 := hK.hasX hkk
    have hg := hK.lt
    rw [Int.toNat_natCast]
    have ev : (v == 0) = !((v : Int) != 0) := by show (v == 0) = !!(v == 0); rw [Bool.not_not]
    have ex : (x == 0) = !((x : Int) != 0) := by show (x == 0) = !!(x == 0); rw [Bool.not_not]
    rw [ev, ex]
    cases hbv : hasV kk <;> cases hbx : hasX kk <;> cases hv : ((v : Int) != 0) <;> cases hx : ((x : Int) != 0)
    all_goals
      rw [hbv] at h1
      rw [hbx] at h2
    · exact mayBe_0000 kk t v x _ w hkk h0 h1 h2 hg hv hx
    · exact mayBe_0001 kk t v x _ w hkk h0 h1 h2 hg hv hx
    · exact mayBe_0010 kk t v x _ w hkk h0 h1 h2 hg hv hx
    · exact mayBe_0011 kk t v x _ w hkk h0 h1 h2 hg hv hx
    · exact mayBe_0100 kk t v x _ w hkk h0 h1 h2 hg hv hx
    · exact mayBe_0101 kk t v x _ w hkk h0 h1 h2 hg hv hx
    · exact mayBe_0110 kk t v x _ w hkk h0 h1 h2 hg hv hx
    · exact mayBe_0111 kk t v x _ w hkk h0 h1 h2 hg hv hx
    · exact mayBe_1000 kk t v x _ w hkk h0 h1 h2 hg hv hx
    · exact mayBe_1001 kk t v x _ w hkk h0 h1 h2 hg hv hx
    · exact mayBe_1010 kk t v x _ w hkk h0 h1 h2 hg hv hx
    · exact mayBe_1011 kk t v x _ w hkk h0 h1 h2 hg hv hx
    · exact mayBe_1100 kk t v x _ w hkk h0 h1 h2 hg hv hx
    · exact mayBe_1101 kk t v x _ w hkk h0 h1 h2 hg hv hx
    · exact mayBe_1110 kk t v x _ w hkk h0 h1 h2 hg hv hx
    · exact mayBe_1111 kk t v x _ w hkk h0 h1 h2 hg hv hx

set_option maxHeartbeats 1000000 in
theorem right_any (v : Value) (h : List Ev) (w : World) (hK : HasK w) (hv : Evs w v h) (hl : h.length ≤ 65536) :
    Calls Tryz.prog 133 #[v] w fun e w' => e = .returned (.bool (right h)) ∧ Below w.heap.size w w' := by
  have HV := Lib.hid hv
  have HK := Lib.hid hK
  obtain ⟨a, c, rfl⟩ := hv.len
  clear hv hK
  have hb0 := Below.refl w.heap.size w
  unfold right
  by_cases h60 : h.length ≤ 60
  · have t60 : decide ((60 : Int) < (h.length : Int)) = false := by simp; omega
    rw [decide_eq_true h60]
    obtain ⟨ok, hok⟩ : ∃ ok, ok = (true && h.all evOk && decide ((namesOf h).length ≤ 6)) := ⟨_, rfl⟩
    rw [← hok]
    have HOK := Lib.hid hok
    clear hok
    go_enter Tryz.func133, Tryz.ntmps133
    go_wp2_with fail
    go_loopw [10] (fun x wr => ∃ k : Nat, k ≤ h.length ∧ x = .int .i64 k ∧ Hid ((h.take k).all evOk = true) ∧ Below w.heap.size w wr) (fun x _ => h.length - (intOf x).toNat)
    case atStart => exact ⟨0, by omega, rfl, rfl, hb0⟩
    case round =>
      clear hb0
      obtain ⟨k, hk, rfl, HA, hb⟩ := hrel
      by_cases hlt : k < h.length
      · have hv2 := HV.out.below hb (Nat.le_refl _)
        have hbs := hb.size
        rcases hv2 with ⟨e0, _⟩ | ⟨l0, b, o, c', he, hbl, hc⟩
        · rw [e0] at hlt; simp at hlt
        · obtain ⟨rfl, rfl⟩ : a = some ⟨b, o, none⟩ ∧ c = c' := by simpa using he
          clear he
          obtain ⟨c0, c1, c2, c3⟩ := hc k hlt
          clear hc
          have hk2 := HK.out.later (hb.alloc hb.size (.cells #[.int .i64 h[k].k, .int .i64 h[k].t, .int .i64 h[k].v, .int .i64 h[k].x] 53)) (Nat.le_refl _)
          have HK2 := Lib.hid hk2
          clear hk2
          have hsn : h.take (k + 1) = h.take k ++ [h[k]] := List.take_succ_eq_append_getElem hlt
          have hmem : h[k] ∈ h := List.getElem_mem _
          have HMB := Lib.hid (mayBe_any h[k] _ HK2.out)
          clear HK2
          cases hev : evOk h[k] with
          | true =>
            have HEV := Lib.hid hev
            have HA2 : Hid ((h.take (k + 1)).all evOk = true) := by unfold Hid; rw [hsn, List.all_append, HA.out]; simp [hev]
            clear hev hsn hmem
            generalize h[k] = ev at *
            go_wp2_with fail
            refine HMB.out.mono ?_
            rintro e w2 ⟨rfl, hb2⟩
            rw [HEV.out]
            have hb3 := (hb.alloc hb.size (.cells #[.int .i64 ev.k, .int .i64 ev.t, .int .i64 ev.v, .int .i64 ev.x] 53)).trans (hb2.mono (by simp; omega))
            clear hb2 hb
            go_wp2
            go_roundw
            case rel => exact ⟨k + 1, by omega, by go_num, HA2, hb3⟩
            case measure => simp [intOf]; omega
          | false =>
            have HEV := Lib.hid hev
            have HF : Hid (ok = false) := by
              unfold Hid
              rw [HOK.out]
              have : h.all evOk = false := by
                cases hq : h.all evOk with
                | false => rfl
                | true => rw [List.all_eq_true] at hq; rw [hq _ hmem] at hev; simp at hev
              rw [this]; rfl
            clear hev hsn hmem
            generalize h[k] = ev at *
            go_wp2_with fail
            refine HMB.out.mono ?_
            rintro e w2 ⟨rfl, hb2⟩
            rw [HEV.out]
            have hb3 := (hb.alloc hb.size (.cells #[.int .i64 ev.k, .int .i64 ev.t, .int .i64 ev.v, .int .i64 ev.x] 53)).trans (hb2.mono (by simp; omega))
            clear hb2 hb
            go_wp2
            go_ret
            exact ⟨by rw [HF.out]; rfl, hb3⟩
      · obtain rfl : k = h.length := by omega
        rw [List.take_length] at HA
        have hE : Hid (ok = decide ((namesOf h).length ≤ 6)) := by unfold Hid; rw [HOK.out, HA.out]; simp
        have hv2 := HV.out.below hb (Nat.le_refl _)
        have HV2 := Lib.hid hv2
        clear hv2
        have hnl := namesOf_len h
        go_wp2_with fail
        refine (names_any _ h _ HV2.out hl).mono ?_
        rintro e w2 ⟨v', rfl, hy, hb2⟩
        obtain ⟨ya, yc, rfl⟩ := row_slice hy
        have hb3 := hb.trans (hb2.mono hb.size)
        clear hy hb2 hb
        generalize (namesOf h).length = nn at *
        go_wp2
        go_ret
        exact ⟨by rw [hE.out]; exact ret_bool (by simp; omega), hb3⟩
  · have t60 : (60 : Int) < (h.length : Int) := by omega
    rw [decide_eq_false h60]
    go_enter Tryz.func133, Tryz.ntmps133
    go_wp2
    go_ret
    exact ⟨rfl, hb0⟩
end Go.Proofs.YtmnblljenobofaaGreatDoor
