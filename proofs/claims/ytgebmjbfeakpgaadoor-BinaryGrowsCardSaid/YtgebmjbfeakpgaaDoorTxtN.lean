/- The walks of package text's numberWord and eventWords. -/
import Derived.Test.YtgebmjbfeakpgaaDoorKitD
import Derived.Test.YtgebmjbfeakpgaaDoorPow
import Derived.Deep.RegionWith
import Derived.RegionTactic
namespace Go.Proofs.YtgebmjbfeakpgaaDoor.WPlain
end Go.Proofs.YtgebmjbfeakpgaaDoor.WPlain
namespace Go.Proofs.YtgebmjbfeakpgaaDoor
open Go.RowKit WPlain

/-- the library's table of powers lies in its variable -/
def HasP (w : World) : Prop := Lib.TabIs Tryd.prog w "internal/strconv.uint64pow10" .u64 Lib.pow10Tab
theorem HasP.later {w w' : World} {B : Nat} (h : HasP w) (hb : Below B w w') (hB : w.heap.size ≤ B) : HasP w' := TabIs.later h hb hB
def itoaB (n : Int) : ByteArray := ⟨(Lib.itoa n).toArray⟩

theorem numberWord_any (n : Int) (w : World) (h1 : -2147483648 ≤ n) (h2 : n ≤ 2147483647) (hp : HasP w) :
    Calls Tryd.prog 55 #[.int .i64 n] w fun e w' => e = .returned (.string (itoaB n)) ∧ Below w.heap.size w w' := by
  have HT := Lib.hid (text_yes n w h1 h2 hp)
  clear hp
  go_enter Tryd.func55, Tryd.ntmps55
  go_wp2_with fail
  refine HT.out.mono ?_
  rintro e w' ⟨rfl, hb⟩
  go_wp2
  go_ret
  exact ⟨rfl, hb⟩
def NumWord (w : World) (n : Int) : Prop := ∀ w', Below w.heap.size w w' → Calls Tryd.prog 55 #[.int .i64 n] w' fun e w2 => e = .returned (.string (itoaB n)) ∧ Below w'.heap.size w' w2
theorem numWord (w : World) (n : Int) (h1 : -2147483648 ≤ n) (h2 : n ≤ 2147483647) (hp : HasP w) : NumWord w n := fun _ hb => numberWord_any n _ h1 h2 (hp.later hb (Nat.le_refl _))

/-- two blocks of the call's own -/
def Ew (w w' : World) (A B : Array Value) : Prop := At w' w.heap.size A 42 ∧ At w' (w.heap.size + 1) B 91 ∧ Below w.heap.size w w'
theorem Ew.start (w : World) (A B : Array Value) : Ew w ((w.alloc (.cells A 42)).alloc (.cells B 91)) A B := by
  have hR := At.new (w.alloc (.cells A 42)) B 91
  simp only [World.size_alloc] at hR
  exact ⟨(At.new w A 42).alloc _, hR, ((Below.refl w.heap.size w).alloc (Nat.le_refl _) _).alloc (by simp) _⟩
theorem Ew.call {w w1 w2 : World} {A B : Array Value} (h : Ew w w1 A B) (hb : Below w1.heap.size w1 w2) : Ew w w2 A B :=
  ⟨h.1.below hb h.1.lt, h.2.1.below hb h.2.1.lt, h.2.2.trans (hb.mono h.2.2.size)⟩
theorem Ew.drew {w w1 : World} {A B : Array Value} (h : Ew w w1 A B) : Ew w w1.drew A B := ⟨h.1.drew, h.2.1.drew, h.2.2.drew⟩
theorem Ew.alloc {w w1 : World} {A B : Array Value} (h : Ew w w1 A B) (o : Obj) : Ew w (w1.alloc o) A B := ⟨h.1.alloc o, h.2.1.alloc o, h.2.2.alloc h.2.2.size o⟩

theorem Ew.grown {w w1 w2 : World} {A B : Array Value} {v : Value} {n : Nat} {xs : List Value} {base : Nat} (h : Ew w w1 A B) (hr : w1.ownsRow base 9 1 v n xs) (hbase : w.heap.size ≤ base) (hg : w1.grownBy w2 v.ownBlock) : Ew w w2 A B :=
  ⟨h.1.grown hg (Ne.symm (row_not hr h.1 (by decide))), h.2.1.grown hg (Ne.symm (row_not hr h.2.1 (by decide))), h.2.2.grown hg h.2.2.size (fun k hk => Nat.le_trans hbase (hr.lt k hk).1)⟩
theorem row_built (w : World) (a b : Value) (t : TypeId) (base : Nat) (h : base ≤ w.heap.size) : (w.alloc (.cells #[a, b] t)).ownsRow base t 1 (.slice (some ⟨w.heap.size, 0, none⟩) 2 2) 2 [a, b] :=
  ⟨rfl, .inr ⟨w.heap.size, 2, #[a, b], rfl, h, heap_alloc_new w _, Nat.le_refl _, by unfold maxLen; omega, rfl, rfl⟩⟩

set_option maxHeartbeats 4000000 in
theorem eventWords_00 (kk : Nat) (t v x : Int) (kb : ByteArray) (w : World) (hk : kk < 10) (h0 : w.cell? ⟨0, kk * 3, none⟩ = some (.string kb)) (h1 : w.cell? ⟨0, kk * 3 + 1, none⟩ = some (.bool false)) (h2 : w.cell? ⟨0, kk * 3 + 2, none⟩ = some (.bool false)) (hg : 0 < w.heap.size) (HT : Hid (NumWord w t)) :
    Calls Tryd.prog 35 #[.agg #[.int .i64 kk, .int .i64 t, .int .i64 v, .int .i64 x]] w fun e w' => ∃ v', e = .returned v' ∧ w'.ownsRow w.heap.size 9 1 v' 2 [.string kb, .string (itoaB t)] ∧ Below w.heap.size w w' := by
  obtain ⟨i0, hi0, hz0, hz1, hz2⟩ := info_parts info9
  have hS := (Ew.start w #[.int .i64 kk, .int .i64 t, .int .i64 v, .int .i64 x] #[.string kb, .bool false, .bool false])
  go_enter Tryd.func35, Tryd.ntmps35
  go_wp2_with fail
  generalize (w.alloc (.cells #[.int .i64 kk, .int .i64 t, .int .i64 v, .int .i64 x] 42)).alloc (.cells #[.string kb, .bool false, .bool false] 91) = w1 at *
  have hA1 := hS.1.cell (i := 1) rfl
  have hB0 := hS.2.1.cell (i := 0) rfl
  go_region_with (refine (HT.out _ hS.drew.2.2).mono ?_; rintro e w2 ⟨rfl, hb2⟩; have hS2 := hS.drew.call hb2; have hA1' := hS2.1.cell (i := 1) rfl; have hB0' := hS2.2.1.cell (i := 0) rfl)
  all_goals
    have hO := row_built w2 (.string kb) (.string (itoaB t)) 9 w.heap.size hS2.2.2.size
    have hS3 := hS2.alloc (.cells #[.string kb, .string (itoaB t)] 9)
    generalize w2.heap.size = N at *
    generalize w2.alloc (.cells #[.string kb, .string (itoaB t)] 9) = w3 at *
    clear hA1 hB0 hA1' hB0' h0 h1 h2
    have hB1 := hS3.2.1.cell (i := 1) rfl
    have hB2 := hS3.2.1.cell (i := 2) rfl
    go_wp2
    go_ret
    exact ⟨_, rfl, hO, hS3.2.2⟩

set_option maxHeartbeats 4000000 in
theorem eventWords_01 (kk : Nat) (t v x : Int) (kb : ByteArray) (w : World) (hk : kk < 10) (h0 : w.cell? ⟨0, kk * 3, none⟩ = some (.string kb)) (h1 : w.cell? ⟨0, kk * 3 + 1, none⟩ = some (.bool false)) (h2 : w.cell? ⟨0, kk * 3 + 2, none⟩ = some (.bool true)) (hg : 0 < w.heap.size) (HT : Hid (NumWord w t)) (HX : Hid (NumWord w x)) :
    Calls Tryd.prog 35 #[.agg #[.int .i64 kk, .int .i64 t, .int .i64 v, .int .i64 x]] w fun e w' => ∃ v', e = .returned v' ∧ w'.ownsRow w.heap.size 9 1 v' 3 [.string kb, .string (itoaB t), .string (itoaB x)] ∧ Below w.heap.size w w' := by
  obtain ⟨i0, hi0, hz0, hz1, hz2⟩ := info_parts info9
  have hS := (Ew.start w #[.int .i64 kk, .int .i64 t, .int .i64 v, .int .i64 x] #[.string kb, .bool false, .bool true])
  go_enter Tryd.func35, Tryd.ntmps35
  go_wp2_with fail
  generalize (w.alloc (.cells #[.int .i64 kk, .int .i64 t, .int .i64 v, .int .i64 x] 42)).alloc (.cells #[.string kb, .bool false, .bool true] 91) = w1 at *
  have hA1 := hS.1.cell (i := 1) rfl
  have hB0 := hS.2.1.cell (i := 0) rfl
  go_region_with (refine (HT.out _ hS.drew.2.2).mono ?_; rintro e w2 ⟨rfl, hb2⟩; have hS2 := hS.drew.call hb2; have hA1' := hS2.1.cell (i := 1) rfl; have hB0' := hS2.2.1.cell (i := 0) rfl)
  all_goals
    have hO := row_built w2 (.string kb) (.string (itoaB t)) 9 w.heap.size hS2.2.2.size
    have hS3 := hS2.alloc (.cells #[.string kb, .string (itoaB t)] 9)
    generalize w2.heap.size = N at *
    generalize w2.alloc (.cells #[.string kb, .string (itoaB t)] 9) = w3 at *
    clear hA1 hB0 hA1' hB0' h0 h1 h2
    have hB1 := hS3.2.1.cell (i := 1) rfl
    have hB2 := hS3.2.1.cell (i := 2) rfl
    have hAf := hS3.1.cell (i := 3) rfl
    go_wp2_with fail
    refine (HX.out _ hS3.2.2).mono ?_
    rintro e w4 ⟨rfl, hb4⟩
    have hS4 := hS3.call hb4
    have hO := row_below hO hb4
    have HO := Lib.hid hO
    have c5 : ∀ o, w.heap.size ≤ (w4.alloc o).heap.size := by intro o; have := hS4.2.2.size; simp; omega
    have C5 := Lib.hid c5
    clear hO c5 hAf hB1 hB2 hb4
    have hB1 := hS4.2.1.cell (i := 1) rfl
    have hB2 := hS4.2.1.cell (i := 2) rfl
    go_wp2_with (at_builtin; refine wpList_append_own _ rfl _ _ 65 rfl w.heap.size 9 i0 (.string ByteArray.empty) 1 16 Tryd.underlying65 hi0 hz0 hz1 hz2 rfl (by decide) _ _ _ rfl (HO.out.alloc _) ⟨w4.heap.size, 0, none⟩ 1 1 [.string (itoaB x)] rfl rfl (cell_one_at _ _ _) (one_str _) (by unfold maxLen; omega) (by omega) (C5.out _) ?_)
    intro v5 w5 hO hg5 _
    have hS5 := (hS4.alloc (.cells #[.string (itoaB x)] 9)).grown (HO.out.alloc _) (Nat.le_refl _) hg5
    clear hB1 hB2 hg5 HO C5
    have hB1 := hS5.2.1.cell (i := 1) rfl
    have hB2 := hS5.2.1.cell (i := 2) rfl
    obtain ⟨qa5, qc5, rfl⟩ := row_slice hO
    go_wp2
    go_ret
    exact ⟨_, rfl, hO, hS5.2.2⟩

set_option maxHeartbeats 4000000 in
theorem eventWords_10 (kk : Nat) (t v x : Int) (kb : ByteArray) (w : World) (hk : kk < 10) (h0 : w.cell? ⟨0, kk * 3, none⟩ = some (.string kb)) (h1 : w.cell? ⟨0, kk * 3 + 1, none⟩ = some (.bool true)) (h2 : w.cell? ⟨0, kk * 3 + 2, none⟩ = some (.bool false)) (hg : 0 < w.heap.size) (HT : Hid (NumWord w t)) (HV : Hid (NumWord w v)) :
    Calls Tryd.prog 35 #[.agg #[.int .i64 kk, .int .i64 t, .int .i64 v, .int .i64 x]] w fun e w' => ∃ v', e = .returned v' ∧ w'.ownsRow w.heap.size 9 1 v' 3 [.string kb, .string (itoaB t), .string (itoaB v)] ∧ Below w.heap.size w w' := by
  obtain ⟨i0, hi0, hz0, hz1, hz2⟩ := info_parts info9
  have hS := (Ew.start w #[.int .i64 kk, .int .i64 t, .int .i64 v, .int .i64 x] #[.string kb, .bool true, .bool false])
  go_enter Tryd.func35, Tryd.ntmps35
  go_wp2_with fail
  generalize (w.alloc (.cells #[.int .i64 kk, .int .i64 t, .int .i64 v, .int .i64 x] 42)).alloc (.cells #[.string kb, .bool true, .bool false] 91) = w1 at *
  have hA1 := hS.1.cell (i := 1) rfl
  have hB0 := hS.2.1.cell (i := 0) rfl
  go_region_with (refine (HT.out _ hS.drew.2.2).mono ?_; rintro e w2 ⟨rfl, hb2⟩; have hS2 := hS.drew.call hb2; have hA1' := hS2.1.cell (i := 1) rfl; have hB0' := hS2.2.1.cell (i := 0) rfl)
  all_goals
    have hO := row_built w2 (.string kb) (.string (itoaB t)) 9 w.heap.size hS2.2.2.size
    have hS3 := hS2.alloc (.cells #[.string kb, .string (itoaB t)] 9)
    generalize w2.heap.size = N at *
    generalize w2.alloc (.cells #[.string kb, .string (itoaB t)] 9) = w3 at *
    clear hA1 hB0 hA1' hB0' h0 h1 h2
    have hB1 := hS3.2.1.cell (i := 1) rfl
    have hB2 := hS3.2.1.cell (i := 2) rfl
    have hAf := hS3.1.cell (i := 2) rfl
    go_wp2_with fail
    refine (HV.out _ hS3.2.2).mono ?_
    rintro e w4 ⟨rfl, hb4⟩
    have hS4 := hS3.call hb4
    have hO := row_below hO hb4
    have HO := Lib.hid hO
    have c5 : ∀ o, w.heap.size ≤ (w4.alloc o).heap.size := by intro o; have := hS4.2.2.size; simp; omega
    have C5 := Lib.hid c5
    clear hO c5 hAf hB1 hB2 hb4
    have hB1 := hS4.2.1.cell (i := 1) rfl
    have hB2 := hS4.2.1.cell (i := 2) rfl
    go_wp2_with (at_builtin; refine wpList_append_own _ rfl _ _ 65 rfl w.heap.size 9 i0 (.string ByteArray.empty) 1 16 Tryd.underlying65 hi0 hz0 hz1 hz2 rfl (by decide) _ _ _ rfl (HO.out.alloc _) ⟨w4.heap.size, 0, none⟩ 1 1 [.string (itoaB v)] rfl rfl (cell_one_at _ _ _) (one_str _) (by unfold maxLen; omega) (by omega) (C5.out _) ?_)
    intro v5 w5 hO hg5 _
    have hS5 := (hS4.alloc (.cells #[.string (itoaB v)] 9)).grown (HO.out.alloc _) (Nat.le_refl _) hg5
    clear hB1 hB2 hg5 HO C5
    have hB1 := hS5.2.1.cell (i := 1) rfl
    have hB2 := hS5.2.1.cell (i := 2) rfl
    obtain ⟨qa5, qc5, rfl⟩ := row_slice hO
    go_wp2
    go_ret
    exact ⟨_, rfl, hO, hS5.2.2⟩

set_option maxHeartbeats 4000000 in
theorem eventWords_11 (kk : Nat) (t v x : Int) (kb : ByteArray) (w : World) (hk : kk < 10) (h0 : w.cell? ⟨0, kk * 3, none⟩ = some (.string kb)) (h1 : w.cell? ⟨0, kk * 3 + 1, none⟩ = some (.bool true)) (h2 : w.cell? ⟨0, kk * 3 + 2, none⟩ = some (.bool true)) (hg : 0 < w.heap.size) (HT : Hid (NumWord w t)) (HV : Hid (NumWord w v)) (HX : Hid (NumWord w x)) :
    Calls Tryd.prog 35 #[.agg #[.int .i64 kk, .int .i64 t, .int .i64 v, .int .i64 x]] w fun e w' => ∃ v', e = .returned v' ∧ w'.ownsRow w.heap.size 9 1 v' 4 [.string kb, .string (itoaB t), .string (itoaB v), .string (itoaB x)] ∧ Below w.heap.size w w' := by
  obtain ⟨i0, hi0, hz0, hz1, hz2⟩ := info_parts info9
  have hS := (Ew.start w #[.int .i64 kk, .int .i64 t, .int .i64 v, .int .i64 x] #[.string kb, .bool true, .bool true])
  go_enter Tryd.func35, Tryd.ntmps35
  go_wp2_with fail
  generalize (w.alloc (.cells #[.int .i64 kk, .int .i64 t, .int .i64 v, .int .i64 x] 42)).alloc (.cells #[.string kb, .bool true, .bool true] 91) = w1 at *
  have hA1 := hS.1.cell (i := 1) rfl
  have hB0 := hS.2.1.cell (i := 0) rfl
  go_region_with (refine (HT.out _ hS.drew.2.2).mono ?_; rintro e w2 ⟨rfl, hb2⟩; have hS2 := hS.drew.call hb2; have hA1' := hS2.1.cell (i := 1) rfl; have hB0' := hS2.2.1.cell (i := 0) rfl)
  all_goals
    have hO := row_built w2 (.string kb) (.string (itoaB t)) 9 w.heap.size hS2.2.2.size
    have hS3 := hS2.alloc (.cells #[.string kb, .string (itoaB t)] 9)
    generalize w2.heap.size = N at *
    generalize w2.alloc (.cells #[.string kb, .string (itoaB t)] 9) = w3 at *
    clear hA1 hB0 hA1' hB0' h0 h1 h2
    have hB1 := hS3.2.1.cell (i := 1) rfl
    have hB2 := hS3.2.1.cell (i := 2) rfl
    have hAf := hS3.1.cell (i := 2) rfl
    go_wp2_with fail
    refine (HV.out _ hS3.2.2).mono ?_
    rintro e w4 ⟨rfl, hb4⟩
    have hS4 := hS3.call hb4
    have hO := row_below hO hb4
    have HO := Lib.hid hO
    have c5 : ∀ o, w.heap.size ≤ (w4.alloc o).heap.size := by intro o; have := hS4.2.2.size; simp; omega
    have C5 := Lib.hid c5
    clear hO c5 hAf hB1 hB2 hb4
    have hB1 := hS4.2.1.cell (i := 1) rfl
    have hB2 := hS4.2.1.cell (i := 2) rfl
    go_wp2_with (at_builtin; refine wpList_append_own _ rfl _ _ 65 rfl w.heap.size 9 i0 (.string ByteArray.empty) 1 16 Tryd.underlying65 hi0 hz0 hz1 hz2 rfl (by decide) _ _ _ rfl (HO.out.alloc _) ⟨w4.heap.size, 0, none⟩ 1 1 [.string (itoaB v)] rfl rfl (cell_one_at _ _ _) (one_str _) (by unfold maxLen; omega) (by omega) (C5.out _) ?_)
    intro v5 w5 hO hg5 _
    have hS5 := (hS4.alloc (.cells #[.string (itoaB v)] 9)).grown (HO.out.alloc _) (Nat.le_refl _) hg5
    clear hB1 hB2 hg5 HO C5
    have hB1 := hS5.2.1.cell (i := 1) rfl
    have hB2 := hS5.2.1.cell (i := 2) rfl
    obtain ⟨qa5, qc5, rfl⟩ := row_slice hO
    have hAf := hS5.1.cell (i := 3) rfl
    go_wp2_with fail
    refine (HX.out _ hS5.2.2).mono ?_
    rintro e w6 ⟨rfl, hb6⟩
    have hS6 := hS5.call hb6
    have hO := row_below hO hb6
    have HO := Lib.hid hO
    have c5 : ∀ o, w.heap.size ≤ (w6.alloc o).heap.size := by intro o; have := hS6.2.2.size; simp; omega
    have C5 := Lib.hid c5
    clear hO c5 hAf hB1 hB2 hb6
    have hB1 := hS6.2.1.cell (i := 1) rfl
    have hB2 := hS6.2.1.cell (i := 2) rfl
    go_wp2_with (at_builtin; refine wpList_append_own _ rfl _ _ 65 rfl w.heap.size 9 i0 (.string ByteArray.empty) 1 16 Tryd.underlying65 hi0 hz0 hz1 hz2 rfl (by decide) _ _ _ rfl (HO.out.alloc _) ⟨w6.heap.size, 0, none⟩ 1 1 [.string (itoaB x)] rfl rfl (cell_one_at _ _ _) (one_str _) (by unfold maxLen; omega) (by omega) (C5.out _) ?_)
    intro v7 w7 hO hg7 _
    have hS7 := (hS6.alloc (.cells #[.string (itoaB x)] 9)).grown (HO.out.alloc _) (Nat.le_refl _) hg7
    clear hB1 hB2 hg7 HO C5
    have hB1 := hS7.2.1.cell (i := 1) rfl
    have hB2 := hS7.2.1.cell (i := 2) rfl
    obtain ⟨qa7, qc7, rfl⟩ := row_slice hO
    go_wp2
    go_ret
    exact ⟨_, rfl, hO, hS7.2.2⟩

/-- the words of an event's line -/
def evWords (e : Ev) : List (List UInt8) := kwords.getD e.k.toNat [] :: Lib.itoa e.t :: ((if hasV e.k.toNat = true then [Lib.itoa e.v] else []) ++ (if hasX e.k.toNat = true then [Lib.itoa e.x] else []))
theorem eventWords_any (e : Ev) (w : World) (hK : HasK w) (hP : HasP w) (he : evOk e = true) :
    Calls Tryd.prog 35 #[evVal e] w fun en w' => ∃ v', en = .returned v' ∧ w'.ownsRow w.heap.size 9 1 v' (evWords e).length ((evWords e).map fun l => Value.string ⟨l.toArray⟩) ∧ Below w.heap.size w w' := by
  obtain ⟨k, t, v, x⟩ := e
  simp only [evOk, inB, Bool.and_eq_true, decide_eq_true_eq] at he
  obtain ⟨kk, rfl⟩ : ∃ kk : Nat, k = (kk : Int) := ⟨k.toNat, by omega⟩
  have hkk : kk < 10 := by omega
  have h0 := hK.word hkk
  have h1 := hK.hasV hkk
  have h2 := hK.hasX hkk
  have hg := hK.lt
  have HT := Lib.hid (numWord w t (by omega) (by omega) hP)
  have HV := Lib.hid (numWord w v (by omega) (by omega) hP)
  have HX := Lib.hid (numWord w x (by omega) (by omega) hP)
  unfold evVal evWords
  simp only [Int.toNat_natCast]
  cases hbv : hasV kk <;> cases hbx : hasX kk
  all_goals
    rw [hbv] at h1
    rw [hbx] at h2
  · exact eventWords_00 kk t v x _ w hkk h0 h1 h2 hg HT
  · exact eventWords_01 kk t v x _ w hkk h0 h1 h2 hg HT HX
  · exact eventWords_10 kk t v x _ w hkk h0 h1 h2 hg HT HV
  · exact eventWords_11 kk t v x _ w hkk h0 h1 h2 hg HT HV HX
end Go.Proofs.YtgebmjbfeakpgaaDoor
