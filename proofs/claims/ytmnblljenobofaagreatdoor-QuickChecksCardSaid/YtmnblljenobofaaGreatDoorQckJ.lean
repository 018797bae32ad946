/- The walk of QuickChecks. -/
import Derived.Test.YtmnblljenobofaaGreatDoorQckF
import Derived.Test.YtmnblljenobofaaGreatDoorMg30
import Derived.Test.YtmnblljenobofaaGreatDoorMg31
import Derived.Deep.RegionHeld
import Derived.Deep.DeepMust
namespace Go.Proofs.YtmnblljenobofaaGreatDoor.WPlain
end Go.Proofs.YtmnblljenobofaaGreatDoor.WPlain
namespace Go.Proofs.YtmnblljenobofaaGreatDoor.QPlain
end Go.Proofs.YtmnblljenobofaaGreatDoor.QPlain
namespace Go.Proofs.YtmnblljenobofaaGreatDoor.RPlain
end Go.Proofs.YtmnblljenobofaaGreatDoor.RPlain
namespace Go.Proofs.YtmnblljenobofaaGreatDoor
open Go.RowKit WPlain QPlain RPlain

theorem head_len {L : List (List Nat)} {n : Nat} (h : ∀ y ∈ L, y.length = n) : (L.headD []).length ≤ n := by
  cases L with
  | nil => exact Nat.zero_le _
  | cons y r => exact Nat.le_of_eq (h y (List.mem_cons_self ..))
theorem quick_len {h : List Ev} {B : Int} : (qckF h B).2.2.1.length ≤ 65536 := by
  by_cases h0 : qckE h B = 0
  · have hu := (qckE_zero h0).1
    have h6 := table_six (errU_zero hu).1
    unfold qckF
    rw [if_pos h0]
    obtain ⟨k1, -, -, k2, k3, -⟩ := quick_tells (B := B.toNat) (l := tableS h) (choicesS (tableS h)) 0 (Nat.zero_le _)
    by_cases hv : (quickS B.toNat (tableS h)).1 = 0
    · obtain ⟨-, -, row, -, -, hx⟩ := k3 hv
      have hx2 : (quickS B.toNat (tableS h)).2.2.1 = (allS (buildS (tableS h) (quickS B.toNat (tableS h)).2.1 row)).headD [] := hx
      rw [hx2]
      have hlen := build_len (tableS h) (quickS B.toNat (tableS h)).2.1 row
      generalize buildS (tableS h) (quickS B.toNat (tableS h)).2.1 row = A at *
      have := head_len (L := allS A) (n := A.length) fun y hy => all_len hy
      omega
    · have hx2 : (quickS B.toNat (tableS h)).2.2.1 = [] := (k2 hv).2
      rw [hx2]
      simp
  · rw [qckF_off h0]
    simp
set_option maxRecDepth 100000 in
set_option maxHeartbeats 8000000 in
theorem qchk_walk (a : Option Addr) (n m c : Nat) (h : List Ev) (B : Int) (w : World) (hK : HasK w) (hn : n ≤ c) (HAE : Hid (min (n : Int) 65 = (m : Int))) (hmn : m ≤ n) (hv : Evs w (.slice a m c) h) (h1 : h.length = m) (hm1 : m ≤ 65) :
    Calls Tryz.prog 3 #[.slice a n c, .int .i64 B] w fun e w' => e = .returned (.bool true) ∧ Below w.heap.size w w' := by
  have HCK := Lib.hid (checkQ_any _ h B w hK hv (by omega))
  have HUQ := Lib.hid (fun (W : World) (hW : Below w.heap.size w W) => refUniqQ_any _ h W (hv.below hW (Nat.le_refl _)) (by omega) (fun a' n' c' he => by simp at he; omega))
  have HTB := Lib.hid (fun (W : World) (hW : Below w.heap.size w W) => refTable_any _ h W (hv.below hW (Nat.le_refl _)) (by omega) (fun a' n' c' he => by simp at he; omega))
  have HAL := Lib.hid (fun (W : World) (hW : Below w.heap.size w W) => aliveQ_any W (hK.later hW (Nat.le_refl _)))
  have HLN := Lib.hid (quick_len (h := h) (B := B))
  have e1 : (max (min (n : Int) 65) 0) = (m : Int) := by have := HAE.out; omega
  have e3 := HAE.out
  clear hK hv
  obtain ⟨x, hx⟩ : ∃ x, qckF h B = x := ⟨_, rfl⟩
  have HX := Lib.hid hx
  rw [hx] at HCK HLN
  unfold fndV at HCK
  have hqe : qckE h B = if errU h = 0 then (if B < 0 ∨ 1000000 < B then 1 else 0) else errU h := rfl
  by_cases h0 : qckE h B = 0
  · obtain ⟨hu, hB0, hB1⟩ := qckE_zero h0
    obtain ⟨BN, rfl⟩ : ∃ BN : Nat, B = (BN : Int) := ⟨B.toNat, by omega⟩
    have HF := Lib.hid (fine_table (errU_zero hu).1)
    rw [qckF_of h0] at hx
    have HRC := Lib.hid (fun (v : Value) (W : World) (hT : Txs W v (tableS h)) => refCheckQ_any v (tableS h) BN W hT HF.out (by omega))
    rw [hx] at HRC
    rw [h0] at HCK
    rw [hu] at HUQ
    have tb : ¬ ((BN : Int) < 0) := by omega
    have tb2 : ¬ ((1000000 : Int) < (BN : Int)) := by omega
    have HRC2 : Hid (∀ (v : Value) (W : World), Txs W v (tableS h) → Calls Tryz.prog 9 #[v, .int .i64 (BN : Int)] W fun e w' => ∃ ra rn rc, e = .returned (.agg #[.int .i64 (x.1 : Int), .int .u32 (x.2.1 : Int), .slice ra rn rc, .int .i64 (x.2.2.2 : Int)]) ∧ Rd w' (.slice ra rn rc) (nats x.2.2.1) ∧ Below W.heap.size W w') := fun v W hT => by
      refine (HRC.out v W hT).mono ?_
      rintro e w' ⟨rv, rfl, hr, hb⟩
      obtain ⟨ra, rc, rfl⟩ := hr.len
      exact ⟨ra, _, rc, rfl, hr, hb⟩
    clear h0 hu hx hqe HX HF HRC hB0 hB1
    generalize tableS h = l at *
    go_enter Tryz.func3, Tryz.ntmps3
    go_wp2_with fail
    refine HCK.out.mono ?_
    rintro e w3 ⟨rv, rfl, hr3, hb3⟩
    obtain ⟨rb, rc, rfl⟩ := hr3.len
    obtain ⟨rn, hrn⟩ : ∃ z, (nats x.2.2.1).length = z := ⟨_, rfl⟩
    rw [hrn] at hr3 ⊢
    obtain ⟨N9, hN9⟩ : ∃ z, w3.heap.size = z := ⟨_, rfl⟩
    obtain ⟨w4, hw4⟩ : ∃ z, w3.alloc (.cells #[.int .i64 (x.1 : Int), .int .u32 (x.2.1 : Int), .slice rb rn rc, .int .i64 (x.2.2.2 : Int)] 26) = z := ⟨_, rfl⟩
    have ha9 : At w4 N9 #[.int .i64 (x.1 : Int), .int .u32 (x.2.1 : Int), .slice rb rn rc, .int .i64 (x.2.2.2 : Int)] 26 := by
      rw [← hw4, ← hN9]; exact At.new w3 _ _
    have hb34 : Below w3.heap.size w3 w4 := by rw [← hw4]; exact (Below.refl _ w3).alloc (Nat.le_refl _) _
    have HB4 := Lib.hid (hb3.trans (hb34.mono hb3.size))
    have HA9 := Lib.hid ha9
    have HR4 := Lib.hid (hr3.below hb34 (Nat.le_refl _))
    have HW4 := Lib.hid hw4
    clear hr3 hb3 ha9 hb34 HCK hrn hw4 e1 e3
    go_wp2_with fail
    try rw [HW4.out]
    clear HW4
    refine (HUQ.out _ HB4.out).mono ?_
    rintro e w5 ⟨rfl, hb5⟩
    have HB5 := Lib.hid (HB4.out.trans (hb5.mono HB4.out.size))
    have HA5 := Lib.hid (HA9.out.below hb5 HA9.out.lt)
    have HR5 := Lib.hid (HR4.out.below hb5 (Nat.le_refl _))
    clear hb5 HUQ HB4 HA9 HR4
    have HSS : Hid (∀ W, Below w5.heap.size w5 W → W.cell? ⟨N9, 0, none⟩ = some (.int .i64 (x.1 : Int)) ∧ W.cell? ⟨N9, 1, none⟩ = some (.int .u32 (x.2.1 : Int)) ∧ W.cell? ⟨N9, 2, none⟩ = some (.slice rb rn rc) ∧ W.cell? ⟨N9, 3, none⟩ = some (.int .i64 (x.2.2.2 : Int))) := fun W hW =>
      ⟨cell_on hW (HA5.out.cell rfl), cell_on hW (HA5.out.cell rfl), cell_on hW (HA5.out.cell rfl), cell_on hW (HA5.out.cell rfl)⟩
    have HAL5 := Lib.hid (fun (W : World) (hW : Below w5.heap.size w5 W) => HAL.out W (HB5.out.trans (hW.mono HB5.out.size)))
    have HTB5 := Lib.hid (fun (W : World) (hW : Below w5.heap.size w5 W) => HTB.out W (HB5.out.trans (hW.mono HB5.out.size)))
    clear HA5 HAL HTB
    go_wp2_with fail
    first
    | go_must (go_region_held (fun W => W.cell? ⟨N9, 0, none⟩ = some (.int .i64 (x.1 : Int)) ∧ W.cell? ⟨N9, 1, none⟩ = some (.int .u32 (x.2.1 : Int)) ∧ W.cell? ⟨N9, 2, none⟩ = some (.slice rb rn rc) ∧ W.cell? ⟨N9, 3, none⟩ = some (.int .i64 (x.2.2.2 : Int)))
        (first | exact HSS.out _ (belowDrS _) | exact HSS.out _ hz6 | exact HSS.out _ hz7 | exact HSS.out _ hz8 | exact HSS.out _ hz9)
        (first
          | (go_at_call 7; refine (HAL5.out _ (belowDrS _)).mono ?_; rintro e w6 ⟨rfl, hb6⟩; have hz6 := (belowDrS w5).trans hb6; clear hb6)
          | (go_at_call 10; refine (HTB5.out _ hz6).mono ?_; rintro e w7 ⟨lv, rfl, ht7, hb7⟩; have hz7 := hz6.trans (hb7.mono hz6.size); have htq := ht7; obtain ⟨la, lc, rfl⟩ := ht7.len; clear hb7)
          | (go_at_call 9; refine (HRC2.out _ _ htq).mono ?_; rintro e w8 ⟨sa, sn, sc, rfl, hr8, hb8⟩; have hz8 := hz7.trans (hb8.mono hz7.size); clear hb8)
          | (go_at_call 8; refine (refSame_same x.1 x.2.1 x.2.2.2 x.2.2.1 _ _ w8 (HR5.out.below hz8 (Nat.le_refl _)) hr8 HLN.out).mono ?_; rintro e w9 ⟨rfl, hb9⟩; have hz9 := hz8.trans (hb9.mono hz8.size); clear hb9)))
    | fail
    have HB9 := Lib.hid (HB5.out.trans (hz9.mono HB5.out.size))
    clear hz6 hz7 hz8 hz9 hr8 htq
    go_wp2_with fail
    go_ret
    exact ⟨rfl, HB9.out⟩
  · have hx0 : x = (0, 0, [], 0) := by rw [← hx]; exact qckF_off h0
    subst hx0
    obtain ⟨eu, heu⟩ : ∃ eu, errU h = eu := ⟨_, rfl⟩
    obtain ⟨er, her⟩ : ∃ er, qckE h B = er := ⟨_, rfl⟩
    rw [heu] at HUQ hqe
    rw [her] at HCK hqe h0
    have hcs : (eu ≠ 0 ∧ er = eu) ∨ (eu = 0 ∧ B < 0 ∧ er = 1) ∨ (eu = 0 ∧ ¬ B < 0 ∧ 1000000 < B ∧ er = 1) := by
      by_cases h2 : eu = 0
      · rw [if_pos h2] at hqe
        by_cases h3 : B < 0 ∨ 1000000 < B
        · rw [if_pos h3] at hqe
          omega
        · rw [if_neg h3] at hqe; exact absurd hqe h0
      · rw [if_neg h2] at hqe
        exact .inl ⟨h2, hqe⟩
    clear HX hx heu her hqe HTB HLN
    rcases hcs with ⟨h2, rfl⟩ | ⟨rfl, h2, rfl⟩ | ⟨rfl, h2, h3, rfl⟩
    · have te : ((er : Int) == 0) = false := by rw [beq_eq_false_iff_ne]; omega
      have te2 : ((er : Int) != 0) = true := by simp; omega
      have te3 : ((er : Int) == (er : Int)) = true := by simp
      clear h0 h2
      go_enter Tryz.func3, Tryz.ntmps3
      go_wp2_with fail
      refine HCK.out.mono ?_
      rintro e w3 ⟨rv, rfl, hr3, hb3⟩
      obtain ⟨rb, rc, rfl⟩ := hr3.len
      rw [nats_len, List.length_nil] at hr3 ⊢
      obtain ⟨N9, hN9⟩ : ∃ z, w3.heap.size = z := ⟨_, rfl⟩
      obtain ⟨w4, hw4⟩ : ∃ z, w3.alloc (.cells #[.int .i64 0, .int .u32 0, .slice rb 0 rc, .int .i64 0] 26) = z := ⟨_, rfl⟩
      have ha9 : At w4 N9 #[.int .i64 0, .int .u32 0, .slice rb 0 rc, .int .i64 0] 26 := by
        rw [← hw4, ← hN9]; exact At.new w3 _ _
      have hb34 : Below w3.heap.size w3 w4 := by rw [← hw4]; exact (Below.refl _ w3).alloc (Nat.le_refl _) _
      have HB4 := Lib.hid (hb3.trans (hb34.mono hb3.size))
      have HA9 := Lib.hid ha9
      have HR4 := Lib.hid (hr3.below hb34 (Nat.le_refl _))
      have HW4 := Lib.hid hw4
      clear hr3 hb3 ha9 hb34 HCK hw4 e1 e3
      go_wp2_with fail
      try rw [HW4.out]
      clear HW4
      refine (HUQ.out _ HB4.out).mono ?_
      rintro e w5 ⟨rfl, hb5⟩
      have HB5 := Lib.hid (HB4.out.trans (hb5.mono HB4.out.size))
      have HA5 := Lib.hid (HA9.out.below hb5 HA9.out.lt)
      have HR5 := Lib.hid (HR4.out.below hb5 (Nat.le_refl _))
      clear hb5 HUQ HB4 HA9 HR4
      go_wp2_with fail
      refine (HAL.out _ HB5.out).mono ?_
      rintro e w6 ⟨rfl, hb6⟩
      have HB6 := Lib.hid (HB5.out.trans (hb6.mono HB5.out.size))
      have HA6 := Lib.hid (HA5.out.below hb6 HA5.out.lt)
      have HR6 := Lib.hid (HR5.out.below hb6 (Nat.le_refl _))
      clear hb6 HAL HB5 HA5 HR5
      have q0 : w6.cell? ⟨N9, 0, none⟩ = some (.int .i64 0) := HA6.out.cell rfl
      have q1 : w6.cell? ⟨N9, 1, none⟩ = some (.int .u32 0) := HA6.out.cell rfl
      have q2 : w6.cell? ⟨N9, 2, none⟩ = some (.slice rb 0 rc) := HA6.out.cell rfl
      have q3 : w6.cell? ⟨N9, 3, none⟩ = some (.int .i64 0) := HA6.out.cell rfl
      have HSM := Lib.hid (refSame_same 0 0 0 [] (.slice rb 0 rc) (.slice none 0 0) w6 HR6.out (.inl ⟨rfl, _, _, rfl⟩) (by decide))
      go_wp2_with fail
      refine HSM.out.mono ?_
      rintro e w7 ⟨rfl, hb7⟩
      have HB7 := Lib.hid (HB6.out.trans (hb7.mono HB6.out.size))
      clear hb7
      go_wp2_with fail
      go_ret
      exact ⟨rfl, HB7.out⟩
    · clear h0
      go_enter Tryz.func3, Tryz.ntmps3
      go_wp2_with fail
      refine HCK.out.mono ?_
      rintro e w3 ⟨rv, rfl, hr3, hb3⟩
      obtain ⟨rb, rc, rfl⟩ := hr3.len
      rw [nats_len, List.length_nil] at hr3 ⊢
      obtain ⟨N9, hN9⟩ : ∃ z, w3.heap.size = z := ⟨_, rfl⟩
      obtain ⟨w4, hw4⟩ : ∃ z, w3.alloc (.cells #[.int .i64 0, .int .u32 0, .slice rb 0 rc, .int .i64 0] 26) = z := ⟨_, rfl⟩
      have ha9 : At w4 N9 #[.int .i64 0, .int .u32 0, .slice rb 0 rc, .int .i64 0] 26 := by
        rw [← hw4, ← hN9]; exact At.new w3 _ _
      have hb34 : Below w3.heap.size w3 w4 := by rw [← hw4]; exact (Below.refl _ w3).alloc (Nat.le_refl _) _
      have HB4 := Lib.hid (hb3.trans (hb34.mono hb3.size))
      have HA9 := Lib.hid ha9
      have HR4 := Lib.hid (hr3.below hb34 (Nat.le_refl _))
      have HW4 := Lib.hid hw4
      clear hr3 hb3 ha9 hb34 HCK hw4 e1 e3
      go_wp2_with fail
      try rw [HW4.out]
      clear HW4
      refine (HUQ.out _ HB4.out).mono ?_
      rintro e w5 ⟨rfl, hb5⟩
      have HB5 := Lib.hid (HB4.out.trans (hb5.mono HB4.out.size))
      have HA5 := Lib.hid (HA9.out.below hb5 HA9.out.lt)
      have HR5 := Lib.hid (HR4.out.below hb5 (Nat.le_refl _))
      clear hb5 HUQ HB4 HA9 HR4
      go_wp2_with fail
      refine (HAL.out _ HB5.out).mono ?_
      rintro e w6 ⟨rfl, hb6⟩
      have HB6 := Lib.hid (HB5.out.trans (hb6.mono HB5.out.size))
      have HA6 := Lib.hid (HA5.out.below hb6 HA5.out.lt)
      have HR6 := Lib.hid (HR5.out.below hb6 (Nat.le_refl _))
      clear hb6 HAL HB5 HA5 HR5
      have q0 : w6.cell? ⟨N9, 0, none⟩ = some (.int .i64 0) := HA6.out.cell rfl
      have q1 : w6.cell? ⟨N9, 1, none⟩ = some (.int .u32 0) := HA6.out.cell rfl
      have q2 : w6.cell? ⟨N9, 2, none⟩ = some (.slice rb 0 rc) := HA6.out.cell rfl
      have q3 : w6.cell? ⟨N9, 3, none⟩ = some (.int .i64 0) := HA6.out.cell rfl
      have HSM := Lib.hid (refSame_same 0 0 0 [] (.slice rb 0 rc) (.slice none 0 0) w6 HR6.out (.inl ⟨rfl, _, _, rfl⟩) (by decide))
      go_wp2_with fail
      refine HSM.out.mono ?_
      rintro e w7 ⟨rfl, hb7⟩
      have HB7 := Lib.hid (HB6.out.trans (hb7.mono HB6.out.size))
      clear hb7
      go_wp2_with fail
      go_ret
      exact ⟨rfl, HB7.out⟩
    · clear h0
      go_enter Tryz.func3, Tryz.ntmps3
      go_wp2_with fail
      refine HCK.out.mono ?_
      rintro e w3 ⟨rv, rfl, hr3, hb3⟩
      obtain ⟨rb, rc, rfl⟩ := hr3.len
      rw [nats_len, List.length_nil] at hr3 ⊢
      obtain ⟨N9, hN9⟩ : ∃ z, w3.heap.size = z := ⟨_, rfl⟩
      obtain ⟨w4, hw4⟩ : ∃ z, w3.alloc (.cells #[.int .i64 0, .int .u32 0, .slice rb 0 rc, .int .i64 0] 26) = z := ⟨_, rfl⟩
      have ha9 : At w4 N9 #[.int .i64 0, .int .u32 0, .slice rb 0 rc, .int .i64 0] 26 := by
        rw [← hw4, ← hN9]; exact At.new w3 _ _
      have hb34 : Below w3.heap.size w3 w4 := by rw [← hw4]; exact (Below.refl _ w3).alloc (Nat.le_refl _) _
      have HB4 := Lib.hid (hb3.trans (hb34.mono hb3.size))
      have HA9 := Lib.hid ha9
      have HR4 := Lib.hid (hr3.below hb34 (Nat.le_refl _))
      have HW4 := Lib.hid hw4
      clear hr3 hb3 ha9 hb34 HCK hw4 e1 e3
      go_wp2_with fail
      try rw [HW4.out]
      clear HW4
      refine (HUQ.out _ HB4.out).mono ?_
      rintro e w5 ⟨rfl, hb5⟩
      have HB5 := Lib.hid (HB4.out.trans (hb5.mono HB4.out.size))
      have HA5 := Lib.hid (HA9.out.below hb5 HA9.out.lt)
      have HR5 := Lib.hid (HR4.out.below hb5 (Nat.le_refl _))
      clear hb5 HUQ HB4 HA9 HR4
      go_wp2_with fail
      refine (HAL.out _ HB5.out).mono ?_
      rintro e w6 ⟨rfl, hb6⟩
      have HB6 := Lib.hid (HB5.out.trans (hb6.mono HB5.out.size))
      have HA6 := Lib.hid (HA5.out.below hb6 HA5.out.lt)
      have HR6 := Lib.hid (HR5.out.below hb6 (Nat.le_refl _))
      clear hb6 HAL HB5 HA5 HR5
      have q0 : w6.cell? ⟨N9, 0, none⟩ = some (.int .i64 0) := HA6.out.cell rfl
      have q1 : w6.cell? ⟨N9, 1, none⟩ = some (.int .u32 0) := HA6.out.cell rfl
      have q2 : w6.cell? ⟨N9, 2, none⟩ = some (.slice rb 0 rc) := HA6.out.cell rfl
      have q3 : w6.cell? ⟨N9, 3, none⟩ = some (.int .i64 0) := HA6.out.cell rfl
      have HSM := Lib.hid (refSame_same 0 0 0 [] (.slice rb 0 rc) (.slice none 0 0) w6 HR6.out (.inl ⟨rfl, _, _, rfl⟩) (by decide))
      go_wp2_with fail
      refine HSM.out.mono ?_
      rintro e w7 ⟨rfl, hb7⟩
      have HB7 := Lib.hid (HB6.out.trans (hb7.mono HB6.out.size))
      clear hb7
      go_wp2_with fail
      go_ret
      exact ⟨rfl, HB7.out⟩
theorem qchk_any (a : Option Addr) (n c : Nat) (h : List Ev) (B : Int) (w : World) (hK : HasK w) (hn : n ≤ c) (hv : Evs w (.slice a (min (n : Int) 65).toNat c) h) :
    Calls Tryz.prog 3 #[.slice a n c, .int .i64 B] w fun e w' => e = .returned (.bool true) ∧ Below w.heap.size w w' := by
  obtain ⟨m, hm⟩ : ∃ m : Nat, min (n : Int) 65 = (m : Int) := ⟨(min (n : Int) 65).toNat, by omega⟩
  rw [hm, Int.toNat_natCast] at hv
  exact qchk_walk a n m c h B w hK hn hm (by omega) hv hv.length.symm (by omega)
end Go.Proofs.YtmnblljenobofaaGreatDoor
