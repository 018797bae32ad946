/- Merged: PrpI, WalkK, TxtS. -/
import Derived.Test.YtmnblljenobofaaGreatDoorMg1
import Derived.Test.YtmnblljenobofaaGreatDoorMg3
import Derived.Test.YtmnblljenobofaaGreatDoorTxtH
import Derived.Lib.ItoaMem
import Derived.Lib.ItoaLen
import Derived.Lib.SmallJoins
/- The walks of the reference's Last and May. -/
namespace Go.Proofs.YtmnblljenobofaaGreatDoor.WPlain
end Go.Proofs.YtmnblljenobofaaGreatDoor.WPlain
namespace Go.Proofs.YtmnblljenobofaaGreatDoor.QPlain
end Go.Proofs.YtmnblljenobofaaGreatDoor.QPlain
namespace Go.Proofs.YtmnblljenobofaaGreatDoor
open Go.RowKit WPlain QPlain

theorem last_take {h : List Ev} {k : Nat} (hk : k < h.length) (t : Int) : lastOf (h.take (k + 1)) t = if h[k].t = t then h[k].k else lastOf (h.take k) t := by
  rw [← lastOf_snoc, List.take_succ_eq_append_getElem hk]
set_option maxRecDepth 100000 in
set_option maxHeartbeats 1000000 in
theorem last_any (v : Value) (h : List Ev) (t : Int) (w : World) (hv : Evs w v h) (hl : h.length ≤ 65536) :
    Calls Tryz.prog 29 #[v, .int .i64 t] w fun e w' => e = .returned (.int .i64 (lastOf h t)) ∧ Below w.heap.size w w' := by
  have hb0 := Below.refl w.heap.size w
  have HV := Lib.hid hv
  obtain ⟨a, c, rfl⟩ := hv.len
  clear hv
  go_enter Tryz.func29, Tryz.ntmps29
  go_wp2_with fail
  go_loopw [5, 10] (fun y x wr => ∃ k : Nat, k ≤ h.length ∧ x = .int .i64 k ∧ y = .int .i64 (lastOf (h.take k) t) ∧ Hid (Below w.heap.size w wr)) (fun _ x _ => h.length - (intOf x).toNat)
  case atStart => exact ⟨0, by omega, rfl, rfl, hb0⟩
  case round =>
    clear hb0
    obtain ⟨k, hk, rfl, rfl, HB⟩ := hrel
    by_cases hlt : k < h.length
    · have HT := Lib.hid (last_take hlt t)
      have hv2 := HV.out.below HB.out (Nat.le_refl _)
      rcases hv2 with ⟨e0, _⟩ | ⟨l0, b, o, c', he, hbl, hc⟩
      · rw [e0] at hlt; simp at hlt
      · obtain ⟨rfl, rfl⟩ : a = some ⟨b, o, none⟩ ∧ c = c' := by simpa using he
        clear he
        obtain ⟨c0, c1, c2, c3⟩ := hc k hlt
        clear hc
        generalize h[k] = ev at *
        generalize lastOf (h.take k) t = y at *
        have HB1 := Lib.hid (HB.out.alloc HB.out.size (.cells #[.int .i64 ev.k, .int .i64 ev.t, .int .i64 ev.v, .int .i64 ev.x] 53))
        have hE := At.new wr #[.int .i64 ev.k, .int .i64 ev.t, .int .i64 ev.v, .int .i64 ev.x] 53
        have e0 := hE.cell (i := 0) (v := .int .i64 ev.k) rfl
        have e1 := hE.cell (i := 1) (v := .int .i64 ev.t) rfl
        clear hE HB
        by_cases het : ev.t = t
        · have HA : Hid (lastOf (h.take (k + 1)) t = ev.k) := by unfold Hid; rw [HT.out, if_pos het]
          have tq : ((ev.t : Int) == t) = true := by simp [het]
          clear het HT
          go_wp2
          go_roundw
          case rel => exact ⟨k + 1, by omega, by go_num, by rw [HA.out], HB1⟩
          case measure => simp [intOf]; omega
        · have HA : Hid (lastOf (h.take (k + 1)) t = y) := by unfold Hid; rw [HT.out, if_neg het]
          have tq : ((ev.t : Int) == t) = false := by simp [het]
          clear het HT
          go_wp2
          go_roundw
          case rel => exact ⟨k + 1, by omega, by go_num, by rw [HA.out], HB1⟩
          case measure => simp [intOf]; omega
    · obtain rfl : k = h.length := by omega
      rw [List.take_length]
      go_wp2
      go_ret
      exact ⟨rfl, HB.out⟩
set_option maxRecDepth 100000 in
set_option maxHeartbeats 4000000 in
theorem may_any (l k : Int) (hl : -1 ≤ l ∧ l < 10) (hk : 0 ≤ k ∧ k < 10) (w : World) :
    Calls Tryz.prog 89 #[.int .i64 l, .int .i64 k] w fun e w' => e = .returned (.bool (mayS l k)) ∧ w = w' := by
  rcases lasts hl with rfl | rfl | rfl | rfl | rfl | rfl | rfl | rfl | rfl | rfl | rfl
  all_goals
    clear hl
    rcases tenI hk with rfl | rfl | rfl | rfl | rfl | rfl | rfl | rfl | rfl | rfl
    all_goals
      clear hk
      go_enter Tryz.func89, Tryz.ntmps89
      go_wp2
      go_ret
      exact ⟨rfl, rfl⟩
end Go.Proofs.YtmnblljenobofaaGreatDoor
/- The walks of package word's Text and of the reference's Text and Number. -/
namespace Go.Proofs.YtmnblljenobofaaGreatDoor.WPlain
end Go.Proofs.YtmnblljenobofaaGreatDoor.WPlain
namespace Go.Proofs.YtmnblljenobofaaGreatDoor
open Go.RowKit WPlain

theorem refNumber_any (n : Int) (w : World) :
    Calls Tryz.prog 116 #[.int .i64 n] w fun e w' => e = .returned (.bool (inR n)) ∧ w = w' := by
  by_cases h1 : -2147483648 ≤ n
  · by_cases h2 : n ≤ 2147483647
    · have HT : Hid (inR n = true) := by unfold Hid inR; simp [h1, h2]
      go_enter Tryz.func116, Tryz.ntmps116
      go_wp2
      go_ret
      exact ⟨ret_bool HT.out.symm, rfl⟩
    · have HT : Hid (inR n = false) := by unfold Hid inR; simp [h2]
      have t2 : decide (n ≤ 2147483647) = false := by simp; omega
      go_enter Tryz.func116, Tryz.ntmps116
      go_wp2
      go_ret
      exact ⟨ret_bool HT.out.symm, rfl⟩
  · have HT : Hid (inR n = false) := by unfold Hid inR; simp [h1]
    have t2 : decide (-2147483648 ≤ n) = false := by simp; omega
    go_enter Tryz.func116, Tryz.ntmps116
    go_wp2
    go_ret
    exact ⟨ret_bool HT.out.symm, rfl⟩

end Go.Proofs.YtmnblljenobofaaGreatDoor
/- The walks of the reference's Word, Variable, Value, Has, Names, right and Right. (Written by gen_txtS.py.) -/
namespace Go.Proofs.YtmnblljenobofaaGreatDoor.WPlain
end Go.Proofs.YtmnblljenobofaaGreatDoor.WPlain
namespace Go.Proofs.YtmnblljenobofaaGreatDoor
open Go.RowKit WPlain

theorem ten (k : Nat) (h : k < 10) : k = 0 ∨ k = 1 ∨ k = 2 ∨ k = 3 ∨ k = 4 ∨ k = 5 ∨ k = 6 ∨ k = 7 ∨ k = 8 ∨ k = 9 := by omega
theorem variable_any (k : Nat) (h : k < 10) (w : World) : Calls Tryz.prog 117 #[.int .i64 k] w fun e w' => e = .returned (.bool (hasV k)) ∧ w = w' := by
  rcases ten k h with rfl | rfl | rfl | rfl | rfl | rfl | rfl | rfl | rfl | rfl
  all_goals
    go_enter Tryz.func117, Tryz.ntmps117
    go_wp2
    go_ret
    exact ⟨rfl, rfl⟩
theorem value_any (k : Nat) (h : k < 10) (w : World) : Calls Tryz.prog 118 #[.int .i64 k] w fun e w' => e = .returned (.bool (hasX k)) ∧ w = w' := by
  rcases ten k h with rfl | rfl | rfl | rfl | rfl | rfl | rfl | rfl | rfl | rfl
  all_goals
    go_enter Tryz.func118, Tryz.ntmps118
    go_wp2
    go_ret
    exact ⟨rfl, rfl⟩
set_option maxHeartbeats 1000000 in
theorem has_any (v : Value) (xs : List Int) (x : Int) (w : World) (h : Rd w v (ints xs)) (hl : xs.length ≤ 2147483648) :
    Calls Tryz.prog 35 #[v, .int .i64 x] w fun e w' => e = .returned (.bool (xs.contains x)) ∧ w = w' := by
  obtain ⟨r, hr⟩ : ∃ r, r = xs.contains x := ⟨_, rfl⟩
  rw [← hr]
  have HR := Lib.hid hr
  have HH := Lib.hid h
  obtain ⟨a, c, rfl⟩ := h.len
  rw [ints_len] at HH ⊢
  clear hr h
  go_enter Tryz.func35, Tryz.ntmps35
  go_wp2_with fail
  go_loop [9] (fun i => ∃ k : Nat, k ≤ xs.length ∧ i = .int .i64 k ∧ Hid (∀ j, j < k → xs[j]? ≠ some x)) (fun i => xs.length - (intOf i).toNat)
  case atStart => exact ⟨0, by omega, rfl, fun j hj => absurd hj (Nat.not_lt_zero _)⟩
  case round =>
    obtain ⟨k, hk, rfl, HN⟩ := hrel
    by_cases hlt : k < xs.length
    · obtain ⟨b, o, c', he, hb, hc⟩ := HH.out.opened (by rw [ints_len]; omega)
      have hck := hc k (.int .i64 xs[k]) (by unfold ints; rw [List.getElem?_map, List.getElem?_eq_getElem hlt]; rfl)
      simp only [ints_len, Value.slice.injEq, true_and] at he
      obtain ⟨rfl, rfl⟩ := he
      clear hc
      have hg : xs[k]? = some xs[k] := List.getElem?_eq_getElem hlt
      by_cases hx : xs[k] = x
      · have HF : Hid (r = true) := by
          unfold Hid
          rw [HR.out]
          rw [List.contains_iff_mem]
          rw [← hx]
          exact List.getElem_mem _
        rw [hx] at hck
        clear hx hg
        go_wp2
        go_ret
        exact ⟨by rw [HF.out]; rfl, rfl⟩
      · have HN2 : Hid (∀ j, j < k + 1 → xs[j]? ≠ some x) := by
          intro j hj
          by_cases hj' : j < k
          · exact HN.out j hj'
          · obtain rfl : j = k := by omega
            rw [hg]
            intro h
            exact hx (Option.some.inj h)
        have tx : ((xs[k] : Int) == x) = false := by simpa using hx
        clear hx hg
        generalize xs[k] = y at *
        go_wp2
        go_round
        case rel => exact ⟨k + 1, by omega, by go_num, HN2⟩
        case measure => simp [intOf]; omega
    · have HF : Hid (r = false) := by
        unfold Hid
        rw [HR.out]
        cases hcn : xs.contains x with
        | false => rfl
        | true =>
          rw [List.contains_iff_mem] at hcn
          obtain ⟨j, hj, hjx⟩ := List.mem_iff_getElem.1 hcn
          exact absurd (by rw [List.getElem?_eq_getElem hj, hjx]) (HN.out j (by omega))
      go_wp2
      go_ret
      exact ⟨by rw [HF.out]; rfl, rfl⟩

set_option maxHeartbeats 1000000 in
theorem refNames_any (v : Value) (h : List Ev) (w : World) (hv : Evs w v h) (hl : h.length ≤ 65536) :
    Calls Tryz.prog 27 #[v] w fun e w' => ∃ v', e = .returned v' ∧ w'.ownsRow w.heap.size 3 1 v' (namesOf h).length (ints (namesOf h)) ∧ Below w.heap.size w w' := by
  obtain ⟨j0, hj0, hy0, hy1', hy2'⟩ := info_parts info3
  have hb0 := (Below.refl w.heap.size w).alloc (Nat.le_refl _) (.cells #[] 3)
  have hrow := World.ownsRow_made (size := 1) (e := 3) (base := w.heap.size) w #[] 0 (Nat.le_refl _) (by unfold maxLen; omega) rfl
  have HV := Lib.hid hv
  obtain ⟨a, c, rfl⟩ := hv.len
  clear hv
  go_enter Tryz.func27, Tryz.ntmps27
  go_wp2_with fail
  go_loopw [3, 9] (fun y x wr => ∃ k : Nat, k ≤ h.length ∧ x = .int .i64 k ∧ wr.ownsRow w.heap.size 3 1 y (namesOf (h.take k)).length (ints (namesOf (h.take k))) ∧ Below w.heap.size w wr) (fun _ x _ => h.length - (intOf x).toNat)
  case atStart => exact ⟨0, by omega, rfl, hrow, hb0⟩
  case round =>
    clear hb0 hrow
    obtain ⟨k, hk, rfl, hy, hb⟩ := hrel
    have hnl := namesOf_len (h.take k)
    have hnl2 : (namesOf (h.take k)).length ≤ 65536 := Nat.le_trans hnl (Nat.le_trans (List.length_take_le _ _) (by omega))
    clear hnl
    by_cases hlt : k < h.length
    · have HT := Lib.hid (names_take h k hlt)
      have hv2 := HV.out.below hb (Nat.le_refl _)
      have hbs := hb.size
      rcases hv2 with ⟨e0, _⟩ | ⟨l0, b, o, c', he, hbl, hc⟩
      · rw [e0] at hlt; simp at hlt
      · obtain ⟨rfl, rfl⟩ : a = some ⟨b, o, none⟩ ∧ c = c' := by simpa using he
        clear he
        obtain ⟨c0, c1, c2, c3⟩ := hc k hlt
        clear hc
        generalize h[k] = ev at *
        generalize namesOf (h.take k) = ns at *
        generalize h.length = n at *
        cases hcon : ns.contains ev.t with
        | true =>
          have HC := Lib.hid hcon
          have HA : Hid (namesOf (h.take (k + 1)) = ns) := by unfold Hid; rw [HT.out]; unfold addName; rw [if_pos hcon]
          clear hcon HT
          go_wp2_with fail
          refine (has_any _ ns ev.t _ ((Rd.of_row hy).below ((Below.refl _ wr).alloc (Nat.le_refl _) (.cells #[.int .i64 ev.k, .int .i64 ev.t, .int .i64 ev.v, .int .i64 ev.x] 53)) (Nat.le_refl _)) (by omega)).mono ?_
          rintro e w' ⟨rfl, rfl⟩
          rw [HC.out]
          go_wp2
          go_roundw
          case rel => exact ⟨k + 1, by omega, by go_num, by rw [HA.out]; exact hy.alloc _, hb.alloc hb.size _⟩
          case measure => simp [intOf]; omega
        | false =>
          have HC := Lib.hid hcon
          have HA : Hid (namesOf (h.take (k + 1)) = ns ++ [ev.t]) := by unfold Hid; rw [HT.out]; unfold addName; rw [if_neg (by rw [hcon]; simp)]
          clear hcon HT
          go_wp2_with fail
          refine (has_any _ ns ev.t _ ((Rd.of_row hy).below ((Below.refl _ wr).alloc (Nat.le_refl _) (.cells #[.int .i64 ev.k, .int .i64 ev.t, .int .i64 ev.v, .int .i64 ev.x] 53)) (Nat.le_refl _)) (by omega)).mono ?_
          rintro e w' ⟨rfl, rfl⟩
          rw [HC.out]
          have hy1 := hy.alloc (.cells #[.int .i64 ev.k, .int .i64 ev.t, .int .i64 ev.v, .int .i64 ev.x] 53)
          have hb1 := hb.alloc hb.size (.cells #[.int .i64 ev.k, .int .i64 ev.t, .int .i64 ev.v, .int .i64 ev.x] 53)
          have hE := At.new wr #[.int .i64 ev.k, .int .i64 ev.t, .int .i64 ev.v, .int .i64 ev.x] 53
          have hE1 := hE.cell (i := 1) rfl
          clear hy hb c0 c1 c2 c3 hE
          generalize wr.heap.size = N at *
          generalize wr.alloc (.cells #[.int .i64 ev.k, .int .i64 ev.t, .int .i64 ev.v, .int .i64 ev.x] 53) = w1 at *
          go_wp2_with (at_builtin; refine wpList_append_own _ rfl _ _ 24 rfl w.heap.size 3 j0 (.int .i64 0) 1 8 Tryz.underlying24 hj0 hy0 hy1' hy2' rfl (by decide) _ _ _ rfl (hy1.alloc _) ⟨w1.heap.size, 0, none⟩ 1 1 [.int .i64 ev.t] rfl rfl ?d1 ?d2 ?d3 ?d4 ?d5 ?_)
          case d1 => exact cell_one_at _ _ _
          case d2 => intro u hu; simp at hu; subst hu; rfl
          case d3 => unfold maxLen; omega
          case d4 => omega
          case d5 => have := hb1.size; simp; omega
          intro v2 w3 hy3 hg3 _
          have hb3 : Below w.heap.size w w3 := (hb1.alloc hb1.size _).grown hg3 (by have := hb1.size; simp; omega) (fun k' hk' => (hy1.lt k' hk').1)
          have HY : Hid (w3.ownsRow w.heap.size 3 1 v2 (namesOf (h.take (k + 1))).length (ints (namesOf (h.take (k + 1))))) := by
            unfold Hid
            rw [HA.out, List.length_append]
            unfold ints at *
            rw [List.map_append]
            exact hy3
          clear hy1 hy3 hg3 hb1
          go_wp2
          go_roundw
          case rel => exact ⟨k + 1, by omega, by go_num, HY.out, hb3⟩
          case measure => simp [intOf]; omega
    · go_wp2
      obtain rfl : k = h.length := by omega
      rw [List.take_length] at hy
      go_ret
      exact ⟨_, rfl, hy, hb⟩

theorem rright_0 (k t v x : Int) (w : World) (h0 : k < 0) :
    Calls Tryz.prog 88 #[.agg #[.int .i64 k, .int .i64 t, .int .i64 v, .int .i64 x]] w fun e w' => e = .returned (.bool false) ∧ Below w.heap.size w w' := by
  go_enter Tryz.func88, Tryz.ntmps88
  go_wp2
  go_ret
  exact ⟨rfl, (Below.refl _ _).alloc (Nat.le_refl _) _⟩
theorem rright_1 (k t v x : Int) (w : World) (h0 : ¬ k < 0) (h1 : 9 < k) :
    Calls Tryz.prog 88 #[.agg #[.int .i64 k, .int .i64 t, .int .i64 v, .int .i64 x]] w fun e w' => e = .returned (.bool false) ∧ Below w.heap.size w w' := by
  go_enter Tryz.func88, Tryz.ntmps88
  go_wp2
  go_ret
  exact ⟨rfl, (Below.refl _ _).alloc (Nat.le_refl _) _⟩
theorem rright_2 (k t v x : Int) (w : World) (h0 : ¬ k < 0) (h1 : ¬ 9 < k) (h2 : t < 0) :
    Calls Tryz.prog 88 #[.agg #[.int .i64 k, .int .i64 t, .int .i64 v, .int .i64 x]] w fun e w' => e = .returned (.bool false) ∧ Below w.heap.size w w' := by
  go_enter Tryz.func88, Tryz.ntmps88
  go_wp2
  go_ret
  exact ⟨rfl, (Below.refl _ _).alloc (Nat.le_refl _) _⟩
theorem rright_3 (k t v x : Int) (w : World) (h0 : ¬ k < 0) (h1 : ¬ 9 < k) (h2 : ¬ t < 0) (h3 : 9999 < t) :
    Calls Tryz.prog 88 #[.agg #[.int .i64 k, .int .i64 t, .int .i64 v, .int .i64 x]] w fun e w' => e = .returned (.bool false) ∧ Below w.heap.size w w' := by
  go_enter Tryz.func88, Tryz.ntmps88
  go_wp2
  go_ret
  exact ⟨rfl, (Below.refl _ _).alloc (Nat.le_refl _) _⟩
theorem rright_4 (k t v x : Int) (w : World) (h0 : ¬ k < 0) (h1 : ¬ 9 < k) (h2 : ¬ t < 0) (h3 : ¬ 9999 < t) (h4 : v < 0) :
    Calls Tryz.prog 88 #[.agg #[.int .i64 k, .int .i64 t, .int .i64 v, .int .i64 x]] w fun e w' => e = .returned (.bool false) ∧ Below w.heap.size w w' := by
  go_enter Tryz.func88, Tryz.ntmps88
  go_wp2
  go_ret
  exact ⟨rfl, (Below.refl _ _).alloc (Nat.le_refl _) _⟩
theorem rright_5 (k t v x : Int) (w : World) (h0 : ¬ k < 0) (h1 : ¬ 9 < k) (h2 : ¬ t < 0) (h3 : ¬ 9999 < t) (h4 : ¬ v < 0) (h5 : 7 < v) :
    Calls Tryz.prog 88 #[.agg #[.int .i64 k, .int .i64 t, .int .i64 v, .int .i64 x]] w fun e w' => e = .returned (.bool false) ∧ Below w.heap.size w w' := by
  go_enter Tryz.func88, Tryz.ntmps88
  go_wp2
  go_ret
  exact ⟨rfl, (Below.refl _ _).alloc (Nat.le_refl _) _⟩
theorem rright_6 (k t v x : Int) (w : World) (h0 : ¬ k < 0) (h1 : ¬ 9 < k) (h2 : ¬ t < 0) (h3 : ¬ 9999 < t) (h4 : ¬ v < 0) (h5 : ¬ 7 < v) (hx : inR x = false) :
    Calls Tryz.prog 88 #[.agg #[.int .i64 k, .int .i64 t, .int .i64 v, .int .i64 x]] w fun e w' => e = .returned (.bool false) ∧ Below w.heap.size w w' := by
  have HX := Lib.hid hx
  clear hx
  go_enter Tryz.func88, Tryz.ntmps88
  go_wp2_with fail
  refine (refNumber_any _ _).mono ?_
  rintro e w1 ⟨rfl, rfl⟩
  rw [HX.out]
  go_wp2
  go_ret
  exact ⟨rfl, (Below.refl _ _).alloc (Nat.le_refl _) _⟩
theorem rright_v00xx (kk : Nat) (t v x : Int) (w : World) (hk : kk < 10) (h2 : ¬ t < 0) (h3 : ¬ 9999 < t) (h4 : ¬ v < 0) (h5 : ¬ 7 < v) (hx : inR x = true) (hV : hasV kk = false) (tv : ((v : Int) == 0) = false) :
    Calls Tryz.prog 88 #[.agg #[.int .i64 kk, .int .i64 t, .int .i64 v, .int .i64 x]] w fun e w' => e = .returned (.bool false) ∧ Below w.heap.size w w' := by
  have h0 : ¬ (kk : Int) < 0 := by omega
  have h1 : ¬ 9 < (kk : Int) := by omega
  have HX := Lib.hid hx
  have HV := Lib.hid hV
  clear hx hV
  go_enter Tryz.func88, Tryz.ntmps88
  go_wp2_with fail
  refine (refNumber_any _ _).mono ?_
  rintro e w1 ⟨rfl, rfl⟩
  rw [HX.out]
  go_wp2_with fail
  refine (variable_any kk hk _).mono ?_
  rintro e w1 ⟨rfl, rfl⟩
  rw [HV.out]
  go_wp2
  go_ret
  exact ⟨rfl, (Below.refl _ _).alloc (Nat.le_refl _) _⟩
theorem rright_v0100 (kk : Nat) (t v x : Int) (w : World) (hk : kk < 10) (h2 : ¬ t < 0) (h3 : ¬ 9999 < t) (h4 : ¬ v < 0) (h5 : ¬ 7 < v) (hx : inR x = true) (hV : hasV kk = false) (tv : ((v : Int) == 0) = true) (hX : hasX kk = false) (tx : ((x : Int) == 0) = false) :
    Calls Tryz.prog 88 #[.agg #[.int .i64 kk, .int .i64 t, .int .i64 v, .int .i64 x]] w fun e w' => e = .returned (.bool false) ∧ Below w.heap.size w w' := by
  have h0 : ¬ (kk : Int) < 0 := by omega
  have h1 : ¬ 9 < (kk : Int) := by omega
  have HX := Lib.hid hx
  have HV := Lib.hid hV
  have HW := Lib.hid hX
  clear hX
  clear hx hV
  go_enter Tryz.func88, Tryz.ntmps88
  go_wp2_with fail
  refine (refNumber_any _ _).mono ?_
  rintro e w1 ⟨rfl, rfl⟩
  rw [HX.out]
  go_wp2_with fail
  refine (variable_any kk hk _).mono ?_
  rintro e w1 ⟨rfl, rfl⟩
  rw [HV.out]
  go_wp2_with fail
  refine (value_any kk hk _).mono ?_
  rintro e w1 ⟨rfl, rfl⟩
  rw [HW.out]
  go_wp2
  go_ret
  exact ⟨rfl, (Below.refl _ _).alloc (Nat.le_refl _) _⟩
theorem rright_v0101 (kk : Nat) (t v x : Int) (w : World) (hk : kk < 10) (h2 : ¬ t < 0) (h3 : ¬ 9999 < t) (h4 : ¬ v < 0) (h5 : ¬ 7 < v) (hx : inR x = true) (hV : hasV kk = false) (tv : ((v : Int) == 0) = true) (hX : hasX kk = false) (tx : ((x : Int) == 0) = true) :
    Calls Tryz.prog 88 #[.agg #[.int .i64 kk, .int .i64 t, .int .i64 v, .int .i64 x]] w fun e w' => e = .returned (.bool true) ∧ Below w.heap.size w w' := by
  have h0 : ¬ (kk : Int) < 0 := by omega
  have h1 : ¬ 9 < (kk : Int) := by omega
  have HX := Lib.hid hx
  have HV := Lib.hid hV
  have HW := Lib.hid hX
  clear hX
  clear hx hV
  go_enter Tryz.func88, Tryz.ntmps88
  go_wp2_with fail
  refine (refNumber_any _ _).mono ?_
  rintro e w1 ⟨rfl, rfl⟩
  rw [HX.out]
  go_wp2_with fail
  refine (variable_any kk hk _).mono ?_
  rintro e w1 ⟨rfl, rfl⟩
  rw [HV.out]
  go_wp2_with fail
  refine (value_any kk hk _).mono ?_
  rintro e w1 ⟨rfl, rfl⟩
  rw [HW.out]
  go_wp2
  go_ret
  exact ⟨rfl, (Below.refl _ _).alloc (Nat.le_refl _) _⟩
theorem rright_v011x (kk : Nat) (t v x : Int) (w : World) (hk : kk < 10) (h2 : ¬ t < 0) (h3 : ¬ 9999 < t) (h4 : ¬ v < 0) (h5 : ¬ 7 < v) (hx : inR x = true) (hV : hasV kk = false) (tv : ((v : Int) == 0) = true) (hX : hasX kk = true) :
    Calls Tryz.prog 88 #[.agg #[.int .i64 kk, .int .i64 t, .int .i64 v, .int .i64 x]] w fun e w' => e = .returned (.bool true) ∧ Below w.heap.size w w' := by
  have h0 : ¬ (kk : Int) < 0 := by omega
  have h1 : ¬ 9 < (kk : Int) := by omega
  have HX := Lib.hid hx
  have HV := Lib.hid hV
  have HW := Lib.hid hX
  clear hX
  clear hx hV
  go_enter Tryz.func88, Tryz.ntmps88
  go_wp2_with fail
  refine (refNumber_any _ _).mono ?_
  rintro e w1 ⟨rfl, rfl⟩
  rw [HX.out]
  go_wp2_with fail
  refine (variable_any kk hk _).mono ?_
  rintro e w1 ⟨rfl, rfl⟩
  rw [HV.out]
  go_wp2_with fail
  refine (value_any kk hk _).mono ?_
  rintro e w1 ⟨rfl, rfl⟩
  rw [HW.out]
  go_wp2
  go_ret
  exact ⟨rfl, (Below.refl _ _).alloc (Nat.le_refl _) _⟩
theorem rright_v1x00 (kk : Nat) (t v x : Int) (w : World) (hk : kk < 10) (h2 : ¬ t < 0) (h3 : ¬ 9999 < t) (h4 : ¬ v < 0) (h5 : ¬ 7 < v) (hx : inR x = true) (hV : hasV kk = true) (hX : hasX kk = false) (tx : ((x : Int) == 0) = false) :
    Calls Tryz.prog 88 #[.agg #[.int .i64 kk, .int .i64 t, .int .i64 v, .int .i64 x]] w fun e w' => e = .returned (.bool false) ∧ Below w.heap.size w w' := by
  have h0 : ¬ (kk : Int) < 0 := by omega
  have h1 : ¬ 9 < (kk : Int) := by omega
  have HX := Lib.hid hx
  have HV := Lib.hid hV
  have HW := Lib.hid hX
  clear hX
  clear hx hV
  go_enter Tryz.func88, Tryz.ntmps88
  go_wp2_with fail
  refine (refNumber_any _ _).mono ?_
  rintro e w1 ⟨rfl, rfl⟩
  rw [HX.out]
  go_wp2_with fail
  refine (variable_any kk hk _).mono ?_
  rintro e w1 ⟨rfl, rfl⟩
  rw [HV.out]
  go_wp2_with fail
  refine (value_any kk hk _).mono ?_
  rintro e w1 ⟨rfl, rfl⟩
  rw [HW.out]
  go_wp2
  go_ret
  exact ⟨rfl, (Below.refl _ _).alloc (Nat.le_refl _) _⟩
theorem rright_v1x01 (kk : Nat) (t v x : Int) (w : World) (hk : kk < 10) (h2 : ¬ t < 0) (h3 : ¬ 9999 < t) (h4 : ¬ v < 0) (h5 : ¬ 7 < v) (hx : inR x = true) (hV : hasV kk = true) (hX : hasX kk = false) (tx : ((x : Int) == 0) = true) :
    Calls Tryz.prog 88 #[.agg #[.int .i64 kk, .int .i64 t, .int .i64 v, .int .i64 x]] w fun e w' => e = .returned (.bool true) ∧ Below w.heap.size w w' := by
  have h0 : ¬ (kk : Int) < 0 := by omega
  have h1 : ¬ 9 < (kk : Int) := by omega
  have HX := Lib.hid hx
  have HV := Lib.hid hV
  have HW := Lib.hid hX
  clear hX
  clear hx hV
  go_enter Tryz.func88, Tryz.ntmps88
  go_wp2_with fail
  refine (refNumber_any _ _).mono ?_
  rintro e w1 ⟨rfl, rfl⟩
  rw [HX.out]
  go_wp2_with fail
  refine (variable_any kk hk _).mono ?_
  rintro e w1 ⟨rfl, rfl⟩
  rw [HV.out]
  go_wp2_with fail
  refine (value_any kk hk _).mono ?_
  rintro e w1 ⟨rfl, rfl⟩
  rw [HW.out]
  go_wp2
  go_ret
  exact ⟨rfl, (Below.refl _ _).alloc (Nat.le_refl _) _⟩
theorem rright_v1x1x (kk : Nat) (t v x : Int) (w : World) (hk : kk < 10) (h2 : ¬ t < 0) (h3 : ¬ 9999 < t) (h4 : ¬ v < 0) (h5 : ¬ 7 < v) (hx : inR x = true) (hV : hasV kk = true) (hX : hasX kk = true) :
    Calls Tryz.prog 88 #[.agg #[.int .i64 kk, .int .i64 t, .int .i64 v, .int .i64 x]] w fun e w' => e = .returned (.bool true) ∧ Below w.heap.size w w' := by
  have h0 : ¬ (kk : Int) < 0 := by omega
  have h1 : ¬ 9 < (kk : Int) := by omega
  have HX := Lib.hid hx
  have HV := Lib.hid hV
  have HW := Lib.hid hX
  clear hX
  clear hx hV
  go_enter Tryz.func88, Tryz.ntmps88
  go_wp2_with fail
  refine (refNumber_any _ _).mono ?_
  rintro e w1 ⟨rfl, rfl⟩
  rw [HX.out]
  go_wp2_with fail
  refine (variable_any kk hk _).mono ?_
  rintro e w1 ⟨rfl, rfl⟩
  rw [HV.out]
  go_wp2_with fail
  refine (value_any kk hk _).mono ?_
  rintro e w1 ⟨rfl, rfl⟩
  rw [HW.out]
  go_wp2
  go_ret
  exact ⟨rfl, (Below.refl _ _).alloc (Nat.le_refl _) _⟩
theorem rright_any (e : Ev) (w : World) : Calls Tryz.prog 88 #[evVal e] w fun en w' => en = .returned (.bool (evOk e)) ∧ Below w.heap.size w w' := by
  obtain ⟨k, t, v, x⟩ := e
  unfold evVal
  by_cases c0 : k < 0
  · rw [show evOk ⟨k, t, v, x⟩ = false by simp [evOk, inB]; omega]; exact rright_0 k t v x w c0
  by_cases c1 : 9 < k
  · rw [show evOk ⟨k, t, v, x⟩ = false by simp [evOk, inB]; omega]; exact rright_1 k t v x w c0 c1
  by_cases c2 : t < 0
  · rw [show evOk ⟨k, t, v, x⟩ = false by simp [evOk, inB]; omega]; exact rright_2 k t v x w c0 c1 c2
  by_cases c3 : 9999 < t
  · rw [show evOk ⟨k, t, v, x⟩ = false by simp [evOk, inB]; omega]; exact rright_3 k t v x w c0 c1 c2 c3
  by_cases c4 : v < 0
  · rw [show evOk ⟨k, t, v, x⟩ = false by simp [evOk, inB]; omega]; exact rright_4 k t v x w c0 c1 c2 c3 c4
  by_cases c5 : 7 < v
  · rw [show evOk ⟨k, t, v, x⟩ = false by simp [evOk, inB]; omega]; exact rright_5 k t v x w c0 c1 c2 c3 c4 c5
  cases hx : inR x with
  | false =>
    rw [show evOk ⟨k, t, v, x⟩ = false by simp only [inR, Bool.and_eq_false_iff, decide_eq_false_iff_not] at hx; simp [evOk, inB]; omega]
    exact rright_6 k t v x w c0 c1 c2 c3 c4 c5 hx
  | true =>
    obtain ⟨kk, rfl⟩ : ∃ kk : Nat, k = (kk : Int) := ⟨k.toNat, by omega⟩
    have hk : kk < 10 := by omega
    have hx2 := hx
    simp only [inR, Bool.and_eq_true, decide_eq_true_eq] at hx2
    have he : evOk ⟨kk, t, v, x⟩ = ((hasV kk || v == 0) && (hasX kk || x == 0)) := by
      have b1 : inB (kk : Int) 0 9 = true := by simp [inB]; omega
      have b2 : inB t 0 9999 = true := by simp [inB]; omega
      have b3 : inB v 0 7 = true := by simp [inB]; omega
      have b4 : inB x (-2147483648) 2147483647 = true := by simp [inB]; omega
      simp only [evOk, Int.toNat_natCast, b1, b2, b3, b4, Bool.true_and, Bool.and_true]
    rw [he]
    cases hV : hasV kk with
    | true =>
      cases hX : hasX kk with
      | true => exact rright_v1x1x kk t v x w hk c2 c3 c4 c5 hx hV hX
      | false =>
        cases tx : (x == 0) with
        | true => exact rright_v1x01 kk t v x w hk c2 c3 c4 c5 hx hV hX tx
        | false => exact rright_v1x00 kk t v x w hk c2 c3 c4 c5 hx hV hX tx
    | false =>
      cases tv : (v == 0) with
      | false => exact rright_v00xx kk t v x w hk c2 c3 c4 c5 hx hV tv
      | true =>
        cases hX : hasX kk with
        | true => exact rright_v011x kk t v x w hk c2 c3 c4 c5 hx hV tv hX
        | false =>
          cases tx : (x == 0) with
          | true => exact rright_v0101 kk t v x w hk c2 c3 c4 c5 hx hV tv hX tx
          | false => exact rright_v0100 kk t v x w hk c2 c3 c4 c5 hx hV tv hX tx
end Go.Proofs.YtmnblljenobofaaGreatDoor
