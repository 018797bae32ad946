/- The walk of ProperGoes. -/
import Derived.Test.YtidgpphapehgnaaDoorPrpK
import Derived.Test.YtidgpphapehgnaaDoorPrpM
import Derived.Test.YtidgpphapehgnaaDoorPrpN
namespace Go.Proofs.YtidgpphapehgnaaDoor.WPlain
end Go.Proofs.YtidgpphapehgnaaDoor.WPlain
namespace Go.Proofs.YtidgpphapehgnaaDoor.QPlain
end Go.Proofs.YtidgpphapehgnaaDoor.QPlain
namespace Go.Proofs.YtidgpphapehgnaaDoor
open Go.RowKit WPlain QPlain

theorem one_evP {w : World} {b : Nat} {e : Ev} {ty : TypeId} (h : At w b #[.int .i64 e.k, .int .i64 e.t, .int .i64 e.v, .int .i64 e.x] ty) (c : Nat) : Evs w (.slice (some ⟨b, 0, none⟩) 1 c) [e] := by
  refine .inr ⟨by simp, b, 0, c, rfl, h.lt, fun i hi => ?_⟩
  obtain rfl : i = 0 := by simp at hi; omega
  exact ⟨h.cell (i := 0) rfl, h.cell (i := 1) rfl, h.cell (i := 2) rfl, h.cell (i := 3) rfl⟩
theorem srcP {a : Option Addr} {n c : Nat} (h : a = none → c = 0) (hn : n ≤ c) : Src (.slice a n c) := by
  cases a with
  | none => have := h rfl; exact .inl (by rw [this, show n = 0 from by omega])
  | some p => exact .inr ⟨_, _, _, rfl⟩
set_option maxRecDepth 100000 in
set_option maxHeartbeats 2000000 in
theorem goes_wrong (a : Option Addr) (n m c : Nat) (h : List Ev) (ek et ev ex k : Int) (w : World) (hK : HasK w) (hn : n ≤ c) (HAE : Hid ((min (n : Int) 58).toNat = m)) (hv : Evs w (.slice a m c) h) (h1 : h.length = m) (hm1 : m ≤ 58) (hr : right h = false) :
    Calls Tryd.prog 5 #[.slice a n c, .agg #[.int .i64 ek, .int .i64 et, .int .i64 ev, .int .i64 ex], .int .i64 k] w fun e w' => e = .returned (.bool true) ∧ Below w.heap.size w w' := by
  have s1 : IntKind.i64.wrap ((m : Int) + 1) = ((m + 1 : Nat) : Int) := by rw [IntWalk.i64_in _ (by omega)]; omega
  have HK := Lib.hid hK
  have HCH := Lib.hid (fun (W : World) (hW : Below w.heap.size w W) => check_any _ h W (hK.later hW (Nat.le_refl _)) (hv.below hW (Nat.le_refl _)) (by omega))
  have hc : checkS h = (0, 1) := by unfold checkS; rw [hr]; rfl
  rw [hc] at HCH
  have hb0 := (Below.refl w.heap.size w).alloc (Nat.le_refl _) (.cells #[.int .i64 ek, .int .i64 et, .int .i64 ev, .int .i64 ex] 37)
  have HB0 := Lib.hid hb0
  clear hK hv hc hr hb0
  go_enter Tryd.func5, Tryd.ntmps5
  go_upto_region 2 with fail
  rw [HAE.out]
  have hm0 : ((m : Int) + 1 == 0) = false := by simp; omega
  have hm2 : (((m + 1 : Nat) : Int) == 0) = false := by simp; omega
  have hm3 : ¬ (((m + 1 : Nat) : Int) = 0) := by omega
  go_wp2_with fail
  generalize w.alloc (.cells #[.int .i64 ek, .int .i64 et, .int .i64 ev, .int .i64 ex] 37) = w0 at *
  refine (HCH.out _ HB0.out).mono ?_
  rintro e w1 ⟨rfl, hb1⟩
  have HB1 := Lib.hid (HB0.out.trans (hb1.mono HB0.out.size))
  clear hb1 HB0 HCH
  go_wp2_with fail
  refine (alive_any _ (HK.out.later HB1.out (Nat.le_refl _))).mono ?_
  rintro e w3 ⟨rfl, hb3⟩
  go_wp2
  go_ret
  exact ⟨rfl, HB1.out.trans (hb3.mono HB1.out.size)⟩
set_option maxRecDepth 100000 in
set_option maxHeartbeats 4000000 in
theorem goes_right (a : Option Addr) (n m c : Nat) (h : List Ev) (ek et ev ex k : Int) (K i er j sh n2 th s : Nat) (w : World) (hK : HasK w) (hn : n ≤ c) (hz : a = none → c = 0) (HAE : Hid ((min (n : Int) 58).toNat = m)) (hmn : m ≤ n) (hv : Evs w (.slice a m c) h) (h1 : h.length = m) (hm1 : m ≤ 58) (ht : (Lit.int .i64 et).wf = true)
    (HKE : Hid ((wrap64 (wrap64 (k.tmod ((m : Int) + 1) + (m : Int)) + 1)).tmod ((m : Int) + 1) = (K : Int))) (hKm : K ≤ m)
    (HC : Hid (checkS h = (i, er))) (HD : Hid (checkS (h.take K) = (j, sh))) (HE : Hid (checkS (h ++ [⟨ek, et, ev, ex⟩]) = (n2, th))) (HF : Hid ((flw0 h).1 et = s))
    (HT : Hid ((er = 0 ∧ i = m ∧ j = K ∧ sh = 0) ∨ (er = 6 ∧ K ≤ i ∧ j = K ∧ sh = 0) ∨ (er = 6 ∧ i < K ∧ j = i ∧ sh = 6)))
    (HM : Hid ((th = 1 ∧ n2 = 0) ∨ (er = 6 ∧ th = 6 ∧ n2 = i) ∨ (er = 0 ∧ th = 0 ∧ (kindsS s).contains ek = true) ∨ (er = 0 ∧ th = 6 ∧ n2 = m ∧ (kindsS s).contains ek = false))) :
    Calls Tryd.prog 5 #[.slice a n c, .agg #[.int .i64 ek, .int .i64 et, .int .i64 ev, .int .i64 ex], .int .i64 k] w fun e w' => e = .returned (.bool true) ∧ Below w.heap.size w w' := by
  have HK := Lib.hid hK
  have HCH := Lib.hid (fun (W : World) (hW : Below w.heap.size w W) => check_any _ h W (hK.later hW (Nat.le_refl _)) (hv.below hW (Nat.le_refl _)) (by omega))
  have HCT := Lib.hid (fun (W : World) (hW : Below w.heap.size w W) => check_any _ (h.take K) W (hK.later hW (Nat.le_refl _)) ((evs_cutP hv K (by omega)).below hW (Nat.le_refl _)) (by rw [List.length_take]; omega))
  have HCM := Lib.hid (fun (W : World) (v : Value) (hW : Below w.heap.size w W) (hE : Evs W v (h ++ [⟨ek, et, ev, ex⟩])) => check_any v _ W (hK.later hW (Nat.le_refl _)) hE (by simp; omega))
  have HNX := Lib.hid (fun (W : World) (hW : Below w.heap.size w W) => next_any _ h et W (hK.later hW (Nat.le_refl _)) (hv.below hW (Nat.le_refl _)) (by omega) ht)
  unfold Nxt at HNX
  rw [HC.out] at HCH HNX
  rw [HF.out] at HNX
  rw [HD.out] at HCT
  rw [HE.out] at HCM
  dsimp only at HCH HNX HCT HCM
  have HV := Lib.hid hv
  have HS := Lib.hid (srcP (n := m) hz (by omega))
  have hb0 := (Below.refl w.heap.size w).alloc (Nat.le_refl _) (.cells #[.int .i64 ek, .int .i64 et, .int .i64 ev, .int .i64 ex] 37)
  have HB0 := Lib.hid hb0
  have HBX := Lib.hid (At.new w #[.int .i64 ek, .int .i64 et, .int .i64 ev, .int .i64 ex] 37)
  have s1 : IntKind.i64.wrap ((m : Int) + 1) = ((m + 1 : Nat) : Int) := by rw [IntWalk.i64_in _ (by omega)]; omega
  have hm0 : ((m : Int) + 1 == 0) = false := by simp; omega
  have hm2 : (((m + 1 : Nat) : Int) == 0) = false := by simp; omega
  have hm3 : ¬ (((m + 1 : Nat) : Int) = 0) := by omega
  have hK0 : (0 : Int) ≤ (K : Int) := by omega
  have hKc : (K : Int) ≤ (c : Int) := by omega
  clear hK hv hb0 HC HD HE HF
  go_enter Tryd.func5, Tryd.ntmps5
  go_upto_region 2 with fail
  rw [HAE.out]
  go_upto_region 3 with fail
  rw [HKE.out]
  clear hm0 hm2 hm3 s1
  go_wp2_with fail
  generalize w.alloc (.cells #[.int .i64 ek, .int .i64 et, .int .i64 ev, .int .i64 ex] 37) = w0 at *
  refine (HCH.out _ HB0.out).mono ?_
  rintro e w1 ⟨rfl, hb1⟩
  have HB1 := Lib.hid (HB0.out.trans (hb1.mono HB0.out.size))
  have HBX1 := Lib.hid (HBX.out.below hb1 HBX.out.lt)
  have te : ((er : Int) == 1) = false := by
    have := HT.out
    simp
    omega
  clear hb1 HB0 HCH HBX
  go_wp2_with fail
  refine (HCT.out _ HB1.out).mono ?_
  rintro e w2 ⟨rfl, hb2⟩
  have HB2 := Lib.hid (HB1.out.trans (hb2.mono HB1.out.size))
  have HBX2 := Lib.hid (HBX1.out.below hb2 HBX1.out.lt)
  clear hb2 HB1 HCT HBX1
  go_upto_region 7 with fail
  go_cut [94] from 16 (fun c wx => c = .bool false ∧ Hid (Below w.heap.size w wx) ∧ Hid (At wx w.heap.size #[.int .i64 ek, .int .i64 et, .int .i64 ev, .int .i64 ex] 37))
  case first =>
    rcases HT.out with ⟨rfl, rfl, rfl, rfl⟩ | ⟨rfl, hle, rfl, rfl⟩ | ⟨rfl, hlt, rfl, rfl⟩
    · clear HT HNX HM te
      go_wp2_with fail
      refine (alive_any _ (HK.out.later HB2.out (Nat.le_refl _))).mono ?_
      rintro e w3 ⟨rfl, hb3⟩
      go_wp2_with fail
      go_meet
      exact ⟨rfl, HB2.out.trans (hb3.mono HB2.out.size), HBX2.out.below hb3 HBX2.out.lt⟩
    · have tl : decide (j ≤ i) = true := decide_eq_true hle
      clear HT HNX HM te
      go_wp2_with fail
      refine (alive_any _ (HK.out.later HB2.out (Nat.le_refl _))).mono ?_
      rintro e w3 ⟨rfl, hb3⟩
      go_wp2_with fail
      go_meet
      exact ⟨rfl, HB2.out.trans (hb3.mono HB2.out.size), HBX2.out.below hb3 HBX2.out.lt⟩
    · have tl : decide (K ≤ j) = false := decide_eq_false (by omega)
      clear HT HNX HM te
      go_wp2_with fail
      refine (alive_any _ (HK.out.later HB2.out (Nat.le_refl _))).mono ?_
      rintro e w3 ⟨rfl, hb3⟩
      go_wp2_with fail
      go_meet
      exact ⟨rfl, HB2.out.trans (hb3.mono HB2.out.size), HBX2.out.below hb3 HBX2.out.lt⟩
  case rest =>
  obtain ⟨rfl, HB3, HBX3⟩ := hcut
  clear HT HB2 HBX2 hK0 hKc
  have x0 := HBX3.out.cell (i := 0) (v := .int .i64 ek) rfl
  have x1 := HBX3.out.cell (i := 1) (v := .int .i64 et) rfl
  have x2 := HBX3.out.cell (i := 2) (v := .int .i64 ev) rfl
  have x3 := HBX3.out.cell (i := 3) (v := .int .i64 ex) rfl
  have hA1 := At.new wc #[.int .i64 ek, .int .i64 et, .int .i64 ev, .int .i64 ex] 37
  have hb1 := (Below.refl wc.heap.size wc).alloc (Nat.le_refl _) (.cells #[.int .i64 ek, .int .i64 et, .int .i64 ev, .int .i64 ex] 37)
  have hA2 := At.new (wc.alloc (.cells #[.int .i64 ek, .int .i64 et, .int .i64 ev, .int .i64 ex] 37)) #[.slice a m c, .slice (some ⟨wc.heap.size, 0, none⟩) 1 1] 22
  rw [World.size_alloc] at hA2
  have hb2 := hb1.alloc hb1.size (.cells #[.slice a m c, .slice (some ⟨wc.heap.size, 0, none⟩) 1 1] 22)
  have hE1 := one_evP (e := ⟨ek, et, ev, ex⟩) (hA1.alloc (.cells #[.slice a m c, .slice (some ⟨wc.heap.size, 0, none⟩) 1 1] 22)) 1
  have HCON := Lib.hid (concat2_any (wc.heap.size + 1) (.slice a m c) (.slice (some ⟨wc.heap.size, 0, none⟩) 1 1) h [⟨ek, et, ev, ex⟩] _ (hA2.cell (i := 0) rfl) (hA2.cell (i := 1) rfl) (HV.out.below (HB3.out.trans (hb2.mono HB3.out.size)) (Nat.le_refl _)) hE1 HS.out (.inr ⟨_, _, _, rfl⟩) (by omega) (by simp) (by simp))
  have HB4 := Lib.hid (HB3.out.trans (hb2.mono HB3.out.size))
  have HBX4 := Lib.hid (HBX3.out.below hb2 HBX3.out.lt)
  clear hA1 hb1 hA2 hb2 hE1 HB3 HBX3
  go_upto_region 10 with (go_at_call 15; refine HCON.out.mono ?_; rintro e w5 ⟨v5, rfl, -, hv5, hb5⟩)
  have HB5 := Lib.hid (HB4.out.trans (hb5.mono HB4.out.size))
  have HBX5 := Lib.hid (HBX4.out.below hb5 HBX4.out.lt)
  have HV5 := Lib.hid hv5
  clear hb5 hv5 HB4 HBX4 HCON x0 x1 x2 x3
  go_wp2_with fail
  refine (HCM.out _ _ HB5.out HV5.out).mono ?_
  rintro e w6 ⟨rfl, hb6⟩
  have HB6 := Lib.hid (HB5.out.trans (hb6.mono HB5.out.size))
  have HBX6 := Lib.hid (HBX5.out.below hb6 HBX5.out.lt)
  clear hb6 HB5 HBX5 HV5 HCM
  rcases HM.out with ⟨rfl, rfl⟩ | ⟨rfl, rfl, rfl⟩ | ⟨rfl, rfl, hck⟩ | ⟨rfl, rfl, rfl, hck⟩
  · clear HM HNX te
    go_wp2
    go_ret
    exact ⟨rfl, HB6.out⟩
  · clear HM HNX te
    go_wp2
    go_ret
    exact ⟨ret_bool (by simp), HB6.out⟩
  · have x1 := HBX6.out.cell (i := 1) (v := .int .i64 et) rfl
    have HCK := Lib.hid hck
    clear HM te hck
    go_wp2_with fail
    refine (HNX.out _ HB6.out).mono ?_
    rintro e w7 ⟨hb7, -, h7⟩
    obtain ⟨v7, rfl, hv7, h8⟩ := h7 trivial
    have HB7 := Lib.hid (HB6.out.trans (hb7.mono HB6.out.size))
    have hX7 := HBX6.out.below hb7 HBX6.out.lt
    have x0 := hX7.cell (i := 0) (v := .int .i64 ek) rfl
    have HV7 := Lib.hid hv7
    clear x1 hb7 hv7 h7 HB6 HBX6 hX7 HNX
    go_wp2_with fail
    refine (contains_any v7 (kindsS s) ek w7 HV7.out (Nat.le_trans (kinds_len h8) (by decide))).mono ?_
    rintro e w8 ⟨rfl, rfl⟩
    rw [HCK.out]
    go_wp2
    go_ret
    exact ⟨rfl, HB7.out⟩
  · have x1 := HBX6.out.cell (i := 1) (v := .int .i64 et) rfl
    have HCK := Lib.hid hck
    clear HM te hck
    go_wp2_with fail
    refine (HNX.out _ HB6.out).mono ?_
    rintro e w7 ⟨hb7, -, h7⟩
    obtain ⟨v7, rfl, hv7, h8⟩ := h7 trivial
    have HB7 := Lib.hid (HB6.out.trans (hb7.mono HB6.out.size))
    have hX7 := HBX6.out.below hb7 HBX6.out.lt
    have x0 := hX7.cell (i := 0) (v := .int .i64 ek) rfl
    have HV7 := Lib.hid hv7
    clear x1 hb7 hv7 h7 HB6 HBX6 hX7 HNX
    go_wp2_with fail
    refine (contains_any v7 (kindsS s) ek w7 HV7.out (Nat.le_trans (kinds_len h8) (by decide))).mono ?_
    rintro e w8 ⟨rfl, rfl⟩
    rw [HCK.out]
    go_wp2
    go_ret
    exact ⟨ret_bool (by simp), HB7.out⟩
theorem goes_any (a : Option Addr) (n c : Nat) (h : List Ev) (ek et ev ex k : Int) (w : World) (hK : HasK w) (hn : n ≤ c) (hz : a = none → c = 0) (ht : (Lit.int .i64 et).wf = true) (hv : Evs w (.slice a (min (n : Int) 58).toNat c) h) :
    Calls Tryd.prog 5 #[.slice a n c, .agg #[.int .i64 ek, .int .i64 et, .int .i64 ev, .int .i64 ex], .int .i64 k] w fun e w' => e = .returned (.bool true) ∧ Below w.heap.size w w' := by
  obtain ⟨m, hm⟩ : ∃ m, (min (n : Int) 58).toNat = m := ⟨_, rfl⟩
  rw [hm] at hv
  have hlen : h.length = m := hv.length.symm
  have hm1 : m ≤ 58 := by omega
  have hmn : m ≤ n := by omega
  cases hr : right h with
  | false => exact goes_wrong a n m c h ek et ev ex k w hK hn hm hv hlen hm1 hr
  | true =>
    have hp1 : k.tmod ((m : Int) + 1) < (m : Int) + 1 := Int.tmod_lt_of_pos _ (by omega)
    have hp2 : -((m : Int) + 1) < k.tmod ((m : Int) + 1) := Int.lt_tmod_of_pos _ (by omega)
    obtain ⟨K, hK1, hK2⟩ : ∃ K : Nat, (wrap64 (wrap64 (k.tmod ((m : Int) + 1) + (m : Int)) + 1)).tmod ((m : Int) + 1) = (K : Int) ∧ K ≤ m := by
      generalize k.tmod ((m : Int) + 1) = p at *
      rw [IntWalk.wrap64_in (p + m) (by omega), IntWalk.wrap64_in (p + m + 1) (by omega)]
      obtain ⟨q, hq⟩ : ∃ q : Nat, p + m + 1 = (q : Int) := ⟨(p + m + 1).toNat, by omega⟩
      refine ⟨q % (m + 1), ?_, ?_⟩
      · rw [hq]
        exact (Int.ofNat_tmod q (m + 1)).symm
      · have := Nat.mod_lt q (show 0 < m + 1 by omega)
        omega
    have hT := check_take hr (k := K) (by omega)
    have hM : ((checkS (h ++ [⟨ek, et, ev, ex⟩])).2 = 1 ∧ (checkS (h ++ [⟨ek, et, ev, ex⟩])).1 = 0) ∨ ((checkS h).2 = 6 ∧ (checkS (h ++ [⟨ek, et, ev, ex⟩])).2 = 6 ∧ (checkS (h ++ [⟨ek, et, ev, ex⟩])).1 = (checkS h).1) ∨
        ((checkS h).2 = 0 ∧ (checkS (h ++ [⟨ek, et, ev, ex⟩])).2 = 0 ∧ (kindsS ((flw0 h).1 et)).contains ek = true) ∨ ((checkS h).2 = 0 ∧ (checkS (h ++ [⟨ek, et, ev, ex⟩])).2 = 6 ∧ (checkS (h ++ [⟨ek, et, ev, ex⟩])).1 = m ∧ (kindsS ((flw0 h).1 et)).contains ek = false) := by
      cases hr2 : right (h ++ [⟨ek, et, ev, ex⟩]) with
      | false =>
        have : checkS (h ++ [⟨ek, et, ev, ex⟩]) = (0, 1) := by unfold checkS; rw [hr2]; rfl
        rw [this]
        exact .inl ⟨rfl, rfl⟩
      | true =>
        obtain ⟨_, h6 | ⟨h0, hi, hne⟩⟩ := check_snoc hr2
        · refine .inr (.inl ⟨h6.1, ?_, ?_⟩)
          · rw [h6.2]; exact h6.1
          · rw [h6.2]
        · by_cases hz0 : (checkS (h ++ [⟨ek, et, ev, ex⟩])).2 = 0
          · exact .inr (.inr (.inl ⟨h0, hz0, by simpa using hi.1 hz0⟩))
          · have he := hne hz0
            have hnm : ¬ ek ∈ kindsS ((flw0 h).1 et) := fun hc => hz0 (hi.2 hc)
            refine .inr (.inr (.inr ⟨h0, by rw [he], by rw [he]; exact hlen, by simpa using hnm⟩))
    refine goes_right a n m c h ek et ev ex k K (checkS h).1 (checkS h).2 (checkS (h.take K)).1 (checkS (h.take K)).2 (checkS (h ++ [(⟨ek, et, ev, ex⟩ : Ev)])).1 (checkS (h ++ [(⟨ek, et, ev, ex⟩ : Ev)])).2 ((flw0 h).1 et) w hK hn hz hm hmn hv hlen hm1 ht hK1 hK2 rfl rfl rfl rfl ?_ hM
    unfold Hid
    rcases hT with ⟨t1, t2, t3⟩ | ⟨t1, t2, t3⟩ | ⟨t1, t2, t3⟩
    · exact .inl ⟨t1, by omega, by rw [t3], by rw [t3]⟩
    · exact .inr (.inl ⟨t1, t2, by rw [t3], by rw [t3]⟩)
    · exact .inr (.inr ⟨t1, t2, by rw [t3], by rw [t3]⟩)
end Go.Proofs.YtidgpphapehgnaaDoor
