/- The walk of the reference's Next; and of ProperNext. -/
import Derived.Test.YtidgpphapehgnaaDoorPrpK
namespace Go.Proofs.YtidgpphapehgnaaDoor.WPlain
end Go.Proofs.YtidgpphapehgnaaDoor.WPlain
namespace Go.Proofs.YtidgpphapehgnaaDoor.QPlain
end Go.Proofs.YtidgpphapehgnaaDoor.QPlain
namespace Go.Proofs.YtidgpphapehgnaaDoor
open Go.RowKit WPlain QPlain

theorem row_belowP {w w' : World} {B : Nat} {e : TypeId} {s : Nat} {v : Value} {n : Nat} {xs : List Value} (h : w.ownsRow B e s v n xs) (hb : Below w.heap.size w w') : w'.ownsRow B e s v n xs := by
  refine ⟨h.1, ?_⟩
  rcases h.2 with hn | ⟨g, cap, cur, rfl, hB, hgg, rest⟩
  · exact .inl hn
  · refine .inr ⟨g, cap, cur, rfl, hB, ?_, rest⟩
    rw [hb.block g (Array.getElem?_eq_some_iff.1 hgg).1]
    exact hgg
/-- the kinds up to a number that may come behind a kind -/
def mayL (l : Int) (k : Nat) : List Int := ((List.range k).map Int.ofNat).filter (fun k => mayS l k)
theorem mayL_more (l : Int) (k : Nat) : mayL l (k + 1) = if mayS l (k : Int) = true then mayL l k ++ [(k : Int)] else mayL l k := by
  unfold mayL
  rw [List.range_succ, List.map_append, List.filter_append]
  simp only [List.map_cons, List.map_nil, List.filter_cons, List.filter_nil]
  show _ ++ (if mayS l (k : Int) = true then [(k : Int)] else []) = _
  split
  · rfl
  · rw [List.append_nil]
theorem mayL_len (l : Int) (k : Nat) : (mayL l k).length ≤ k := by
  unfold mayL
  exact Nat.le_trans (List.length_filter_le ..) (by simp)
set_option maxRecDepth 100000 in
set_option maxHeartbeats 1000000 in
theorem refNext_any (v : Value) (h : List Ev) (t : Int) (w : World) (hv : Evs w v h) (hl : h.length ≤ 65536) (hk : ∀ e ∈ h, 0 ≤ e.k ∧ e.k < 10) :
    Calls Tryd.prog 14 #[v, .int .i64 t] w fun e w' => ∃ v', e = .returned v' ∧ Rd w' v' (ints (kindsS (stOfL (lastOf h t)))) ∧ Below w.heap.size w w' := by
  have hlr := lastOf_range hk t
  have HLA : Hid (∀ W, Below w.heap.size w W → Calls Tryd.prog 24 #[v, .int .i64 t] W fun e w' => e = .returned (.int .i64 (lastOf h t)) ∧ Below W.heap.size W w') := fun W hW => last_any v h t W (hv.below hW (Nat.le_refl _)) hl
  obtain ⟨a, c, rfl⟩ := hv.len
  rw [← kinds_may hlr]
  show Calls _ _ _ _ fun e w' => ∃ v', e = .returned v' ∧ Rd w' v' (ints (mayL (lastOf h t) 10)) ∧ _
  generalize lastOf h t = l at *
  clear hv hk
  obtain ⟨j0, hj0, hy0, hy1', hy2'⟩ := info_parts info3
  have hrow := World.ownsRow_made (size := 1) (e := 3) (base := w.heap.size) w #[] 0 (Nat.le_refl _) (by unfold maxLen; omega) rfl
  have hb0 := (Below.refl w.heap.size w).alloc (Nat.le_refl _) (.cells #[] 3)
  have HB0 := Lib.hid hb0
  go_enter Tryd.func14, Tryd.ntmps14
  go_wp2_with fail
  clear hb0
  generalize w.alloc (.cells #[] 3) = w1 at *
  go_loopw [5, 6] (fun y x wr => ∃ k : Nat, k ≤ 10 ∧ x = .int .i64 k ∧ wr.ownsRow w.heap.size 3 1 y (mayL l k).length (ints (mayL l k)) ∧ Hid (Below w.heap.size w wr)) (fun _ x _ => 10 - (intOf x).toNat)
  case atStart => exact ⟨0, by omega, rfl, hrow, HB0⟩
  case round =>
    clear hrow HB0
    obtain ⟨k, hk, rfl, hy, HB⟩ := hrel
    have hnl := mayL_len l k
    by_cases hlt : k < 10
    · have HT := Lib.hid (mayL_more l k)
      have hltI : (k : Int) < 10 := by omega
      have hkr : (0 : Int) ≤ (k : Int) ∧ (k : Int) < 10 := by omega
      have HM := Lib.hid (fun W => may_any l (k : Int) hlr hkr W)
      clear hkr
      have HCL := Lib.hid (HLA.out _ HB.out)
      cases hm : mayS l (k : Int) with
      | true =>
        rw [hm] at HM
        have HA : Hid (mayL l (k + 1) = mayL l k ++ [(k : Int)]) := by unfold Hid; rw [HT.out, if_pos hm]
        clear hm HT
        generalize mayL l k = ss at *
        go_wp2_with fail
        refine HCL.out.mono ?_
        rintro e w3 ⟨rfl, hb3⟩
        have hy3 := row_belowP hy hb3
        have HB3 := Lib.hid (HB.out.trans (hb3.mono HB.out.size))
        clear hy hb3 HB HCL
        go_wp2_with fail
        refine (HM.out _).mono ?_
        rintro e w4 ⟨rfl, rfl⟩
        clear HM
        have hbs := HB3.out.size
        go_wp2_with (at_builtin; refine wpList_append_own _ rfl _ _ 30 rfl w.heap.size 3 j0 (.int .i64 0) 1 8 Tryd.underlying30 hj0 hy0 hy1' hy2' rfl (by decide) _ _ _ rfl (hy3.alloc _) ⟨w3.heap.size, 0, none⟩ 1 1 [.int .i64 (k : Int)] rfl rfl ?d1 ?d2 ?d3 ?d4 ?d5 ?_)
        case d1 => exact cell_one_at _ _ _
        case d2 => intro u hu; simp at hu; subst hu; rfl
        case d3 => unfold maxLen; omega
        case d4 => omega
        case d5 => simp; omega
        intro v2 w5 hy5 hg5 _
        have HB5 := Lib.hid ((HB3.out.alloc HB3.out.size (.cells #[.int .i64 (k : Int)] 3)).grown hg5 (by simp; omega) (fun k' hk' => (hy3.lt k' hk').1))
        have HY : Hid (w5.ownsRow w.heap.size 3 1 v2 (mayL l (k + 1)).length (ints (mayL l (k + 1)))) := by
          unfold Hid
          rw [HA.out, List.length_append]
          unfold ints at *
          rw [List.map_append]
          exact hy5
        clear hy3 hy5 hg5 HB3 hbs
        go_wp2
        go_roundw
        case rel => exact ⟨k + 1, by omega, by go_num, HY.out, HB5⟩
        case measure => simp [intOf]; omega
      | false =>
        rw [hm] at HM
        have HA : Hid (mayL l (k + 1) = mayL l k) := by unfold Hid; rw [HT.out, if_neg (by rw [hm]; simp)]
        clear hm HT
        generalize mayL l k = ss at *
        go_wp2_with fail
        refine HCL.out.mono ?_
        rintro e w3 ⟨rfl, hb3⟩
        have hy3 := row_belowP hy hb3
        have HB3 := Lib.hid (HB.out.trans (hb3.mono HB.out.size))
        clear hy hb3 HB HCL
        go_wp2_with fail
        refine (HM.out _).mono ?_
        rintro e w4 ⟨rfl, rfl⟩
        clear HM
        go_wp2
        go_roundw
        case rel => exact ⟨k + 1, by omega, by go_num, by rw [HA.out]; exact hy3, HB3⟩
        case measure => simp [intOf]; omega
    · obtain rfl : k = 10 := by omega
      have HY := Lib.hid (Rd.of_row hy)
      clear hy
      go_wp2
      go_ret
      exact ⟨_, rfl, HY.out, HB.out⟩
set_option maxRecDepth 100000 in
set_option maxHeartbeats 2000000 in
theorem nexts_walk (a : Option Addr) (n m c : Nat) (h : List Ev) (t : Int) (w : World) (hK : HasK w) (hn : n ≤ c) (ht : (Lit.int .i64 t).wf = true) (HAE : Hid ((min (n : Int) 65).toNat = m)) (hm : m ≤ n) (hv : Evs w (.slice a m c) h) (h1 : h.length = m) (hm1 : m ≤ 65) :
    Calls Tryd.prog 4 #[.slice a n c, .int .i64 t] w fun e w' => e = .returned (.bool true) ∧ Below w.heap.size w w' := by
  have HK := Lib.hid hK
  have HNX := Lib.hid (fun (W : World) (hW : Below w.heap.size w W) => next_any _ h t W (hK.later hW (Nat.le_refl _)) (hv.below hW (Nat.le_refl _)) (by omega) ht)
  have HWH := Lib.hid (fun (W : World) (hW : Below w.heap.size w W) => why_any _ h W (hv.below hW (Nat.le_refl _)) (by omega) (fun a' n' c' he => by simp at he; omega))
  have HRN : Hid ((checkS h).2 = 0 → ∀ W, Below w.heap.size w W → Calls Tryd.prog 14 #[.slice a m c, .int .i64 t] W fun e w' => ∃ v', e = .returned v' ∧ Rd w' v' (ints (kindsS ((flw0 h).1 t))) ∧ Below W.heap.size W w') := by
    intro hc W hW
    obtain ⟨hr, hA, _⟩ := check_agree hc
    rw [hA t]
    exact refNext_any _ h t W (hv.below hW (Nat.le_refl _)) (by omega) (fun e he => ((right_evs hr).2 e he).1)
  rw [whyS_check] at HWH
  unfold Nxt at HNX
  clear hK hv
  by_cases h0 : (checkS h).2 = 0
  · have HF := Lib.hid (HRN.out h0)
    rw [h0] at HWH HNX
    clear HRN
    generalize (flw0 h).1 t = s at *
    go_enter Tryd.func4, Tryd.ntmps4
    go_wp2_with fail
    rw [HAE.out]
    refine (HNX.out _ (Below.refl _ _)).mono ?_
    rintro e w1 ⟨hb1, -, h2⟩
    obtain ⟨v1, rfl, hv1, h8⟩ := h2 trivial
    have HB1 := Lib.hid hb1
    have HV1 := Lib.hid hv1
    clear hb1 hv1 h2
    go_wp2_with fail
    refine (HWH.out _ HB1.out).mono ?_
    rintro e w2 ⟨rfl, hb2⟩
    have HB2 := Lib.hid (HB1.out.trans (hb2.mono HB1.out.size))
    have HV2 := Lib.hid (HV1.out.below hb2 (Nat.le_refl _))
    clear hb2 HB1 HV1
    go_wp2_with fail
    refine (alive_any _ (HK.out.later HB2.out (Nat.le_refl _))).mono ?_
    rintro e w3 ⟨rfl, hb3⟩
    have HB3 := Lib.hid (HB2.out.trans (hb3.mono HB2.out.size))
    have HV3 := Lib.hid (HV2.out.below hb3 (Nat.le_refl _))
    clear hb3 HB2 HV2
    go_wp2_with fail
    refine (HF.out _ HB3.out).mono ?_
    rintro e w4 ⟨v4, rfl, hv4, hb4⟩
    have HB4 := Lib.hid (HB3.out.trans (hb4.mono HB3.out.size))
    have HV4 := Lib.hid (HV3.out.below hb4 (Nat.le_refl _))
    have HV5 := Lib.hid hv4
    clear hb4 hv4 HB3 HV3
    go_wp2_with fail
    refine (ints_same (kindsS s) v1 v4 _ (Nat.le_trans (kinds_len h8) (by decide)) HV4.out HV5.out).mono ?_
    rintro e w5 ⟨rfl, nd, rfl⟩
    have hbz := HB4.out
    go_wp2
    go_ret
    exact ⟨rfl, below_drewN hbz nd⟩
  · generalize (checkS h).2 = er at *
    have H0 := Lib.hid h0
    have t0 : ((er : Int) != 0) = true := by simp; omega
    clear HRN h0
    go_enter Tryd.func4, Tryd.ntmps4
    go_wp2_with fail
    rw [HAE.out]
    refine (HNX.out _ (Below.refl _ _)).mono ?_
    rintro e w1 ⟨hb1, h2, -⟩
    obtain rfl := h2 H0.out
    have HB1 := Lib.hid hb1
    clear hb1 h2
    go_wp2_with fail
    refine (HWH.out _ HB1.out).mono ?_
    rintro e w2 ⟨rfl, hb2⟩
    have HB2 := Lib.hid (HB1.out.trans (hb2.mono HB1.out.size))
    clear hb2 HB1
    go_wp2_with fail
    refine (alive_any _ (HK.out.later HB2.out (Nat.le_refl _))).mono ?_
    rintro e w3 ⟨rfl, hb3⟩
    have hbz := HB2.out.trans (hb3.mono HB2.out.size)
    go_wp2
    go_ret
    exact ⟨ret_bool (by simp), hbz⟩
theorem nexts_any (a : Option Addr) (n c : Nat) (h : List Ev) (t : Int) (w : World) (hK : HasK w) (hn : n ≤ c) (ht : (Lit.int .i64 t).wf = true) (hv : Evs w (.slice a (min (n : Int) 65).toNat c) h) :
    Calls Tryd.prog 4 #[.slice a n c, .int .i64 t] w fun e w' => e = .returned (.bool true) ∧ Below w.heap.size w w' := by
  obtain ⟨m, hm⟩ : ∃ m, (min (n : Int) 65).toNat = m := ⟨_, rfl⟩
  rw [hm] at hv
  exact nexts_walk a n m c h t w hK hn ht hm (by omega) hv hv.length.symm (by omega)
end Go.Proofs.YtidgpphapehgnaaDoor
