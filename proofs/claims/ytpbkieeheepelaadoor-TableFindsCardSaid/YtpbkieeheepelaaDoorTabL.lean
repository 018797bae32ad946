/- The walks of slices.EqualFunc at two tables, and of Like. -/
import Derived.Test.YtpbkieeheepelaaDoorTabK
namespace Go.Proofs.YtpbkieeheepelaaDoor.WPlain
end Go.Proofs.YtpbkieeheepelaaDoor.WPlain
namespace Go.Proofs.YtpbkieeheepelaaDoor.RPlain
end Go.Proofs.YtpbkieeheepelaaDoor.RPlain
namespace Go.Proofs.YtpbkieeheepelaaDoor
open Go.RowKit WPlain RPlain

set_option maxRecDepth 100000 in
set_option maxHeartbeats 4000000 in
theorem equalTx_any (v1 v2 : Value) (h1 h2 : List Tx) (w : World) (hv1 : Txs w v1 h1) (hv2 : Txs w v2 h2) (hl1 : h1.length ≤ 65536) (ho1 : ∀ X ∈ h1, X.o.length ≤ 65536) (ho2 : ∀ X ∈ h2, X.o.length ≤ 65536) :
    Calls Tryd.prog 30 #[v1, v2, .func (.func 31) #[] #[]] w fun e w' => e = .returned (.bool (decide (h1 = h2))) ∧ Below w.heap.size w w' := by
  have HB0 := Lib.hid (Below.refl w.heap.size w)
  by_cases hlen : h1.length = h2.length
  · by_cases h0 : 0 < h1.length
    · obtain ⟨b1, o1, c1, rfl⟩ := hv1.opened h0
      obtain ⟨b2, o2, c2, rfl⟩ := hv2.opened (by omega)
      have HC1 := Lib.hid hv1
      have HC2 := Lib.hid hv2
      have HO1 := Lib.hid ho1
      have HO2 := Lib.hid ho2
      clear hv1 hv2 ho1 ho2
      obtain ⟨r, hr⟩ : ∃ r, r = decide (h1 = h2) := ⟨_, rfl⟩
      rw [← hr]
      have HR := Lib.hid hr
      have HL := Lib.hid hlen
      clear hr
      rw [← hlen]
      clear hlen
      go_enter Tryd.func30, Tryd.ntmps30
      go_wp2
      go_loopw [17] (fun x wr => ∃ k : Nat, k ≤ h1.length ∧ x = .int .i64 k ∧ Hid (h1.take k = h2.take k) ∧ Hid (Below w.heap.size w wr)) (fun x _ => h1.length - (intOf x).toNat)
      case atStart => exact ⟨0, by omega, rfl, rfl, HB0⟩
      case round =>
        clear HB0
        obtain ⟨k, hk, rfl, HT, HB⟩ := hrel
        by_cases hlt : k < h1.length
        · have hlt2 : k < h2.length := by rw [← HL.out]; exact hlt
          obtain ⟨u1, x0, x1, x2, x3, x4, q1⟩ := (HC1.out.below HB.out (Nat.le_refl _)).get k hlt
          obtain ⟨u2, y0, y1, y2, y3, y4, q2⟩ := (HC2.out.below HB.out (Nat.le_refl _)).get k hlt2
          obtain ⟨ua1, uc1, rfl, -⟩ := q1.len
          obtain ⟨ua2, uc2, rfl, -⟩ := q2.len
          have hbl1 := cell_lt x0
          have hbl2 := cell_lt y0
          have k1 : (k : Int) < (h1.length : Int) := by omega
          have s1 : h1.take (k + 1) = h1.take k ++ [h1[k]] := List.take_succ_eq_append_getElem hlt
          have s2 : h2.take (k + 1) = h2.take k ++ [h2[k]] := List.take_succ_eq_append_getElem hlt2
          have hdif : h1[k] ≠ h2[k] → r = false := by
            intro he
            rw [HR.out]
            refine decide_eq_false fun h => he ?_
            subst h
            rfl
          have hsam : h1[k] = h2[k] → h1.take (k + 1) = h2.take (k + 1) := by
            intro he
            rw [s1, s2, HT.out, he]
          have hox := HO1.out _ (List.getElem_mem hlt)
          have hoy := HO2.out _ (List.getElem_mem hlt2)
          clear s1 s2
          generalize h1[k] = X at *
          generalize h2[k] = Y at *
          have bb := ((Below.refl wr.heap.size wr).alloc (Nat.le_refl _) (.cells #[.int .i64 X.n, .int .i64 X.f, .int .i64 X.l, .int .i64 X.s, .slice ua1 X.o.length uc1] 39)).alloc (by simp) (.cells #[.int .i64 Y.n, .int .i64 Y.f, .int .i64 Y.l, .int .i64 Y.s, .slice ua2 Y.o.length uc2] 39)
          have HBB := Lib.hid (HB.out.trans (bb.mono HB.out.size))
          have HIS := Lib.hid (isSame_any X Y _ _ _ (q1.below bb (Nat.le_refl _)) (q2.below bb (Nat.le_refl _)) hox hoy)
          have HD := Lib.hid hdif
          have HS := Lib.hid hsam
          clear q1 q2 bb hox hoy hdif hsam HB
          by_cases he : X = Y
          · have HT2 : Hid (h1.take (k + 1) = h2.take (k + 1)) := HS.out he
            rw [decide_eq_true he] at HIS
            clear he HS HD
            go_wp2_with fail
            refine HIS.out.mono ?_
            rintro e w3 ⟨rfl, hb3⟩
            have HB3 := Lib.hid (HBB.out.trans (hb3.mono HBB.out.size))
            go_wp2
            go_roundw
            case rel => exact ⟨k + 1, by omega, by go_num, HT2, HB3⟩
            case measure => simp [intOf]; omega
          · have HF : Hid (r = false) := HD.out he
            rw [decide_eq_false he] at HIS
            clear he HS HD
            go_wp2_with fail
            refine HIS.out.mono ?_
            rintro e w3 ⟨rfl, hb3⟩
            have HB3 := Lib.hid (HBB.out.trans (hb3.mono HBB.out.size))
            go_wp2
            go_ret
            exact ⟨by rw [HF.out]; rfl, HB3.out⟩
        · obtain rfl : k = h1.length := by omega
          have HF : Hid (r = true) := by
            unfold Hid
            rw [HR.out]
            have h := HT.out
            rw [List.take_length, HL.out, List.take_length] at h
            exact decide_eq_true h
          go_wp2
          go_ret
          exact ⟨by rw [HF.out]; rfl, HB.out⟩
    · obtain rfl : h1 = [] := List.length_eq_zero_iff.1 (by omega)
      obtain rfl : h2 = [] := List.length_eq_zero_iff.1 (by simp at hlen; omega)
      obtain ⟨a1, c1, rfl⟩ := hv1.len
      obtain ⟨a2, c2, rfl⟩ := hv2.len
      clear hv1 hv2
      go_enter Tryd.func30, Tryd.ntmps30
      go_wp2
      refine wp_loop_rounds 1 ?_
      rw [rounds_succ]
      go_wp2
      go_ret
      exact ⟨rfl, HB0.out⟩
  · obtain ⟨a1, c1, rfl⟩ := hv1.len
    obtain ⟨a2, c2, rfl⟩ := hv2.len
    clear hv1 hv2
    have ht : ((h1.length : Int) != (h2.length : Int)) = true := by simp; omega
    rw [decide_eq_false (fun h => hlen (by rw [h]))]
    clear hlen
    go_enter Tryd.func30, Tryd.ntmps30
    go_wp2
    go_ret
    exact ⟨rfl, HB0.out⟩
theorem likeTx_any (v1 v2 : Value) (h1 h2 : List Tx) (w : World) (hv1 : Txs w v1 h1) (hv2 : Txs w v2 h2) (hl1 : h1.length ≤ 65536) (ho1 : ∀ X ∈ h1, X.o.length ≤ 65536) (ho2 : ∀ X ∈ h2, X.o.length ≤ 65536) :
    Calls Tryd.prog 14 #[v1, v2] w fun e w' => e = .returned (.bool (decide (h1 = h2))) ∧ Below w.heap.size w w' := by
  have HE := Lib.hid (equalTx_any v1 v2 h1 h2 w hv1 hv2 hl1 ho1 ho2)
  obtain ⟨a1, c1, rfl⟩ := hv1.len
  obtain ⟨a2, c2, rfl⟩ := hv2.len
  clear hv1 hv2
  go_enter Tryd.func14, Tryd.ntmps14
  go_wp2_with fail
  refine HE.out.mono ?_
  rintro e w3 ⟨rfl, hb3⟩
  go_wp2
  go_ret
  exact ⟨rfl, hb3⟩
end Go.Proofs.YtpbkieeheepelaaDoor
