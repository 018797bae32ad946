/- The walk of package text's Print. -/
import Derived.Test.YtgebmjbfeakpgaaDoorTxtP
import Derived.Test.YtgebmjbfeakpgaaDoorTxtH
namespace Go.Proofs.YtgebmjbfeakpgaaDoor.WPlain
end Go.Proofs.YtgebmjbfeakpgaaDoor.WPlain
namespace Go.Proofs.YtgebmjbfeakpgaaDoor
open Go.RowKit WPlain

/-- eventWords and strings.Join behind it, in every later world -/
theorem joinRow (e : Ev) (w : World) {B : Nat} {v : Value} (hr : w.ownsRow B 9 1 v (evWords e).length ((evWords e).map fun l => Value.string ⟨l.toArray⟩)) (he : evOk e = true) :
    ∃ b : ByteArray, b.data.toList ++ [10] = evTxt e ∧ b.size ≤ 50 ∧ Calls Tryd.prog 34 #[v, .string ⟨#[32]⟩] w fun en w' => en = .returned (.string b) ∧ Below w.heap.size w w' := by
  have hj := evTxt_join e
  have hl := evTxt_len e he
  rw [← hj, List.length_append] at hl
  refine ⟨⟨(Lib.join (evWords e) [32]).toArray⟩, hj, by rw [Lib.size_eq]; simpa using Nat.le_trans (Nat.le_add_right _ _) hl, ?_⟩
  have h2 : 0 < (evWords e).length := by simp [evWords]
  have hR := Rd.of_row hr
  obtain ⟨b, o, c, hv, hb, hc⟩ := hR.opened (by rw [List.length_map]; exact h2)
  have hcap : (evWords e).length ≤ c := by
    rcases hr.2 with ⟨h0, hn⟩ | ⟨g, cap, cur, hv2, _, _, hn, _⟩
    · omega
    · rw [hv2] at hv
      simp only [Value.slice.injEq] at hv
      omega
  rw [List.length_map] at hv
  have hxs : ((evWords e).map fun l => (⟨l.toArray⟩ : ByteArray)).map (·.data.toList) = evWords e := by
    rw [List.map_map]
    conv => rhs; rw [← List.map_id (evWords e)]
    rfl
  have hJ := Tryd.strings_Join b o c ((evWords e).map fun l => (⟨l.toArray⟩ : ByteArray)) ⟨#[32]⟩ w
    (fun j x hx => hc j _ (by rw [List.getElem?_map] at hx ⊢; rw [Option.map_eq_some_iff] at hx ⊢; obtain ⟨l, h1, h3⟩ := hx; exact ⟨l, h1, by rw [← h3]⟩)) hb
    (by rw [List.length_map]; have : (evWords e).length ≤ 4 := by unfold evWords; cases hasV e.k.toNat <;> cases hasX e.k.toNat <;> simp
        omega) (by rw [List.length_map]; exact hcap) (by rw [hxs]; show (Lib.join (evWords e) [32]).length ≤ _; omega)
  rw [hxs, List.length_map] at hJ
  rw [hv]
  exact hJ

set_option maxRecDepth 100000 in
set_option maxHeartbeats 4000000 in
theorem tprint_yes (v : Value) (h : List Ev) (w : World) (hK : HasK w) (hP : HasP w) (hv : Evs w v h) (hr : right h = true) :
    Calls Tryd.prog 17 #[v] w fun e w' => e = .returned (.tuple #[.string ⟨(printTxt h).toArray⟩, .int .i64 0]) ∧ Below w.heap.size w w' := by
  have hr2 := hr
  simp only [right, Bool.and_eq_true, decide_eq_true_eq] at hr2
  obtain ⟨⟨h60, hall⟩, _⟩ := hr2
  have HALL : Hid (∀ e ∈ h, evOk e = true) := List.all_eq_true.1 hall
  have HR := Lib.hid hr
  have HC := Lib.hid (right_any v h w hK hv (by omega))
  have HK := Lib.hid hK
  have HP := Lib.hid hP
  have HV := Lib.hid hv
  obtain ⟨a, c, rfl⟩ := hv.len
  clear hr hall hK hP hv
  go_enter Tryd.func17, Tryd.ntmps17
  go_wp2_with fail
  refine HC.out.mono ?_
  rintro e w1 ⟨rfl, hb⟩
  rw [HR.out]
  go_wp2_with fail
  go_loopw [4, 12] (fun y x wr => ∃ (k : Nat) (b : ByteArray), k ≤ h.length ∧ x = .int .i64 k ∧ y = .string b ∧ Hid (b.data.toList = printTxt (h.take k)) ∧ b.size ≤ k * 60 ∧ Below w.heap.size w wr) (fun _ x _ => h.length - (intOf x).toNat)
  case atStart => exact ⟨0, ByteArray.empty, by omega, rfl, rfl, rfl, by simp, hb⟩
  case round =>
    clear hb
    obtain ⟨k, b, hk, rfl, rfl, HB, hbs, hb⟩ := hrel
    by_cases hlt : k < h.length
    · have hv2 := HV.out.below hb (Nat.le_refl _)
      have hbz := hb.size
      rcases hv2 with ⟨e0, _⟩ | ⟨l0, bb, o, c', he, hbl, hc⟩
      · rw [e0] at hlt; simp at hlt
      · obtain ⟨rfl, rfl⟩ : a = some ⟨bb, o, none⟩ ∧ c = c' := by simpa using he
        clear he
        obtain ⟨c0, c1, c2, c3⟩ := hc k hlt
        clear hc
        have hok := HALL.out h[k] (List.getElem_mem _)
        have hb2 := hb.alloc hb.size (.cells #[.int .i64 h[k].k, .int .i64 h[k].t, .int .i64 h[k].v, .int .i64 h[k].x] 42)
        have HEW := Lib.hid (eventWords_any h[k] _ (HK.out.later hb2 (Nat.le_refl _)) (HP.out.later hb2 (Nat.le_refl _)) hok)
        have hsn : h.take (k + 1) = h.take k ++ [h[k]] := List.take_succ_eq_append_getElem hlt
        have HSN : Hid (printTxt (h.take (k + 1)) = printTxt (h.take k) ++ evTxt h[k]) := by unfold Hid; rw [hsn, printTxt_snoc]
        have HOK := Lib.hid hok
        clear hok hsn
        generalize h[k] = ev at *
        go_wp2_with fail
        refine HEW.out.mono ?_
        rintro e w3 ⟨v3, rfl, hr3, hb3⟩
        have hb4 := hb2.trans (hb3.mono hb2.size)
        obtain ⟨jb, hj1, hj2, hj3⟩ := joinRow ev w3 hr3 HOK.out
        have HJ := Lib.hid hj3
        have HJ1 := Lib.hid hj1
        clear hb2 hb3 hb hr3 hj3 hj1
        go_wp2_with fail
        refine HJ.out.mono ?_
        rintro e w5 ⟨rfl, hb5⟩
        have hb6 := hb4.trans (hb5.mono hb4.size)
        have hn1 : (⟨#[10]⟩ : ByteArray).size = 1 := rfl
        have HN1 := Lib.hid hn1
        clear hb4 hb5 hn1
        have HBE : Hid ((b ++ (jb ++ ⟨#[10]⟩)).data.toList = printTxt (h.take (k + 1))) := by
          unfold Hid
          rw [HSN.out, ← HB.out, ← HJ1.out]
          simp
        have HBS : Hid ((b ++ (jb ++ ⟨#[10]⟩)).size ≤ (k + 1) * 60) := by
          unfold Hid
          rw [ByteArray.size_append, ByteArray.size_append, HN1.out]
          omega
        go_wp2
        go_roundw
        case rel => exact ⟨k + 1, b ++ (jb ++ ⟨#[10]⟩), by omega, by go_num, rfl, HBE, HBS.out, hb6⟩
        case measure => simp [intOf]; omega
    · obtain rfl : k = h.length := by omega
      have HF : Hid (b = ⟨(printTxt h).toArray⟩) := by
        unfold Hid
        have h1 := HB.out
        rw [List.take_length] at h1
        rw [← h1]
      go_wp2
      go_ret2
      exact ⟨by rw [← HF.out]; rfl, hb⟩
end Go.Proofs.YtgebmjbfeakpgaaDoor
