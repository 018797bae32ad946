/- The walks of the laws' alive, and of TableTells. -/
import Derived.Test.YtpbkieeheepelaaDoorTabF
import Derived.Test.YtpbkieeheepelaaDoorTabJ
import Derived.Test.YtpbkieeheepelaaDoorTabK
namespace Go.Proofs.YtpbkieeheepelaaDoor.WPlain
end Go.Proofs.YtpbkieeheepelaaDoor.WPlain
namespace Go.Proofs.YtpbkieeheepelaaDoor.QPlain
end Go.Proofs.YtpbkieeheepelaaDoor.QPlain
namespace Go.Proofs.YtpbkieeheepelaaDoor.RPlain
end Go.Proofs.YtpbkieeheepelaaDoor.RPlain
namespace Go.Proofs.YtpbkieeheepelaaDoor
open Go.RowKit WPlain QPlain RPlain

theorem evs_at {w : World} {b : Nat} {t : TypeId} (c : Nat) (l : List Ev) (h : At w b (evsCells l).toArray t) : Evs w (.slice (some ⟨b, 0, none⟩) l.length c) l := by
  by_cases h0 : 0 < l.length
  · refine .inr ⟨h0, b, 0, c, rfl, h.lt, fun i hi => ?_⟩
    have hq : ∀ j, j < 4 → w.cell? ⟨b, 0 + i * 4 + j, none⟩ = (evCells l[i])[j]? := by
      intro j hj
      have h1 := evsCells_get l i hi j hj
      have hj4 : j < (evCells l[i]).length := hj
      rw [List.getElem?_eq_getElem hj4] at h1 ⊢
      rw [Nat.zero_add]
      exact h.cell (by simpa using h1)
    exact ⟨hq 0 (by omega), hq 1 (by omega), hq 2 (by omega), hq 3 (by omega)⟩
  · have : l = [] := List.length_eq_zero_iff.1 (by omega)
    subst this
    exact Evs.nil _ _ _
theorem tableAlive : tableS [⟨0, 1, 0, 0⟩, ⟨1, 1, 0, 0⟩, ⟨2, 1, 2, 0⟩, ⟨3, 1, 0, 5⟩] = [⟨1, 0, 3, 0, [⟨false, 2, 5⟩]⟩] := by decide +kernel
set_option maxRecDepth 100000 in
set_option maxHeartbeats 1000000 in
theorem aliveT_any (w : World) (hK : HasK w) : Calls Tryd.prog 9 #[] w fun e w' => e = .returned (.bool true) ∧ Below w.heap.size w w' := by
  have hb0 := (Below.refl w.heap.size w).alloc (Nat.le_refl _) (.cells (evsCells [⟨0, 1, 0, 0⟩, ⟨1, 1, 0, 0⟩, ⟨2, 1, 2, 0⟩, ⟨3, 1, 0, 5⟩]).toArray 41)
  have hE := evs_at 4 [⟨0, 1, 0, 0⟩, ⟨1, 1, 0, 0⟩, ⟨2, 1, 2, 0⟩, ⟨3, 1, 0, 5⟩] (At.new w (evsCells [⟨0, 1, 0, 0⟩, ⟨1, 1, 0, 0⟩, ⟨2, 1, 2, 0⟩, ⟨3, 1, 0, 5⟩]).toArray 41)
  have hT := table_any _ _ _ (hK.later hb0 (Nat.le_refl _)) hE (by simp)
  have hc : (checkS [⟨0, 1, 0, 0⟩, ⟨1, 1, 0, 0⟩, ⟨2, 1, 2, 0⟩, ⟨3, 1, 0, 5⟩]).2 = 0 := by decide +kernel
  rw [hc, if_pos rfl, tableAlive] at hT
  simp only [evsCells, evCells, List.flatMap_cons, List.flatMap_nil, List.append_nil, List.cons_append, List.nil_append, List.length_cons, List.length_nil] at hT hb0
  have HT := Lib.hid hT
  have HB0 := Lib.hid hb0
  clear hT hc hb0 hE hK
  go_enter Tryd.func9, Tryd.ntmps9
  go_wp2_with fail
  refine HT.out.mono ?_
  rintro e w2 ⟨v, rfl, hv, hb⟩
  have HB := Lib.hid (HB0.out.trans (hb.mono HB0.out.size))
  obtain ⟨b, o, c, rfl⟩ := hv.opened (by simp)
  obtain ⟨u, x0, x1, x2, x3, x4, q⟩ := hv.get 0 (by simp)
  have hq := q
  obtain ⟨ua, uc, rfl, -⟩ := q.len
  have hua : ∃ b2 o2, ua = some ⟨b2, o2, none⟩ := by
    rcases hq.1 with ⟨e0, _⟩ | ⟨_, b2, o2, c2, he, _⟩
    · simp at e0
    · exact ⟨b2, o2, by simp only [Value.slice.injEq] at he; exact he.1⟩
  obtain ⟨b2, o2, rfl⟩ := hua
  obtain ⟨y0, y1, y2⟩ := hq.get 0 (by simp)
  have hneq : ∀ w, (binOp .eql 55 (.agg #[.bool false, .int .i64 2, .int .i64 5]) (.agg #[.bool false, .int .i64 2, .int .i64 5])).run Tryd.prog w = .ok (.bool true) w := fun w => run_eql_op ⟨false, 2, 5⟩ ⟨false, 2, 5⟩ w
  have hgd := fun op p q w => run_guard_op op p q #[.bool false, .int .i64 2, .int .i64 5] #[.bool false, .int .i64 2, .int .i64 5] w
  simp only [List.getElem_cons_zero, Nat.zero_mul, Nat.add_zero, List.length_cons, List.length_nil, Nat.zero_add] at x0 x1 x2 x3 x4 y0 y1 y2
  clear hv hb HT q hq HB0
  go_wp2
  go_ret
  exact ⟨rfl, HB.out⟩
theorem ops_small {h : List Ev} (hl : h.length ≤ 65536) : ∀ X ∈ tableS h, X.o.length ≤ 65536 := by
  intro X hX
  obtain ⟨t, _, rfl⟩ := List.mem_map.1 hX
  exact Nat.le_trans (ops_le h t) hl
theorem table_small {h : List Ev} (hl : h.length ≤ 65536) : (tableS h).length ≤ 65536 := by
  rw [tableS_len]
  exact Nat.le_trans (namesOf_len h) hl
set_option maxRecDepth 100000 in
set_option maxHeartbeats 2000000 in
theorem tells_walk (a : Option Addr) (n m c : Nat) (h : List Ev) (w : World) (hK : HasK w) (hn : n ≤ c) (HAE : Hid ((min (n : Int) 65).toNat = m)) (hmn : m ≤ n) (hv : Evs w (.slice a m c) h) (h1 : h.length = m) (hm1 : m ≤ 65) :
    Calls Tryd.prog 3 #[.slice a n c] w fun e w' => e = .returned (.bool true) ∧ Below w.heap.size w w' := by
  have HK := Lib.hid hK
  have HT := Lib.hid (table_any _ h w hK hv (by omega))
  have HWH := Lib.hid (fun (W : World) (hW : Below w.heap.size w W) => why_any _ h W (hv.below hW (Nat.le_refl _)) (by omega) (fun a' n' c' he => by simp at he; omega))
  have HRT := Lib.hid (fun (W : World) (hW : Below w.heap.size w W) => refTable_any _ h W (hv.below hW (Nat.le_refl _)) (by omega) (fun a' n' c' he => by simp at he; omega))
  rw [whyS_check] at HWH
  have HOS := Lib.hid (ops_small (h := h) (by omega))
  have HTL := Lib.hid (table_small (h := h) (by omega))
  clear hK hv
  by_cases h0 : (checkS h).2 = 0
  · rw [h0, if_pos rfl] at HT
    rw [h0] at HWH
    clear h0
    go_enter Tryd.func3, Tryd.ntmps3
    go_wp2_with fail
    rw [HAE.out]
    refine HT.out.mono ?_
    rintro e w1 ⟨v1, rfl, hv1, hb1⟩
    have HB1 := Lib.hid hb1
    have HV1 := Lib.hid hv1
    obtain ⟨a1, c1, rfl⟩ := hv1.len
    clear hv1 hb1 HT
    go_wp2_with fail
    refine (HWH.out _ HB1.out).mono ?_
    rintro e w2 ⟨rfl, hb2⟩
    have HB2 := Lib.hid (HB1.out.trans (hb2.mono HB1.out.size))
    have HV2 := Lib.hid (HV1.out.below hb2 (Nat.le_refl _))
    clear hb2 HB1 HV1
    go_wp2_with fail
    refine (aliveT_any _ (HK.out.later HB2.out (Nat.le_refl _))).mono ?_
    rintro e w3 ⟨rfl, hb3⟩
    have HB3 := Lib.hid (HB2.out.trans (hb3.mono HB2.out.size))
    have HV3 := Lib.hid (HV2.out.below hb3 (Nat.le_refl _))
    clear hb3 HB2 HV2
    go_wp2_with fail
    refine (HRT.out _ HB3.out).mono ?_
    rintro e w4 ⟨v4, rfl, hv4, hb4⟩
    have HB4 := Lib.hid (HB3.out.trans (hb4.mono HB3.out.size))
    have HV4 := Lib.hid (HV3.out.below hb4 (Nat.le_refl _))
    obtain ⟨a4, c4, rfl⟩ := hv4.len
    have HV5 := Lib.hid hv4
    clear hv4 hb4 HB3 HV3
    go_wp2_with fail
    refine (refSame_any _ _ _ _ _ HV4.out HV5.out HTL.out HOS.out HOS.out).mono ?_
    rintro e w5 ⟨rfl, z, rfl⟩
    rw [decide_eq_true rfl]
    have HB5 := Lib.hid (below_drN HB4.out z)
    go_wp2
    go_ret
    exact ⟨rfl, HB5.out⟩
  · rw [if_neg h0] at HT
    obtain ⟨er, her⟩ : ∃ er, (checkS h).2 = er := ⟨_, rfl⟩
    rw [her] at HT HWH h0
    have te : ((er : Int) != 0) = true := by simp; omega
    clear her h0
    go_enter Tryd.func3, Tryd.ntmps3
    go_wp2_with fail
    rw [HAE.out]
    refine HT.out.mono ?_
    rintro e w1 ⟨v1, rfl, hv1, hb1⟩
    have HB1 := Lib.hid hb1
    obtain ⟨a1, c1, rfl⟩ := hv1.len
    clear hv1 hb1 HT
    go_wp2_with fail
    refine (HWH.out _ HB1.out).mono ?_
    rintro e w2 ⟨rfl, hb2⟩
    have HB2 := Lib.hid (HB1.out.trans (hb2.mono HB1.out.size))
    clear hb2 HB1
    go_wp2_with fail
    refine (aliveT_any _ (HK.out.later HB2.out (Nat.le_refl _))).mono ?_
    rintro e w3 ⟨rfl, hb3⟩
    have HB3 := Lib.hid (HB2.out.trans (hb3.mono HB2.out.size))
    go_wp2
    go_ret
    exact ⟨rfl, HB3.out⟩
theorem tells_any (a : Option Addr) (n c : Nat) (h : List Ev) (w : World) (hK : HasK w) (hn : n ≤ c) (hv : Evs w (.slice a (min (n : Int) 65).toNat c) h) :
    Calls Tryd.prog 3 #[.slice a n c] w fun e w' => e = .returned (.bool true) ∧ Below w.heap.size w w' := by
  obtain ⟨m, hm⟩ : ∃ m, (min (n : Int) 65).toNat = m := ⟨_, rfl⟩
  rw [hm] at hv
  exact tells_walk a n m c h w hK hn hm (by omega) hv hv.length.symm (by omega)
end Go.Proofs.YtpbkieeheepelaaDoor
