/- The walk of TableAlone. -/
import Derived.Test.YtpbkieeheepelaaDoorTabO
import Derived.Test.YtpbkieeheepelaaDoorTabN
import Derived.Test.YtpbkieeheepelaaDoorBinC
namespace Go.Proofs.YtpbkieeheepelaaDoor.WPlain
end Go.Proofs.YtpbkieeheepelaaDoor.WPlain
namespace Go.Proofs.YtpbkieeheepelaaDoor.QPlain
end Go.Proofs.YtpbkieeheepelaaDoor.QPlain
namespace Go.Proofs.YtpbkieeheepelaaDoor.RPlain
end Go.Proofs.YtpbkieeheepelaaDoor.RPlain
namespace Go.Proofs.YtpbkieeheepelaaDoor
open Go.RowKit WPlain QPlain RPlain

theorem srcT {a : Option Addr} {n c : Nat} (h : a = none → c = 0) (hn : n ≤ c) : Src (.slice a n c) := by
  cases a with
  | none => have := h rfl; exact .inl (by rw [this, show n = 0 from by omega])
  | some p => exact .inr ⟨_, _, _, rfl⟩
theorem check_alone {h : List Ev} (hc : (checkS h).2 = 0) {t : Int} (ht : t ∈ namesOf h) : (checkS (ofT h t)).2 = 0 := by
  have h1 := each_ok (check_agree hc).1
  rw [decide_eq_true hc, List.all_eq_true] at h1
  obtain ⟨e, he, rfl⟩ := (mem_names h t).1 ht
  simpa using h1 e he
set_option maxRecDepth 100000 in
set_option maxHeartbeats 4000000 in
theorem alone_walk (a : Option Addr) (n m c : Nat) (h : List Ev) (w : World) (hK : HasK w) (hn : n ≤ c) (hz : a = none → c = 0) (HAE : Hid ((min (n : Int) 65).toNat = m)) (hmn : m ≤ n) (hv : Evs w (.slice a m c) h) (h1 : h.length = m) (hm1 : m ≤ 65) :
    Calls Tryd.prog 6 #[.slice a n c] w fun e w' => e = .returned (.bool true) ∧ Below w.heap.size w w' := by
  have HK := Lib.hid hK
  have HT := Lib.hid (table_any _ h w hK hv (by omega))
  have HV := Lib.hid hv
  have HS := Lib.hid (srcT (n := m) hz (by omega))
  have HOS := Lib.hid (ops_small (h := h) (by omega))
  have HTL := Lib.hid (table_small (h := h) (by omega))
  clear hK hv hz
  by_cases h0 : (checkS h).2 = 0
  · rw [h0, if_pos rfl] at HT
    have HAL : Hid (∀ t ∈ namesOf h, (checkS (ofT h t)).2 = 0) := fun t ht => check_alone h0 ht
    have HAT : Hid (∀ t ∈ namesOf h, tableS (ofT h t) = [⟨t, 0, lstOf (ofT h t) t, stateS (lastOf h t), opsOf h t⟩]) := fun t ht => tableS_alone h t ht
    have h60 : h.length ≤ 60 := (right_evs (check_agree h0).1).1
    clear h0
    go_enter Tryd.func6, Tryd.ntmps6
    go_wp2_with fail
    rw [HAE.out]
    refine HT.out.mono ?_
    rintro e w1 ⟨v1, rfl, hv1, hb1⟩
    have HB1 := Lib.hid hb1
    have HV1 := Lib.hid hv1
    have HBR := Lib.hid (Below.refl w1.heap.size w1)
    obtain ⟨a1, c1, rfl⟩ := hv1.len
    have hll := HTL.out
    clear hv1 hb1 HT
    go_wp2_with fail
    go_loopw [29] (fun x wr => ∃ k : Nat, k ≤ (tableS h).length ∧ x = .int .i64 k ∧ Hid (Below w1.heap.size w1 wr)) (fun x _ => (tableS h).length - (intOf x).toNat)
    case atStart => exact ⟨0, by omega, rfl, HBR⟩
    case round =>
      clear HBR
      obtain ⟨k, hk, rfl, HB⟩ := hrel
      by_cases hlt : k < (tableS h).length
      · have hlt2 : k < (namesOf h).length := by rw [tableS_len] at hlt; exact hlt
        have hv2 := HV1.out.below HB.out (Nat.le_refl _)
        obtain ⟨b, o, c', he⟩ := hv2.opened (by omega)
        obtain ⟨rfl, rfl⟩ : a1 = some ⟨b, o, none⟩ ∧ c1 = c' := by simpa using he
        clear he
        obtain ⟨u, x0, x1, x2, x3, x4, q⟩ := hv2.get k hlt
        have hX : (tableS h)[k] = txOf h (namesOf h)[k] := tableS_get hlt2
        have htm : (namesOf h)[k] ∈ namesOf h := List.getElem_mem hlt2
        rw [hX] at x0 x1 x2 x3 q
        have hck := HAL.out _ htm
        have hat := HAT.out _ htm
        have hbl := cell_lt x0
        generalize (namesOf h)[k] = t at *
        obtain ⟨ua, uc, rfl, huc⟩ := q.len
        replace x0 : wr.cell? ⟨b, o + k * 5, none⟩ = some (.int .i64 t) := x0
        replace x3 : wr.cell? ⟨b, o + k * 5 + 3, none⟩ = some (.int .i64 (stateS (lastOf h t))) := x3
        replace q : Opv wr (.slice ua (opsOf h t).length uc) (opsOf h t) := q
        replace x4 : wr.cell? ⟨b, o + k * 5 + 4, none⟩ = some (.slice ua (opsOf h t).length uc) := x4
        have hol : (opsOf h t).length ≤ 65536 := Nat.le_trans (ops_le h t) (by omega)
        generalize (txOf h t).f = F at *
        generalize (txOf h t).l = L at *
        have hhp : 0 < h.length := by have := namesOf_len h; omega
        have hle : (ofT h t).length ≤ h.length := List.length_filter_le ..
        generalize stateS (lastOf h t) = ss at *
        generalize opsOf h t = qq at *
        have HBW := Lib.hid (HB1.out.trans (HB.out.mono HB1.out.size))
        have ba := (Below.refl wr.heap.size wr).alloc (Nat.le_refl _) (.cells #[.int .i64 t, .int .i64 F, .int .i64 L, .int .i64 ss, .slice ua qq.length uc] 39)
        have HB2 := Lib.hid (HBW.out.trans (ba.mono HBW.out.size))
        have HBl2 := Lib.hid (HB.out.trans (ba.mono HB.out.size))
        have HE := Lib.hid (At.new wr #[.int .i64 t, .int .i64 F, .int .i64 L, .int .i64 ss, .slice ua qq.length uc] 39)
        have HQ := Lib.hid (q.below ba (Nat.le_refl _))
        have HCN := Lib.hid (clone_any _ h _ (HV.out.below HB2.out (Nat.le_refl _)) HS.out h60)
        have HSZ : Hid (wr.heap.size < (wr.alloc (.cells #[.int .i64 t, .int .i64 F, .int .i64 L, .int .i64 ss, .slice ua qq.length uc] 39)).heap.size) := by unfold Hid; simp
        clear ba hX htm hv2 q HB HBW
        go_upto_region 8 with fail
        generalize wr.alloc (.cells #[.int .i64 t, .int .i64 F, .int .i64 L, .int .i64 ss, .slice ua qq.length uc] 39) = w2 at *
        generalize wr.heap.size = N at *
        clear x0 x1 x2 x3 x4
        go_wp2_with fail
        refine HCN.out.mono ?_
        rintro e w3 ⟨v3, rfl, hrow3, hb3⟩
        rcases hrow3.2 with ⟨_, hh0⟩ | ⟨g, cap, cur, rfl, -, -, hcap, -, -, -⟩
        · omega
        · have HE3 := Lib.hid (HE.out.below hb3 HE.out.lt)
          have HQ3 := Lib.hid (HQ.out.below hb3 (Nat.le_refl _))
          have HDL := Lib.hid (delete_any w2.heap.size g cap N h t w3 hrow3 (by omega) hcap HSZ.out hb3.size (HE3.out.cell (i := 0) rfl))
          have HB3 := Lib.hid (HB2.out.trans (hb3.mono HB2.out.size))
          have HBl3 := Lib.hid (HBl2.out.trans (hb3.mono HBl2.out.size))
          have HSZ3 : Hid (w.heap.size ≤ w2.heap.size) := HB2.out.size
          have HSZ4 : Hid (w1.heap.size ≤ w2.heap.size) := HBl2.out.size
          have HNl : Hid (N < w2.heap.size) := HE.out.lt
          have HBC := Lib.hid hb3
          have HEE := Lib.hid HE3.out
          rw [h1] at HDL
          clear hrow3 hb3 hcap HCN HE HE3 HQ3 HSZ
          rw [h1]
          go_wp2_with fail
          refine HDL.out.mono ?_
          rintro e w4 ⟨hb4, rfl, hv4⟩
          have HB4 := Lib.hid (HB3.out.trans (hb4.mono HSZ3.out))
          have HBl4 := Lib.hid (HBl3.out.trans (hb4.mono HSZ4.out))
          have HE4 := Lib.hid (HEE.out.below hb4 HNl.out)
          have HQ4 := Lib.hid (HQ.out.below (HBC.out.trans hb4) (Nat.le_refl _))
          have hT4 := table_any _ (ofT h t) w4 (HK.out.later HB4.out (Nat.le_refl _)) hv4 (by omega)
          rw [hck, if_pos rfl, hat] at hT4
          have HT4 := Lib.hid hT4
          clear hb4 hv4 hT4 hck hat HDL HB3 HBl3 HSZ3 HSZ4 HEE HQ HBC HNl
          generalize (ofT h t).length = ln at *
          generalize lstOf (ofT h t) t = LL at *
          go_wp2_with fail
          refine HT4.out.mono ?_
          rintro e w5 ⟨v5, rfl, hv5, hb5⟩
          have HB5 := Lib.hid (HB4.out.trans (hb5.mono HB4.out.size))
          have HBl5 := Lib.hid (HBl4.out.trans (hb5.mono HBl4.out.size))
          have hE5 := HE4.out.below hb5 HE4.out.lt
          have hq5 := HQ4.out.below hb5 (Nat.le_refl _)
          obtain ⟨b5, o5, c5, rfl⟩ := hv5.opened (by simp)
          obtain ⟨u5, y0, y1, y2, y3, y4, q5⟩ := hv5.get 0 (by simp)
          simp only [List.getElem_cons_zero, Nat.zero_mul, Nat.add_zero] at y0 y1 y2 y3 y4 q5
          have z0 := hE5.cell (i := 0) (v := .int .i64 t) rfl
          have z3 := hE5.cell (i := 3) (v := .int .i64 ss) rfl
          have z4 := hE5.cell (i := 4) (v := .slice ua qq.length uc) rfl
          have HSM : Hid (∀ m, Calls Tryd.prog 16 #[u5, .slice ua qq.length uc] (w5.drewN m) fun e w' => e = .returned (.bool true) ∧ ∃ z, w' = (w5.drewN m).drewN z) := fun m => by
            have h2 := opsSame_any u5 (.slice ua qq.length uc) qq qq _ (q5.drewN m) (hq5.drewN m) hol hol
            rw [decide_eq_true rfl] at h2
            exact h2
          clear hv5 hb5 hE5 hq5 q5 HB4 HBl4 HE4 HQ4 HT4
          go_wp2_with fail
          go_quiet ((go_at_call 16; first | exact Calls.quiet_of (HSM.out _) | exact quiet_at (HSM.out _)))
          go_wp2
          go_roundw
          case rel => exact ⟨k + 1, by omega, by go_num, below_drN HBl5.out _⟩
          case measure => simp [intOf]; omega
      · have HBW := Lib.hid (HB1.out.trans (HB.out.mono HB1.out.size))
        go_wp2_with fail
        refine (aliveT_any _ (HK.out.later HBW.out (Nat.le_refl _))).mono ?_
        rintro e w3 ⟨rfl, hb3⟩
        have HB3 := Lib.hid (HBW.out.trans (hb3.mono HBW.out.size))
        go_wp2
        go_ret
        exact ⟨rfl, HB3.out⟩
  · rw [if_neg h0] at HT
    obtain ⟨er, her⟩ : ∃ er, (checkS h).2 = er := ⟨_, rfl⟩
    rw [her] at HT h0
    have te : ((er : Int) != 0) = true := by simp; omega
    clear her h0
    go_enter Tryd.func6, Tryd.ntmps6
    go_wp2_with fail
    rw [HAE.out]
    refine HT.out.mono ?_
    rintro e w1 ⟨v1, rfl, hv1, hb1⟩
    have HB1 := Lib.hid hb1
    obtain ⟨a1, c1, rfl⟩ := hv1.len
    clear hv1 hb1 HT
    go_wp2_with fail
    refine (aliveT_any _ (HK.out.later HB1.out (Nat.le_refl _))).mono ?_
    rintro e w3 ⟨rfl, hb3⟩
    have HB3 := Lib.hid (HB1.out.trans (hb3.mono HB1.out.size))
    go_wp2
    go_ret
    exact ⟨rfl, HB3.out⟩
theorem alone_any (a : Option Addr) (n c : Nat) (h : List Ev) (w : World) (hK : HasK w) (hn : n ≤ c) (hz : a = none → c = 0) (hv : Evs w (.slice a (min (n : Int) 65).toNat c) h) :
    Calls Tryd.prog 6 #[.slice a n c] w fun e w' => e = .returned (.bool true) ∧ Below w.heap.size w w' := by
  obtain ⟨m, hm⟩ : ∃ m, (min (n : Int) 65).toNat = m := ⟨_, rfl⟩
  rw [hm] at hv
  exact alone_walk a n m c h w hK hn hz hm (by omega) hv hv.length.symm (by omega)
end Go.Proofs.YtpbkieeheepelaaDoor
