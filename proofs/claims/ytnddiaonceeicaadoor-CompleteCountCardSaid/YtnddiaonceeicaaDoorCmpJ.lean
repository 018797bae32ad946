/- The walk of CompleteCount. -/
import Derived.Test.YtnddiaonceeicaaDoorCmpH
import Derived.Test.YtnddiaonceeicaaDoorCmpI
namespace Go.Proofs.YtnddiaonceeicaaDoor.WPlain
end Go.Proofs.YtnddiaonceeicaaDoor.WPlain
namespace Go.Proofs.YtnddiaonceeicaaDoor.QPlain
end Go.Proofs.YtnddiaonceeicaaDoor.QPlain
namespace Go.Proofs.YtnddiaonceeicaaDoor.RPlain
end Go.Proofs.YtnddiaonceeicaaDoor.RPlain
namespace Go.Proofs.YtnddiaonceeicaaDoor
open Go.RowKit WPlain QPlain RPlain

theorem open_take {l : List Tx} {k : Nat} (hk : k < l.length) : openN (l.take (k + 1)) = if l[k].s = 1 then openN (l.take k) + 1 else openN (l.take k) := by
  unfold openN
  rw [List.take_succ_eq_append_getElem hk, List.filter_append, List.length_append]
  by_cases h : l[k].s = 1
  · rw [if_pos h]; simp [isOpen, h]
  · rw [if_neg h]; simp [isOpen, h]
theorem and_not_none {m hi : Nat} (h : m &&& hi = m) (hh : hi < 4294967296) : m &&& (4294967295 - hi) = 0 := by
  refine Nat.eq_of_testBit_eq fun j => ?_
  rw [Nat.testBit_and, not_test hh, Nat.zero_testBit]
  cases hb : m.testBit j with
  | false => rfl
  | true =>
    have h1 : (m &&& hi).testBit j = true := by rw [h]; exact hb
    rw [Nat.testBit_and, hb, Bool.true_and] at h1
    rw [h1]
    simp
theorem wrap_pow : ∀ q < 7, wrap64 (2 ^ q) = ((2 ^ q : Nat) : Int) := by decide +kernel
/-- what the law looks at, of choices -/
structure Chs (L : List Nat) (op lo hi : Nat) : Prop where
  len : L.length = 2 ^ op
  lt : ∀ m ∈ L, m < 64
  first : ∃ h : 0 < L.length, L[0] = lo
  last : ∃ h : L.length - 1 < L.length, L[L.length - 1] = hi
  inlo : ∀ m ∈ L, m &&& lo = lo
  inhi : ∀ m ∈ L, m &&& (4294967295 - hi) = 0
  rise : ∀ i (hi : i < L.length) (_ : 0 < i), L[i - 1]'(by omega) < L[i]
  pc : pcN hi = pcN lo + op
  op6 : op ≤ 6
theorem chs_of {l : List Tx} (h6 : l.length ≤ 6) : Chs (chL l) (openN l) (loN l) (hiN l) := by
  have hpos := chL_pos l
  have hlt : ∀ m ∈ chL l, m < 64 := fun m hm => Nat.lt_of_lt_of_le (mem_chL.1 hm).1 (Nat.pow_le_pow_right (n := 2) (i := l.length) (j := 6) (by decide) h6)
  have hh := hlt _ (hi_mem l)
  refine ⟨chL_len l, hlt, ⟨hpos, chL_first l⟩, ⟨by omega, chL_last l⟩, fun m hm => lo_in hm, fun m hm => and_not_none (in_hi hm) (by omega), fun i hi h0 => ?_, pc_open h6, ?_⟩
  · exact List.pairwise_iff_getElem.1 (chL_rise l) (i - 1) i (by omega) hi (by omega)
  · exact Nat.le_trans (List.length_filter_le _ _) h6
set_option maxRecDepth 100000 in
set_option maxHeartbeats 2000000 in
theorem count_bad (a : Option Addr) (n m c : Nat) (h : List Ev) (w : World) (hK : HasK w) (hn : n ≤ c) (HAE : Hid ((min (n : Int) 65).toNat = m)) (hv : Evs w (.slice a m c) h) (h1 : h.length = m) (hm1 : m ≤ 65) (h0 : (checkS h).2 ≠ 0) :
    Calls Tryd.prog 5 #[.slice a n c] w fun e w' => e = .returned (.bool true) ∧ Below w.heap.size w w' := by
  have HK := Lib.hid hK
  have HT := Lib.hid (choices_any _ h w hK hv (by omega))
  have HTB := Lib.hid (fun (W : World) (hW : Below w.heap.size w W) => table_any _ h W (hK.later hW (Nat.le_refl _)) (hv.below hW (Nat.le_refl _)) (by omega))
  simp only [if_neg h0] at HT HTB
  obtain ⟨er, her⟩ : ∃ er, (checkS h).2 = er := ⟨_, rfl⟩
  rw [her] at HT HTB h0
  have te : ((er : Int) != 0) = true := by simp; omega
  clear hK hv her h0
  go_enter Tryd.func5, Tryd.ntmps5
  go_wp2_with fail
  rw [HAE.out]
  refine HT.out.mono ?_
  rintro e w1 ⟨v1, rfl, hv1, hb1⟩
  have HB1 := Lib.hid hb1
  obtain ⟨a1, c1, rfl⟩ := hv1.len
  clear hb1 HT hv1
  go_wp2_with fail
  refine (HTB.out _ HB1.out).mono ?_
  rintro e w2 ⟨v2, rfl, hv2, hb2⟩
  have HB2 := Lib.hid (HB1.out.trans (hb2.mono HB1.out.size))
  obtain ⟨a2, c2, rfl⟩ := hv2.len
  clear hb2 HB1 hv2
  go_wp2_with fail
  refine (aliveC_any _ (HK.out.later HB2.out (Nat.le_refl _))).mono ?_
  rintro e w4 ⟨rfl, hb4⟩
  have HB4 := Lib.hid (HB2.out.trans (hb4.mono HB2.out.size))
  clear hb4 HB2
  go_wp2
  go_ret
  exact ⟨by simp, HB4.out⟩
set_option maxRecDepth 100000 in
set_option maxHeartbeats 4000000 in
theorem count_good (a : Option Addr) (n m c : Nat) (h : List Ev) (w : World) (hK : HasK w) (hn : n ≤ c) (HAE : Hid ((min (n : Int) 65).toNat = m)) (hv : Evs w (.slice a m c) h) (h1 : h.length = m) (hm1 : m ≤ 65) (h0 : (checkS h).2 = 0) :
    Calls Tryd.prog 5 #[.slice a n c] w fun e w' => e = .returned (.bool true) ∧ Below w.heap.size w w' := by
  have HK := Lib.hid hK
  have HT := Lib.hid (choices_any _ h w hK hv (by omega))
  have HTB := Lib.hid (fun (W : World) (hW : Below w.heap.size w W) => table_any _ h W (hK.later hW (Nat.le_refl _)) (hv.below hW (Nat.le_refl _)) (by omega))
  simp only [h0, if_true] at HT HTB
  have h6 := table_six h0
  have HCS := Lib.hid (chs_of h6)
  have HOP : Hid (∀ k (hk : k < (tableS h).length), openN ((tableS h).take (k + 1)) = if (tableS h)[k].s = 1 then openN ((tableS h).take k) + 1 else openN ((tableS h).take k)) := fun k hk => open_take hk
  have HOF : Hid (openN ((tableS h).take (tableS h).length) = openN (tableS h)) := by rw [List.take_length]; rfl
  have HOL : Hid (∀ k, openN ((tableS h).take k) ≤ (tableS h).length) := fun k => Nat.le_trans (List.length_filter_le _ _) (by rw [List.length_take]; omega)
  generalize chL (tableS h) = L at *
  generalize openN (tableS h) = op at *
  generalize loN (tableS h) = lo at *
  generalize hiN (tableS h) = hi at *
  generalize tableS h = l at *
  have hul : (u32s L).length = L.length := by simp [u32s]
  clear hK hv h0
  go_enter Tryd.func5, Tryd.ntmps5
  go_wp2_with fail
  rw [HAE.out]
  refine HT.out.mono ?_
  rintro e w1 ⟨v1, rfl, hv1, hb1⟩
  have HB1 := Lib.hid hb1
  have HV1 := Lib.hid hv1
  obtain ⟨a1, c1, rfl⟩ := hv1.len
  rw [hul] at HV1 ⊢
  clear hb1 HT hv1 hul
  go_wp2_with fail
  refine (HTB.out _ HB1.out).mono ?_
  rintro e w2 ⟨v2, rfl, hv2, hb2⟩
  have HB2 := Lib.hid (HB1.out.trans (hb2.mono HB1.out.size))
  have HV2 := Lib.hid (HV1.out.below hb2 (Nat.le_refl _))
  have HT2 := Lib.hid hv2
  obtain ⟨a2, c2, rfl⟩ := hv2.len
  have HB0 := Lib.hid (Below.refl w2.heap.size w2)
  clear hb2 HB1 hv2 HV1 HTB
  have hop0 : openN (l.take 0) = 0 := by rw [List.take_zero]; rfl
  have HO0 := Lib.hid hop0
  clear hop0
  go_wp2_with fail
  go_loopw [7, 42] (fun y x wr => ∃ k : Nat, k ≤ l.length ∧ x = .int .i64 k ∧ (∃ q : Nat, y = .int .i64 q ∧ q ≤ 6 ∧ Hid (q = openN (l.take k))) ∧ Hid (Below w2.heap.size w2 wr)) (fun _ x _ => l.length - (intOf x).toNat)
  case atStart => exact ⟨0, by omega, rfl, ⟨0, rfl, by omega, HO0.out.symm⟩, HB0⟩
  case round =>
    clear HB0 HO0
    obtain ⟨k, hk, rfl, ⟨q, rfl, hq, HQ⟩, HB⟩ := hrel
    by_cases hlt : k < l.length
    · have hT := HT2.out.below HB.out (Nat.le_refl _)
      obtain ⟨b, o, c', he⟩ := hT.opened (by omega)
      simp only [Value.slice.injEq] at he
      obtain ⟨rfl, -, rfl⟩ := he
      obtain ⟨u, x0, x1, x2, x3, x4, qq⟩ := hT.get k hlt
      obtain ⟨ua, uc, rfl, -⟩ := qq.len
      have HB3 := Lib.hid (HB.out.alloc HB.out.size (.cells #[.int .i64 l[k].n, .int .i64 l[k].f, .int .i64 l[k].l, .int .i64 l[k].s, .slice ua l[k].o.length uc] 46))
      have hA := At.new wr #[.int .i64 l[k].n, .int .i64 l[k].f, .int .i64 l[k].l, .int .i64 l[k].s, .slice ua l[k].o.length uc] 46
      have hop := HOP.out k hlt
      have hol := HOL.out (k + 1)
      generalize l[k] = X at *
      have y3 := hA.cell (i := 3) rfl
      rw [← HQ.out] at hop
      clear hT qq hA HB HQ
      by_cases h1 : X.s = 1
      · have HQ2 : Hid (q + 1 = openN (l.take (k + 1))) := by unfold Hid; rw [hop, if_pos h1]
        have tq : ((X.s : Int) == 1) = true := by simp [h1]
        have hq2 : q + 1 ≤ 6 := by have := HQ2.out; omega
        clear h1 hop hol
        go_wp2
        go_roundw
        case rel => exact ⟨k + 1, by omega, by go_num, ⟨q + 1, by go_num, hq2, HQ2⟩, HB3⟩
        case measure => simp [intOf]; omega
      · have HQ2 : Hid (q = openN (l.take (k + 1))) := by unfold Hid; rw [hop, if_neg h1]
        have tq : ((X.s : Int) == 1) = false := by simp [h1]
        clear h1 hop hol
        go_wp2
        go_roundw
        case rel => exact ⟨k + 1, by omega, by go_num, ⟨q, rfl, hq, HQ2⟩, HB3⟩
        case measure => simp [intOf]; omega
    · obtain rfl : k = l.length := by omega
      have hqo : q = op := by rw [HQ.out, HOF.out]
      subst hqo
      have HV3 := Lib.hid (HV2.out.below HB.out (Nat.le_refl _))
      have HB3 := Lib.hid (HB2.out.trans (HB.out.mono HB2.out.size))
      clear HB HQ HT2
      have hlw : wrap64 (2 ^ q) = (L.length : Int) := by
        rw [HCS.out.len]
        exact wrap_pow q (by omega)
      go_wp2_with fail
      refine (aliveC_any _ (HK.out.later HB3.out (Nat.le_refl _))).mono ?_
      rintro e w5 ⟨rfl, hb5⟩
      have HB5 := Lib.hid (HB3.out.trans (hb5.mono HB3.out.size))
      have HV5 := Lib.hid (HV3.out.below hb5 (Nat.le_refl _))
      clear hb5 HB3 HV3 hlw
      obtain ⟨hpos, hfirst⟩ := HCS.out.first
      obtain ⟨hpos2, hlast⟩ := HCS.out.last
      obtain ⟨b, o, c', he, hbl, hcs⟩ := HV5.out.opened (by simp [u32s]; exact hpos)
      simp only [Value.slice.injEq] at he
      obtain ⟨rfl, -, rfl⟩ := he
      have HCE : Hid (∀ z j (hj : j < L.length), (w5.drewN z).cell? ⟨b, o + j, none⟩ = some (.int .u32 (L[j] : Nat))) := fun z j hj => hcs j _ (by unfold u32s; rw [List.getElem?_map, List.getElem?_eq_getElem hj]; rfl)
      have HLO : Hid (∀ z, (w5.drewN z).cell? ⟨b, o, none⟩ = some (.int .u32 (lo : Nat))) := fun z => by have := HCE.out z 0 hpos; rw [hfirst] at this; exact this
      have HHI : Hid (∀ z, (w5.drewN z).cell? ⟨b, o + (L.length - 1), none⟩ = some (.int .u32 (hi : Nat))) := fun z => by have := HCE.out z (L.length - 1) hpos2; rw [hlast] at this; exact this
      have hlo64 : lo < 64 := by rw [← hfirst]; exact HCS.out.lt _ (List.getElem_mem _)
      have hhi64 : hi < 64 := by rw [← hlast]; exact HCS.out.lt _ (List.getElem_mem _)
      have HN1 : Hid (IntKind.i64.wrap ((L.length : Int) - 1) = ((L.length - 1 : Nat) : Int)) := by
        have hl64 : L.length ≤ 64 := by
          rw [HCS.out.len]
          exact Nat.pow_le_pow_right (n := 2) (i := q) (j := 6) (by decide) HCS.out.op6
        unfold Hid
        rw [IntWalk.i64_in _ (by omega)]
        omega
      have hl64 : L.length ≤ 64 := by
        rw [HCS.out.len]
        exact Nat.pow_le_pow_right (n := 2) (i := q) (j := 6) (by decide) HCS.out.op6
      clear hcs hfirst hlast HV5 hpos2
      go_wp2_with fail
      go_loopw [67] (fun x wr => ∃ i : Nat, i ≤ L.length ∧ x = .int .i64 i ∧ ∃ z, wr = w5.drewN z) (fun x _ => L.length - (intOf x).toNat)
      case atStart => exact ⟨0, by omega, rfl, 0, rfl⟩
      case round =>
        obtain ⟨i, hi0, rfl, z, rfl⟩ := hrel
        by_cases hlt : i < L.length
        · have e1 := HCE.out z i hlt
          have e2 := HLO.out z
          have e3 := HHI.out z
          have hm := List.getElem_mem hlt
          have hy64 := HCS.out.lt _ hm
          have hand : bits .and .u32 (L[i] : Nat) (lo : Nat) = ((lo : Nat) : Int) := by
            rw [u32_and_nat _ _ (by omega) (by omega), HCS.out.inlo _ hm]
          have hnot : bits .andNot .u32 (L[i] : Nat) (hi : Nat) = 0 := by
            rw [u32_andNot_nat _ _ (by omega) (by omega), HCS.out.inhi _ hm]
            rfl
          have hn1 := HN1.out
          by_cases h0 : 0 < i
          · have e4 := HCE.out z (i - 1) (by omega)
            have hri := HCS.out.rise i hlt h0
            have tg : decide ((0 : Int) < (i : Int)) = true := decide_eq_true (by omega)
            have tl : decide ((L[i] : Int) ≤ (L[i - 1] : Nat)) = false := decide_eq_false (by omega)
            have hi1 : IntKind.i64.wrap ((i : Int) - 1) = ((i - 1 : Nat) : Int) := by
              rw [IntWalk.i64_in _ (by omega)]
              omega
            have tl2 : ¬ L[i] ≤ L[i - 1] := by clear hand hnot; omega
            generalize L[i - 1] = p at *
            generalize L[i] = y at *
            obtain ⟨wz, hwz⟩ : ∃ wz, w5.drewN z = wz := ⟨_, rfl⟩
            rw [hwz] at e1 e2 e3 e4 ⊢
            have HWZ := Lib.hid hwz
            clear hwz hm hri
            go_wp2_with fail
            go_quiet (fail)
            clear hand hnot
            go_wp2
            go_roundw
            case rel => exact ⟨i + 1, by omega, by go_num, _, by rw [← HWZ.out]; exact World.drewN_drewN _ _ _⟩
            case measure => simp [intOf]; omega
          · have tg : decide ((0 : Int) < (i : Int)) = false := decide_eq_false (by omega)
            generalize L[i] = y at *
            obtain ⟨wz, hwz⟩ : ∃ wz, w5.drewN z = wz := ⟨_, rfl⟩
            rw [hwz] at e1 e2 e3 ⊢
            have HWZ := Lib.hid hwz
            clear hwz hm
            go_wp2_with fail
            go_quiet (fail)
            clear hand hnot
            go_wp2
            go_roundw
            case rel => exact ⟨i + 1, by omega, by go_num, _, by rw [← HWZ.out]; exact World.drewN_drewN _ _ _⟩
            case measure => simp [intOf]; omega
        · obtain rfl : i = L.length := by omega
          have e2 := HLO.out z
          have e3 := HHI.out z
          have hn1 := HN1.out
          have hl1 := (ones_pc lo hlo64).2
          have hsum : IntKind.i64.wrap ((pcN lo : Int) + (q : Int)) = ((pcN hi : Nat) : Int) := by
            have := HCS.out.pc
            rw [IntWalk.i64_in _ (by omega)]
            omega
          have HBZ := Lib.hid (fun x => below_drN (HB5.out) x)
          obtain ⟨wz, hwz⟩ : ∃ wz, w5.drewN z = wz := ⟨_, rfl⟩
          have hbz := HBZ.out z
          rw [hwz] at e2 e3 hbz ⊢
          have HBW := Lib.hid hbz
          clear hwz hbz
          go_wp2_with fail
          go_quiet ((go_at_call 19; exact Calls.quiet_of (ones_any _ (by assumption) _)))
          go_wp2
          go_ret
          exact ⟨by simp, below_drN HBW.out _⟩
theorem count_any (a : Option Addr) (n c : Nat) (h : List Ev) (w : World) (hK : HasK w) (hn : n ≤ c) (hv : Evs w (.slice a (min (n : Int) 65).toNat c) h) :
    Calls Tryd.prog 5 #[.slice a n c] w fun e w' => e = .returned (.bool true) ∧ Below w.heap.size w w' := by
  obtain ⟨m, hm⟩ : ∃ m, (min (n : Int) 65).toNat = m := ⟨_, rfl⟩
  rw [hm] at hv
  by_cases h0 : (checkS h).2 = 0
  · exact count_good a n m c h w hK hn hm hv hv.length.symm (by omega) h0
  · exact count_bad a n m c h w hK hn hm hv hv.length.symm (by omega) h0
end Go.Proofs.YtnddiaonceeicaaDoor
