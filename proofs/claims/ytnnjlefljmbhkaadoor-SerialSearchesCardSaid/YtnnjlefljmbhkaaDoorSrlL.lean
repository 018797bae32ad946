/- The walk of SerialRows. -/
import Derived.Test.YtnnjlefljmbhkaaDoorMg24
import Derived.Test.YtnnjlefljmbhkaaDoorMg22
import Derived.Deep.RegionHeld
import Derived.Deep.DeepMust
namespace Go.Proofs.YtnnjlefljmbhkaaDoor.WPlain
end Go.Proofs.YtnnjlefljmbhkaaDoor.WPlain
namespace Go.Proofs.YtnnjlefljmbhkaaDoor.QPlain
end Go.Proofs.YtnnjlefljmbhkaaDoor.QPlain
namespace Go.Proofs.YtnnjlefljmbhkaaDoor.RPlain
end Go.Proofs.YtnnjlefljmbhkaaDoor.RPlain
namespace Go.Proofs.YtnnjlefljmbhkaaDoor
open Go.RowKit WPlain QPlain RPlain

theorem sameF_self (v c s : Int) (xs : List Int) : sameF v c s v c s xs xs = true := by unfold sameF; simp
/-- the reference's finding of a row, and the program's -/
theorem row_ref {B : Nat} {l : List Tx} {who c : Nat} : searchG B l (fun _ => who) [c] 0 = ((fromS B l who c (l.length + 1) [] 0).1, (if (fromS B l who c (l.length + 1) [] 0).1 = 0 then c else 0), (fromS B l who c (l.length + 1) [] 0).2) := by
  have hle := left_le l who []
  have ha := from_ans (B := B) (l := l) (who := who) (c := c) (l.length + 1) [] 0 (Nat.zero_le _) (by omega)
  rw [searchG]
  generalize fromS B l who c (l.length + 1) [] 0 = x at *
  obtain ⟨v, R, s⟩ := x
  by_cases h : v = 1
  · subst h
    have hn : R = [] := ha.none (show (1 : Nat) ≠ 0 by decide)
    subst hn
    rw [if_pos rfl]; rfl
  · rw [if_neg h]
theorem row_len {h : List Ev} (h0 : (checkS h).2 = 0) {B who c : Nat} : (fromS B (tableS h) who c ((tableS h).length + 1) [] 0).2.1.length ≤ 65536 := by
  obtain ⟨h1, h2, _⟩ := row_tells (B := B) (l := tableS h) (who := who) (c := c) (self_table h) 0 (Nat.zero_le _)
  by_cases hx : (fromS B (tableS h) who c ((tableS h).length + 1) [] 0).1 = 0
  · have h3 := (h2 hx)
    have h4 := nodup_le _ (List.range (tableS h).length) h3.nodup (fun x hx => List.mem_range.2 ((h3.mem x).1 hx).1)
    have := table_six h0
    rw [List.length_range] at h4
    omega
  · rw [h1.none hx]; exact Nat.zero_le _
theorem capE {a : Option Addr} {n c : Nat} (h : n ≤ c) : ∀ a' n' c', Value.slice a n c = .slice a' n' c' → n' ≤ c' := fun _ _ _ he => by
  simp only [Value.slice.injEq] at he
  omega
theorem ops_sixty {h : List Ev} (h0 : (checkS h).2 = 0) : ∀ i, (opsAt (tableS h) i).length ≤ 60 := fun i => by
  unfold opsAt
  cases hg : (tableS h)[i]? with
  | none => exact Nat.zero_le _
  | some X => exact (table_ops h0 _ (List.mem_of_getElem? hg)).2
theorem refSame_same (v c s : Nat) (R : List Nat) (r1 r2 : Value) (w : World) (h1 : Rd w r1 (nats R)) (h2 : Rd w r2 (nats R)) (hl : R.length ≤ 65536) :
    Calls Tryd.prog 10 #[.agg #[.int .i64 (v : Int), .int .u32 (c : Int), r1, .int .i64 (s : Int)], .agg #[.int .i64 (v : Int), .int .u32 (c : Int), r2, .int .i64 (s : Int)]] w fun e w' => e = .returned (.bool true) ∧ Below w.heap.size w w' := by
  have h := refSameS_any v c s v c s r1 r2 (R.map fun x : Nat => (x : Int)) (R.map fun x : Nat => (x : Int)) w (by rw [← nats_intsS]; exact h1) (by rw [← nats_intsS]; exact h2) (by rw [List.length_map]; exact hl)
  rw [sameF_self] at h
  exact h
set_option maxRecDepth 100000 in
set_option maxHeartbeats 8000000 in
theorem serRows_walk (a : Option Addr) (n m c : Nat) (h : List Ev) (who co : Nat) (B : Int) (w : World) (hK : HasK w) (hn : n ≤ c) (HAE : Hid ((min (n : Int) 65).toNat = m)) (hmn : m ≤ n) (hv : Evs w (.slice a m c) h) (h1 : h.length = m) (hm1 : m ≤ 65) (hw : who < 4294967296) (hco : co < 4294967296) :
    Calls Tryd.prog 3 #[.slice a n c, .int .u32 (who : Int), .int .u32 (co : Int), .int .i64 B] w fun e w' => e = .returned (.bool true) ∧ Below w.heap.size w w' := by
  have HROW := Lib.hid (rowS_any _ h who co B w hK hv (by omega) hw hco)
  have HALV := Lib.hid (fun (W : World) (hW : Below w.heap.size w W) => aliveR_any W (hK.later hW (Nat.le_refl _)))
  have HWHY := Lib.hid (fun (W : World) (hW : Below w.heap.size w W) => refWhyS_any _ h B W (hv.below hW (Nat.le_refl _)) (by omega) (capE (by omega)))
  have HOF := Lib.hid (fun (W : World) (hW : Below w.heap.size w W) => refOfS_any _ h W (hv.below hW (Nat.le_refl _)) (by omega) (capE (by omega)))
  clear hK hv
  unfold rowF at HROW
  by_cases h0 : srchE h B = 0
  · obtain ⟨hc0, hB0, hB1⟩ := srchE_zero h0
    obtain ⟨BN, rfl⟩ : ∃ BN : Nat, B = (BN : Int) := ⟨B.toNat, by omega⟩
    have h6 := table_six hc0
    have hre : rowE h who co (BN : Int) = if (who ||| co) < 2 ^ (tableS h).length then 0 else 7 := by unfold rowE; rw [if_pos h0]
    simp only [h0] at HWHY
    have HBI := Lib.hid (fun (W : World) (v : Value) (x : Nat) (hx : x < 4294967296) (ht : Txs W v (tableS h)) => refBitsS_any v (tableS h) x W ht (by omega) hx)
    have hand : (who ||| co) < 2 ^ (tableS h).length ↔ who < 2 ^ (tableS h).length ∧ co < 2 ^ (tableS h).length := ⟨fun h => ⟨Nat.lt_of_le_of_lt Nat.left_le_or h, Nat.lt_of_le_of_lt Nat.right_le_or h⟩, fun h => Nat.or_lt_two_pow h.1 h.2⟩
    by_cases hb : (who ||| co) < 2 ^ (tableS h).length
    · rw [if_pos hb] at hre
      obtain ⟨hwl, hcl⟩ := hand.1 hb
      rw [hre] at HROW
      simp only [if_true, Int.toNat_natCast, row_ref] at HROW
      have HFR := Lib.hid (fun (w0 : World) (lv rv : Value) (W : World) (hv : Txs w0 lv (tableS h)) (hW : Below w0.heap.size w0 W) (hr : RdX (fun k => k < w0.heap.size) W rv (nats [])) (hs : SrcN rv) (hc : CapV rv) => refFrom_any h hc0 w0 lv who co BN hv hwl hco (by omega) (ops_sixty hc0) ((tableS h).length + 1) (fun k => k < w0.heap.size) [] 0 rv W (fun k hk => Nat.lt_of_lt_of_le hk hW.size) hW hr hs hc List.nodup_nil (by simp) (Nat.zero_le _) (by have := left_le (tableS h) who []; omega))
      have HRL := Lib.hid (row_len hc0 (B := BN) (who := who) (c := co))
      have d1 := decide_eq_true hwl
      have d2 := decide_eq_true hcl
      obtain ⟨x, hx⟩ : ∃ x, fromS BN (tableS h) who co ((tableS h).length + 1) [] 0 = x := ⟨_, rfl⟩
      rw [hx] at HRL
      simp only [hx] at HROW HFR
      obtain ⟨cc, hcc⟩ : ∃ cc, (if x.1 = 0 then co else 0) = cc := ⟨_, rfl⟩
      unfold gC refX at HFR
      simp only [hcc] at HROW HFR
      clear hx hcc hb hre h0 hand hc0 hwl hcl
      unfold fndV at HROW HFR
      go_enter Tryd.func3, Tryd.ntmps3
      go_upto_region 2 with fail
      rw [HAE.out]
      go_wp2_with fail
      refine HROW.out.mono ?_
      rintro e w1 ⟨rv, rfl, hr1, -, hb1⟩
      obtain ⟨rb, rc, rfl⟩ := hr1.len
      obtain ⟨rn, hrn⟩ : ∃ z, (nats x.2.1).length = z := ⟨_, rfl⟩
      rw [hrn] at hr1 ⊢
      obtain ⟨N9, hN9⟩ : ∃ z, w1.heap.size = z := ⟨_, rfl⟩
      obtain ⟨w2, hw2⟩ : ∃ z, w1.alloc (.cells #[.int .i64 (x.1 : Int), .int .u32 (cc : Int), .slice rb rn rc, .int .i64 (x.2.2 : Int)] 26) = z := ⟨_, rfl⟩
      have ha9 : At w2 N9 #[.int .i64 (x.1 : Int), .int .u32 (cc : Int), .slice rb rn rc, .int .i64 (x.2.2 : Int)] 26 := by
        rw [← hw2, ← hN9]; exact At.new w1 _ _
      have hb12 : Below w1.heap.size w1 w2 := by rw [← hw2]; exact (Below.refl _ w1).alloc (Nat.le_refl _) _
      have HB2 := Lib.hid (hb1.trans (hb12.mono hb1.size))
      have HA9 := Lib.hid ha9
      have HR2 := Lib.hid (hr1.below hb12 (Nat.le_refl _))
      have HW2 := Lib.hid hw2
      clear hr1 hb1 ha9 hb12 HROW hw2
      go_wp2_with fail
      rw [HW2.out]
      clear HW2
      refine (HWHY.out w2 HB2.out).mono ?_
      rintro e w3 ⟨rfl, hb3⟩
      have HB3 := Lib.hid (HB2.out.trans (hb3.mono HB2.out.size))
      have HA3 := Lib.hid (HA9.out.below hb3 HA9.out.lt)
      have HR3 := Lib.hid (HR2.out.below hb3 (Nat.le_refl _))
      clear hb3 HA9 HR2 HB2
      go_wp2_with fail
      refine (HOF.out w3 HB3.out).mono ?_
      rintro e w4 ⟨lv, rfl, ht4, hb4⟩
      have HB4 := Lib.hid (HB3.out.trans (hb4.mono HB3.out.size))
      have HT4 := Lib.hid ht4
      have HA4 := Lib.hid (HA3.out.below hb4 HA3.out.lt)
      have HR4 := Lib.hid (HR3.out.below hb4 (Nat.le_refl _))
      have HI1 := Lib.hid (fun (x : Nat) (hx : x < 4294967296) => HBI.out w4 lv x hx ht4)
      obtain ⟨la, lc, rfl⟩ := ht4.len
      generalize 2 ^ (tableS h).length = pn at *
      clear HBI
      have HSS : Hid (∀ W, Below w4.heap.size w4 W → W.cell? ⟨N9, 0, none⟩ = some (.int .i64 (x.1 : Int)) ∧ W.cell? ⟨N9, 1, none⟩ = some (.int .u32 (cc : Int)) ∧ W.cell? ⟨N9, 2, none⟩ = some (.slice rb rn rc) ∧ W.cell? ⟨N9, 3, none⟩ = some (.int .i64 (x.2.2 : Int))) := fun W hW =>
        ⟨cell_on hW (HA4.out.cell rfl), cell_on hW (HA4.out.cell rfl), cell_on hW (HA4.out.cell rfl), cell_on hW (HA4.out.cell rfl)⟩
      clear ht4 hb4 HB3 HA3 HR3 hrn
      go_wp2_with (go_at_call 12; refine (HI1.out _ (by assumption)).mono ?_; rintro e w9 ⟨rfl, hw9⟩; rw [hw9]; clear hw9)
      first
      | go_must (go_region_held (fun W => W.cell? ⟨N9, 0, none⟩ = some (.int .i64 (x.1 : Int)) ∧ W.cell? ⟨N9, 1, none⟩ = some (.int .u32 (cc : Int)) ∧ W.cell? ⟨N9, 2, none⟩ = some (.slice rb rn rc) ∧ W.cell? ⟨N9, 3, none⟩ = some (.int .i64 (x.2.2 : Int)))
          (first | exact HSS.out _ (belowDrS _) | exact HSS.out _ hz5 | exact HSS.out _ (hz5.alloc hz5.size _) | exact HSS.out _ hz6 | exact HSS.out _ hz7)
          (first
            | (go_at_call 9; refine (HALV.out _ (HB4.out.drew)).mono ?_; rintro e w5 ⟨rfl, hb5⟩; have hz5 := (belowDrS w4).trans hb5; clear hb5)
            | (go_at_call 13; refine (HFR.out w4 _ _ _ HT4.out (hz5.alloc hz5.size _) (.inl ⟨rfl, _, _, rfl⟩) (.inr ⟨_, _, _, rfl⟩) (capE (Nat.le_refl _))).mono ?_; rintro e w6 ⟨rv6, rfl, hr6, hb6⟩; have hz6 := (hz5.alloc hz5.size (.cells #[] 3)).trans (hb6.mono (Nat.le_trans hz5.size (by simp))); obtain ⟨a6, c6, rfl⟩ := hr6.rd.len; have hq6 := hr6.rd; clear hb6)
            | (go_at_call 10; refine (refSame_same x.1 cc x.2.2 x.2.1 _ _ w6 (HR4.out.below hz6 (Nat.le_refl _)) hq6 HRL.out).mono ?_; rintro e w7 ⟨rfl, hb7⟩; have hz7 := hz6.trans (hb7.mono hz6.size); clear hb7)))
      | fail
      have HB7 := Lib.hid (HB4.out.trans (hz7.mono HB4.out.size))
      clear hz5 hz6 hz7 hr6 hq6
      go_wp2_with fail
      go_ret
      exact ⟨rfl, HB7.out⟩
    · rw [if_neg hb] at hre
      rw [hre] at HROW
      simp only [show ¬ (7 : Nat) = 0 by decide, if_false] at HROW
      have hnn : ¬ (who < 2 ^ (tableS h).length ∧ co < 2 ^ (tableS h).length) := fun h => hb (hand.2 h)
      clear hre h0 hand hb hc0
      unfold fndV at HROW
      go_enter Tryd.func3, Tryd.ntmps3
      go_upto_region 2 with fail
      rw [HAE.out]
      go_wp2_with fail
      refine HROW.out.mono ?_
      rintro e w1 ⟨rv, rfl, hr1, -, hb1⟩
      obtain ⟨rb, rc, rfl⟩ := hr1.len
      obtain ⟨rn, hrn⟩ : ∃ z, (nats []).length = z := ⟨_, rfl⟩
      rw [hrn] at hr1 ⊢
      obtain ⟨N9, hN9⟩ : ∃ z, w1.heap.size = z := ⟨_, rfl⟩
      obtain ⟨w2, hw2⟩ : ∃ z, w1.alloc (.cells #[.int .i64 0, .int .u32 0, .slice rb rn rc, .int .i64 0] 26) = z := ⟨_, rfl⟩
      have ha9 : At w2 N9 #[.int .i64 0, .int .u32 0, .slice rb rn rc, .int .i64 0] 26 := by
        rw [← hw2, ← hN9]; exact At.new w1 _ _
      have hb12 : Below w1.heap.size w1 w2 := by rw [← hw2]; exact (Below.refl _ w1).alloc (Nat.le_refl _) _
      have HB2 := Lib.hid (hb1.trans (hb12.mono hb1.size))
      have HA9 := Lib.hid ha9
      have HR2 := Lib.hid (hr1.below hb12 (Nat.le_refl _))
      have HW2 := Lib.hid hw2
      clear hr1 hb1 ha9 hb12 HROW hw2
      go_wp2_with fail
      rw [HW2.out]
      clear HW2
      refine (HWHY.out w2 HB2.out).mono ?_
      rintro e w3 ⟨rfl, hb3⟩
      have HB3 := Lib.hid (HB2.out.trans (hb3.mono HB2.out.size))
      have HA3 := Lib.hid (HA9.out.below hb3 HA9.out.lt)
      have HR3 := Lib.hid (HR2.out.below hb3 (Nat.le_refl _))
      clear hb3 HA9 HR2 HB2
      go_wp2_with fail
      refine (HOF.out w3 HB3.out).mono ?_
      rintro e w8 ⟨lv, rfl, ht8, hb8⟩
      have HB8 := Lib.hid (HB3.out.trans (hb8.mono HB3.out.size))
      have HA8 := Lib.hid (HA3.out.below hb8 HA3.out.lt)
      have HR8 := Lib.hid (HR3.out.below hb8 (Nat.le_refl _))
      have HI1 := Lib.hid (fun (x : Nat) (hx : x < 4294967296) => HBI.out w8 lv x hx ht8)
      obtain ⟨la, lc, rfl⟩ := ht8.len
      clear ht8 hb8 HB3 HA3 HR3
      generalize 2 ^ (tableS h).length = pn at *
      by_cases hwn : who < pn
      · have hcn : ¬ co < pn := fun hc => hnn ⟨hwn, hc⟩
        have d1 := decide_eq_true hwn
        have d2 := decide_eq_false hcn
        clear hnn HBI hwn hcn
        go_wp2_with (go_at_call 12; refine (HI1.out _ (by assumption)).mono ?_; rintro e w9 ⟨rfl, hw9⟩; rw [hw9]; clear hw9)
        refine (HALV.out w8 HB8.out).mono ?_
        rintro e w4 ⟨rfl, hb4⟩
        have HB4 := Lib.hid (HB8.out.trans (hb4.mono HB8.out.size))
        have ha4 := HA8.out.below hb4 HA8.out.lt
        have HR4 := Lib.hid (HR8.out.below hb4 (Nat.le_refl _))
        have q0 : w4.cell? ⟨N9, 0, none⟩ = some (.int .i64 0) := ha4.cell rfl
        have q1 : w4.cell? ⟨N9, 1, none⟩ = some (.int .u32 0) := ha4.cell rfl
        have q2 : w4.cell? ⟨N9, 2, none⟩ = some (.slice rb rn rc) := ha4.cell rfl
        have q3 : w4.cell? ⟨N9, 3, none⟩ = some (.int .i64 0) := ha4.cell rfl
        have HSM := Lib.hid (refSame_same 0 0 0 [] (.slice rb rn rc) (.slice none 0 0) w4 HR4.out (.inl ⟨rfl, _, _, rfl⟩) (by decide))
        clear hb4 ha4 HB8 HA8 HR8 hrn
        go_wp2_with fail
        refine HSM.out.mono ?_
        rintro e w5 ⟨rfl, hb5⟩
        have HB5 := Lib.hid (HB4.out.trans (hb5.mono HB4.out.size))
        clear hb5
        go_wp2_with fail
        go_ret
        exact ⟨rfl, HB5.out⟩
      · have d1 := decide_eq_false hwn
        clear hnn HBI hwn
        go_wp2_with (go_at_call 12; refine (HI1.out _ (by assumption)).mono ?_; rintro e w9 ⟨rfl, hw9⟩; rw [hw9]; clear hw9)
        refine (HALV.out w8 HB8.out).mono ?_
        rintro e w4 ⟨rfl, hb4⟩
        have HB4 := Lib.hid (HB8.out.trans (hb4.mono HB8.out.size))
        have ha4 := HA8.out.below hb4 HA8.out.lt
        have HR4 := Lib.hid (HR8.out.below hb4 (Nat.le_refl _))
        have q0 : w4.cell? ⟨N9, 0, none⟩ = some (.int .i64 0) := ha4.cell rfl
        have q1 : w4.cell? ⟨N9, 1, none⟩ = some (.int .u32 0) := ha4.cell rfl
        have q2 : w4.cell? ⟨N9, 2, none⟩ = some (.slice rb rn rc) := ha4.cell rfl
        have q3 : w4.cell? ⟨N9, 3, none⟩ = some (.int .i64 0) := ha4.cell rfl
        have HSM := Lib.hid (refSame_same 0 0 0 [] (.slice rb rn rc) (.slice none 0 0) w4 HR4.out (.inl ⟨rfl, _, _, rfl⟩) (by decide))
        clear hb4 ha4 HB8 HA8 HR8 hrn
        go_wp2_with fail
        refine HSM.out.mono ?_
        rintro e w5 ⟨rfl, hb5⟩
        have HB5 := Lib.hid (HB4.out.trans (hb5.mono HB4.out.size))
        clear hb5
        go_wp2_with fail
        go_ret
        exact ⟨rfl, HB5.out⟩
  · have hre : rowE h who co B = srchE h B := by unfold rowE; rw [if_neg h0]
    rw [hre] at HROW
    simp only [if_neg h0] at HROW
    obtain ⟨er, her⟩ : ∃ er, srchE h B = er := ⟨_, rfl⟩
    simp only [her] at HROW HWHY h0
    have te : ((er : Int) != 0) = true := by simp; omega
    have te2 : ((er : Int) == (er : Int)) = true := by simp
    clear her h0 hre HOF
    unfold fndV at HROW
    go_enter Tryd.func3, Tryd.ntmps3
    go_upto_region 2 with fail
    rw [HAE.out]
    go_wp2_with fail
    refine HROW.out.mono ?_
    rintro e w1 ⟨rv, rfl, hr1, -, hb1⟩
    obtain ⟨rb, rc, rfl⟩ := hr1.len
    obtain ⟨rn, hrn⟩ : ∃ z, (nats []).length = z := ⟨_, rfl⟩
    rw [hrn] at hr1 ⊢
    obtain ⟨N9, hN9⟩ : ∃ z, w1.heap.size = z := ⟨_, rfl⟩
    obtain ⟨w2, hw2⟩ : ∃ z, w1.alloc (.cells #[.int .i64 0, .int .u32 0, .slice rb rn rc, .int .i64 0] 26) = z := ⟨_, rfl⟩
    have ha9 : At w2 N9 #[.int .i64 0, .int .u32 0, .slice rb rn rc, .int .i64 0] 26 := by
      rw [← hw2, ← hN9]; exact At.new w1 _ _
    have hb12 : Below w1.heap.size w1 w2 := by rw [← hw2]; exact (Below.refl _ w1).alloc (Nat.le_refl _) _
    have HB2 := Lib.hid (hb1.trans (hb12.mono hb1.size))
    have HA9 := Lib.hid ha9
    have HR2 := Lib.hid (hr1.below hb12 (Nat.le_refl _))
    have HW2 := Lib.hid hw2
    clear hr1 hb1 ha9 hb12 HROW hw2
    go_wp2_with fail
    rw [HW2.out]
    clear HW2
    refine (HWHY.out w2 HB2.out).mono ?_
    rintro e w3 ⟨rfl, hb3⟩
    have HB3 := Lib.hid (HB2.out.trans (hb3.mono HB2.out.size))
    have HA3 := Lib.hid (HA9.out.below hb3 HA9.out.lt)
    have HR3 := Lib.hid (HR2.out.below hb3 (Nat.le_refl _))
    clear hb3 HA9 HR2 HB2
    go_wp2_with fail
    refine (HALV.out w3 HB3.out).mono ?_
    rintro e w4 ⟨rfl, hb4⟩
    have HB4 := Lib.hid (HB3.out.trans (hb4.mono HB3.out.size))
    have ha4 := HA3.out.below hb4 HA3.out.lt
    have HR4 := Lib.hid (HR3.out.below hb4 (Nat.le_refl _))
    have q0 : w4.cell? ⟨N9, 0, none⟩ = some (.int .i64 0) := ha4.cell rfl
    have q1 : w4.cell? ⟨N9, 1, none⟩ = some (.int .u32 0) := ha4.cell rfl
    have q2 : w4.cell? ⟨N9, 2, none⟩ = some (.slice rb rn rc) := ha4.cell rfl
    have q3 : w4.cell? ⟨N9, 3, none⟩ = some (.int .i64 0) := ha4.cell rfl
    have HSM := Lib.hid (refSame_same 0 0 0 [] (.slice rb rn rc) (.slice none 0 0) w4 HR4.out (.inl ⟨rfl, _, _, rfl⟩) (by decide))
    clear hb4 ha4 HB3 HA3 HR3 hrn
    go_wp2_with fail
    refine HSM.out.mono ?_
    rintro e w5 ⟨rfl, hb5⟩
    have HB5 := Lib.hid (HB4.out.trans (hb5.mono HB4.out.size))
    clear hb5
    go_wp2_with fail
    go_ret
    exact ⟨rfl, HB5.out⟩
theorem u32_wf {x : Int} (hx : (Lit.int .u32 x).wf = true) : 0 ≤ x ∧ x < 4294967296 := by
  have h1 : (decide ((0 : Int) ≤ x) && decide (x ≤ 4294967295)) = true := hx
  rw [Bool.and_eq_true, decide_eq_true_eq, decide_eq_true_eq] at h1
  omega
theorem serRows_any (a : Option Addr) (n c : Nat) (h : List Ev) (who co B : Int) (w : World) (hK : HasK w) (hn : n ≤ c) (hv : Evs w (.slice a (min (n : Int) 65).toNat c) h) (hw : (Lit.int .u32 who).wf = true) (hco : (Lit.int .u32 co).wf = true) :
    Calls Tryd.prog 3 #[.slice a n c, .int .u32 who, .int .u32 co, .int .i64 B] w fun e w' => e = .returned (.bool true) ∧ Below w.heap.size w w' := by
  obtain ⟨m, hm⟩ : ∃ m, (min (n : Int) 65).toNat = m := ⟨_, rfl⟩
  rw [hm] at hv
  have h1 := u32_wf hw
  have h2 := u32_wf hco
  obtain ⟨y, rfl⟩ : ∃ y : Nat, who = (y : Int) := ⟨who.toNat, by omega⟩
  obtain ⟨z, rfl⟩ : ∃ z : Nat, co = (z : Int) := ⟨co.toNat, by omega⟩
  exact serRows_walk a n m c h y z B w hK hn hm (by omega) hv hv.length.symm (by omega) (by omega) (by omega)
end Go.Proofs.YtnnjlefljmbhkaaDoor
