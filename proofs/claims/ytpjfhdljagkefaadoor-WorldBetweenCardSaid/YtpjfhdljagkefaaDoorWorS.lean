/- The walk of WorldBetween. -/
import Derived.Test.YtpjfhdljagkefaaDoorMg19
import Derived.Test.YtpjfhdljagkefaaDoorStrD
import Derived.Test.YtpjfhdljagkefaaDoorMg12
import Derived.Test.YtpjfhdljagkefaaDoorMg5
import Derived.Test.YtpjfhdljagkefaaDoorMg2
import Derived.Test.YtpjfhdljagkefaaDoorMg11
import Derived.Test.YtpjfhdljagkefaaDoorShelf
import Derived.Test.YtpjfhdljagkefaaDoorMg15
import Derived.Test.YtpjfhdljagkefaaDoorSrlS
import Derived.Deep.Cut
import Derived.Deep.DeepCutAuto
import Derived.Deep.QuietTactic
import Derived.BigQuiet
namespace Go.Proofs.YtpjfhdljagkefaaDoor.WPlain
end Go.Proofs.YtpjfhdljagkefaaDoor.WPlain
namespace Go.Proofs.YtpjfhdljagkefaaDoor.QPlain
end Go.Proofs.YtpjfhdljagkefaaDoor.QPlain
namespace Go.Proofs.YtpjfhdljagkefaaDoor.RPlain
end Go.Proofs.YtpjfhdljagkefaaDoor.RPlain
namespace Go.Proofs.YtpjfhdljagkefaaDoor.RPlain
open WPlain QPlain

/-- how many of the first k are none of a choice -/
def cntW (C k : Nat) : Nat := ((List.range k).filter fun t => !C.testBit t).length
theorem cntW_yes {C k : Nat} (h : C.testBit k = true) : cntW C (k + 1) = cntW C k := by unfold cntW; rw [List.range_succ, List.filter_append]; simp [h]
theorem cntW_no {C k : Nat} (h : C.testBit k = false) : cntW C (k + 1) = cntW C k + 1 := by unfold cntW; rw [List.range_succ, List.filter_append]; simp [h]
theorem cntW_le (C k : Nat) : cntW C k ≤ k := by
  unfold cntW
  have := List.length_filter_le (fun t => !C.testBit t) (List.range k)
  rwa [List.length_range] at this
theorem cntW_lt {C k n : Nat} (hk : k < n) (h : C.testBit k = false) : cntW C k < cntW C n := by
  obtain ⟨d, rfl⟩ := Nat.le.dest (show k + 1 ≤ n by omega)
  have h1 := cntW_no h
  have h2 : cntW C (k + 1) ≤ cntW C (k + 1 + d) := by
    unfold cntW
    rw [List.range_add (n := k + 1), List.filter_append, List.length_append]
    omega
  omega
theorem cntW_get {C k n : Nat} (hk : k < n) (h : C.testBit k = false) (hj : cntW C k < ((List.range n).filter fun t => !C.testBit t).length) : ((List.range n).filter fun t => !C.testBit t)[cntW C k] = k := by
  obtain ⟨d, rfl⟩ := Nat.le.dest (show k + 1 ≤ n by omega)
  have h1 : (List.range (k + 1 + d)).filter (fun t => !C.testBit t) = (List.range k).filter (fun t => !C.testBit t) ++ (k :: ((List.range d).map (k + 1 + ·)).filter fun t => !C.testBit t) := by
    rw [List.range_add (n := k + 1), List.range_succ, List.filter_append, List.filter_append]
    simp [h]
  have h2 : ((List.range (k + 1 + d)).filter fun t => !C.testBit t)[cntW C k]? = some k := by
    rw [h1]
    unfold cntW
    rw [List.getElem?_append_right (Nat.le_refl _)]
    simp
  rw [List.getElem?_eq_getElem hj] at h2
  exact Option.some.inj h2
/-- what is found, as the law wants it -/
theorem bet_facts {h : List Ev} (h0 : (checkS h).2 = 0) {x : Nat × Nat × List Nat × List (Nat × List Nat × Nat) × Nat} (hx : worldS 1000000 (tableS h) = x) :
    (x.1 = 0 ∨ x.1 = 1) ∧ (x.1 = 1 → x.2.2.1 = [] ∧ x.2.2.2.1 = []) ∧ (x.1 = 0 → x.2.1 < 2 ^ (tableS h).length ∧ x.2.2.2.1.length = cntW x.2.1 (tableS h).length ∧
      ∀ t, t < (tableS h).length → x.2.1.testBit t = false → ∀ (hj : cntW x.2.1 t < x.2.2.2.1.length),
        (x.2.2.2.1[cntW x.2.1 t]).2.1.length ≤ 6 ∧ errL h (((x.2.2.2.1[cntW x.2.1 t]).2.1 ++ [t]).map fun x : Nat => (x : Int)) = 0 ∧ errP h (((x.2.2.2.1[cntW x.2.1 t]).2.1 ++ [t]).map fun x : Nat => (x : Int)) = 0 ∧
          kepS h (((x.2.2.2.1[cntW x.2.1 t]).2.1 ++ [t]).map fun x : Nat => (x : Int)) = true ∧ legR h (((x.2.2.2.1[cntW x.2.1 t]).2.1 ++ [t]).map fun x : Nat => (x : Int)) x.2.1 = (x.2.2.2.1[cntW x.2.1 t]).2.1.length + 1) := by
  have h6 := table_six h0
  obtain ⟨h1, -, -, h4, h5, -⟩ := world_tells (B := 1000000) (l := tableS h) (self_table h) (C := 5796) (choicesS (tableS h)) 0 (Nat.zero_le _) (fun c hc => cost_most h6 (choices_lt hc))
  have hk := world_known (B := 1000000) (l := tableS h) (self_table h) h6 (by omega)
  have hg : worldG 1000000 (tableS h) (choicesS (tableS h)) 0 = x := hx
  rw [hx] at hk
  rw [hg] at h1 h4 h5
  refine ⟨by omega, fun hv => ⟨(h4 (by omega)).2.1, (h4 (by omega)).2.2⟩, fun hv => ?_⟩
  obtain ⟨g1, -, -, g4, g5⟩ := h5 hv
  refine ⟨choices_lt g1, g4, fun t ht hb hj => ?_⟩
  have hj2 : cntW x.2.1 t < ((List.range (tableS h).length).filter fun t => !x.2.1.testBit t).length := cntW_lt ht hb
  obtain ⟨e1, e2⟩ := g5 _ hj hj2
  rw [cntW_get ht hb] at e1 e2
  generalize (x.2.2.2.1)[cntW x.2.1 t] = p at *
  obtain ⟨q1, q2, q3, -⟩ := pair_row ht e1
  obtain ⟨f1, f2, f3⟩ := saw_row ht e1 e2
  have hel := errL_row h0 q1 q2 q3 ht
  have hep : errP h ((p.2.1 ++ [t]).map fun x : Nat => (x : Int)) = 0 := by unfold errP; rw [if_pos h0, row_there f3, if_pos rfl]
  refine ⟨?_, hel, hep, ?_, ?_⟩
  · have := nodup_le p.2.1 (List.range (tableS h).length) q1 fun k hk => List.mem_range.2 (q2 k hk)
    rw [List.length_range] at this
    omega
  · unfold kepS; rw [if_pos hep]; exact f1
  · unfold legR
    rw [if_pos hel, natsR_cast, f2, List.length_append, List.length_singleton]
end Go.Proofs.YtpjfhdljagkefaaDoor.RPlain
namespace Go.Proofs.YtpjfhdljagkefaaDoor
open Go.RowKit WPlain QPlain RPlain

theorem bit_shiftW (C k : Nat) (hC : C < 4294967296) : (bits BinOp.and IntKind.u32 ((C : Int) / 2 ^ k) 1 == 1) = C.testBit k := by
  have h1 : ((C : Int) / 2 ^ k) = ((C / 2 ^ k : Nat) : Int) := by rw [Int.natCast_ediv, Int.natCast_pow]; rfl
  have h2 : C / 2 ^ k < 4294967296 := Nat.lt_of_le_of_lt (Nat.div_le_self _ _) hC
  have h3 := u32_and_nat (C / 2 ^ k) 1 h2 (by omega)
  rw [h1, show (1 : Int) = ((1 : Nat) : Int) from rfl, h3, Nat.and_one_is_mod, Nat.testBit_eq_decide_div_mod_eq]
  rw [Bool.eq_iff_iff]
  simp only [beq_iff_eq, decide_eq_true_eq]
  omega
theorem FOwnS.get {S : Nat → Prop} {B : Nat} {w : World} {b o n c : Nat} {l : List Fd} (h : FOwnS S B w (.slice (some ⟨b, o, none⟩) n c) l) (i : Nat) (hi : i < l.length) :
    ∃ u, w.cell? ⟨b, o + i * 4 + 2, none⟩ = some u ∧ Rd w u (ints l[i].r) ∧ SrcN u := by
  obtain ⟨ps, rfl, hr, ho⟩ := h
  have hip : i < ps.length := by simpa using hi
  simp only [List.getElem_map]
  rcases Rws.of_row fdC_len hr with ⟨rfl, _⟩ | ⟨_, b', o', c', he, _, hc⟩
  · simp at hip
  · simp only [Value.slice.injEq, Option.some.injEq, Addr.mk.injEq, and_true] at he
    obtain ⟨⟨rfl, rfl⟩, _, _⟩ := he
    exact ⟨ps[i].2, hc i hip 2 _ (by omega) rfl, (ho _ (List.getElem_mem _)).1.rd, (ho _ (List.getElem_mem _)).2.1⟩
theorem FOwnS.addr {S : Nat → Prop} {B : Nat} {w : World} {a : Option Addr} {n c : Nat} {l : List Fd} (h : FOwnS S B w (.slice a n c) l) (hl : 0 < l.length) : ∃ b o, a = some ⟨b, o, none⟩ := by
  obtain ⟨ps, rfl, hr, ho⟩ := h
  rcases Rws.of_row fdC_len hr with ⟨rfl, _⟩ | ⟨_, b', o', c', he, _, hc⟩
  · simp at hl
  · simp only [Value.slice.injEq] at he
    exact ⟨_, _, he.1⟩
set_option maxRecDepth 100000 in
set_option maxHeartbeats 16000000 in
theorem betW_walk (a : Option Addr) (n m c : Nat) (h : List Ev) (w : World) (hK : HasK w) (hn : n ≤ c) (HAE : Hid ((min (n : Int) 65).toNat = m)) (hv : Evs w (.slice a m c) h) (h1 : h.length = m) (hm1 : m ≤ 65) :
    Calls Tryd.prog 3 #[.slice a n c] w fun e w' => e = .returned (.bool true) ∧ Below w.heap.size w w' := by
  have HK := Lib.hid hK
  have HV := Lib.hid hv
  have HW1 := Lib.hid (checkW_any (.slice a m c) h 1000000 w hK hv (by omega) (by omega) (by omega))
  have HALV := Lib.hid (fun (W : World) (hW : Below w.heap.size w W) => aliveW_any W (hK.later hW (Nat.le_refl _)))
  clear hK hv
  by_cases hc0 : (checkS h).2 = 0
  · have h0 : srchE h 1000000 = 0 := by unfold srchE; rw [if_pos hc0, if_neg (by omega)]
    have h02 : srchE h 200000 = 0 := by unfold srchE; rw [if_pos hc0, if_neg (by omega)]
    have h6 := table_six hc0
    have HS2 := Lib.hid (fun (W : World) (hW : Below w.heap.size w W) => searchX_any (.slice a m c) h 200000 W (HK.out.later hW (Nat.le_refl _)) (HV.out.below hW (Nat.le_refl _)) (by omega))
    have HS3 := Lib.hid (fun (W : World) (hW : Below w.heap.size w W) => strict_any (.slice a m c) h 200000 W (HK.out.later hW (Nat.le_refl _)) (HV.out.below hW (Nat.le_refl _)) (by omega) (by omega) (by omega))
    have HAF := Lib.hid (fun (W : World) (hW : Below w.heap.size w W) => after_any (.slice a m c) h W (HK.out.later hW (Nat.le_refl _)) (HV.out.below hW (Nat.le_refl _)) (by omega))
    simp only [strF, srchF, wldF, h0, h02, if_true, show (200000 : Int).toNat = 200000 from rfl, show (1000000 : Int).toNat = 1000000 from rfl] at HW1 HS2 HS3
    simp only [hc0, if_true] at HAF
    obtain ⟨x, hx⟩ : ∃ x, worldS 1000000 (tableS h) = x := ⟨_, rfl⟩
    obtain ⟨g1, g2, g3⟩ := bet_facts hc0 hx
    have hwd := fun hy => world_wider hc0 (B := 200000) (B' := 1000000) (by omega) (by omega) hy
    have hst := fun hy => world_strict hc0 (B := 200000) (B' := 1000000) (by omega) (by omega) hy
    unfold searchS at hwd
    unfold strictS at hst
    rw [choices_chL h6] at hwd hst
    rw [hx] at hwd hst HW1
    obtain ⟨y, hy⟩ : ∃ y, searchG 200000 (tableS h) (fun _ => 2 ^ (tableS h).length - 1) (chL (tableS h)) 0 = y := ⟨_, rfl⟩
    obtain ⟨zz, hz2⟩ : ∃ zz, searchG 200000 (tableS h) (fun c => c) (chL (tableS h)) 0 = zz := ⟨_, rfl⟩
    rw [hy] at hwd HS2
    rw [hz2] at hst HS3
    have HLA : Hid ((u32s (afterS (tableS h))).length = (tableS h).length) := by unfold Hid; rw [u32s_len, afterS_len]
    obtain ⟨xv, C, R, OW, sx⟩ := x
    simp only at hwd hst g1 g2 g3 HW1
    unfold wldV at HW1
    unfold fndV at HS2 HS3
    have HG2 := Lib.hid g2
    have HG3 := Lib.hid g3
    have HWD := Lib.hid hwd
    have HST := Lib.hid hst
    have HC0 := Lib.hid hc0
    clear hx hy hz2 h0 h02 hc0 g2 g3 hwd hst
    go_enter Tryd.func3, Tryd.ntmps3
    go_upto_region 2 with fail
    rw [HAE.out]
    go_wp2_with fail
    refine HW1.out.mono ?_
    rintro e w1 ⟨rv, ov, rfl, hr1, -, ho1, hb1⟩
    obtain ⟨rb, rc, rfl⟩ := hr1.rd.len
    obtain ⟨ob, oc, rfl⟩ := ho1.fds.len
    obtain ⟨rn, hrn⟩ : ∃ z, (nats R).length = z := ⟨_, rfl⟩
    obtain ⟨on, hon⟩ : ∃ z, (OW.map toFd).length = z := ⟨_, rfl⟩
    rw [hrn]
    rw [hon] at ho1 ⊢
    obtain ⟨N3, hN3⟩ : ∃ z, w1.heap.size = z := ⟨_, rfl⟩
    obtain ⟨w2, hw2⟩ : ∃ z, w1.alloc (.cells #[.int .i64 (xv : Int), .int .u32 (C : Int), .slice rb rn rc, .slice ob on oc, .int .i64 (sx : Int)] 27) = z := ⟨_, rfl⟩
    have ha3 : At w2 N3 #[.int .i64 (xv : Int), .int .u32 (C : Int), .slice rb rn rc, .slice ob on oc, .int .i64 (sx : Int)] 27 := by
      rw [← hw2, ← hN3]; exact At.new w1 _ _
    have hb12 : Below w1.heap.size w1 w2 := by rw [← hw2]; exact (Below.refl _ w1).alloc (Nat.le_refl _) _
    have HB2 := Lib.hid (hb1.trans (hb12.mono hb1.size))
    have HA3 := Lib.hid ha3
    have HO2 := Lib.hid (ho1.later hb12)
    have HRN := Lib.hid hrn
    have HON := Lib.hid hon
    have HW2 := Lib.hid hw2
    clear hr1 hb1 ha3 hb12 ho1 HW1 hw2 hrn hon
    go_upto_region 5 with fail
    rw [HW2.out]
    clear HW2
    go_wp2_with fail
    refine (HS2.out w2 HB2.out).mono ?_
    rintro e w3 ⟨rv3, rfl, hr3, -, hb3⟩
    obtain ⟨gb, gc, rfl⟩ := hr3.rd.len
    obtain ⟨gn, hgn⟩ : ∃ z, (nats y.2.2.1).length = z := ⟨_, rfl⟩
    rw [hgn]
    obtain ⟨N5, hN5⟩ : ∃ z, w3.heap.size = z := ⟨_, rfl⟩
    obtain ⟨w4, hw4⟩ : ∃ z, w3.alloc (.cells #[.int .i64 (y.1 : Int), .int .u32 (y.2.1 : Int), .slice gb gn gc, .int .i64 (y.2.2.2 : Int)] 33) = z := ⟨_, rfl⟩
    have ha5 : At w4 N5 #[.int .i64 (y.1 : Int), .int .u32 (y.2.1 : Int), .slice gb gn gc, .int .i64 (y.2.2.2 : Int)] 33 := by
      rw [← hw4, ← hN5]; exact At.new w3 _ _
    have hb34 : Below w3.heap.size w3 w4 := by rw [← hw4]; exact (Below.refl _ w3).alloc (Nat.le_refl _) _
    have hb24 := hb3.trans (hb34.mono hb3.size)
    have HB4 := Lib.hid (HB2.out.trans (hb24.mono HB2.out.size))
    have HA34 := Lib.hid (HA3.out.below hb24 HA3.out.lt)
    have HO4 := Lib.hid (HO2.out.later hb24)
    have HA5 := Lib.hid ha5
    have HW4 := Lib.hid hw4
    clear hr3 hb3 ha5 hb34 hb24 hgn hw4 HA3 HO2 HB2 HS2
    go_upto_region 6 with fail
    rw [HW4.out]
    clear HW4
    go_wp2_with fail
    refine (HS3.out w4 HB4.out).mono ?_
    rintro e w5 ⟨rv5, rfl, hr5, -, hb5⟩
    obtain ⟨kb, kc, rfl⟩ := hr5.rd.len
    obtain ⟨kn, hkn⟩ : ∃ z, (nats zz.2.2.1).length = z := ⟨_, rfl⟩
    rw [hkn]
    obtain ⟨N7, hN7⟩ : ∃ z, w5.heap.size = z := ⟨_, rfl⟩
    obtain ⟨w6, hw6⟩ : ∃ q, w5.alloc (.cells #[.int .i64 (zz.1 : Int), .int .u32 (zz.2.1 : Int), .slice kb kn kc, .int .i64 (zz.2.2.2 : Int)] 33) = q := ⟨_, rfl⟩
    have ha7 : At w6 N7 #[.int .i64 (zz.1 : Int), .int .u32 (zz.2.1 : Int), .slice kb kn kc, .int .i64 (zz.2.2.2 : Int)] 33 := by
      rw [← hw6, ← hN7]; exact At.new w5 _ _
    have hb56 : Below w5.heap.size w5 w6 := by rw [← hw6]; exact (Below.refl _ w5).alloc (Nat.le_refl _) _
    have hb46 := hb5.trans (hb56.mono hb5.size)
    have HB6 := Lib.hid (HB4.out.trans (hb46.mono HB4.out.size))
    have HA36 := Lib.hid (HA34.out.below hb46 HA34.out.lt)
    have HA56 := Lib.hid (HA5.out.below hb46 HA5.out.lt)
    have HO6 := Lib.hid (HO4.out.later hb46)
    have HA7 := Lib.hid ha7
    have HW6 := Lib.hid hw6
    clear hr5 hb5 ha7 hb56 hb46 hkn hw6 HA34 HA5 HO4 HB4 HS3
    go_upto_region 7 with fail
    rw [HW6.out]
    clear HW6
    go_cut [80] from 46 (fun cc wx => cc = .bool false ∧ Hid (Below w6.heap.size w6 wx))
    case first =>
      have q0 : w6.cell? ⟨N3, 0, none⟩ = some (.int .i64 (xv : Int)) := HA36.out.cell rfl
      have p0 : w6.cell? ⟨N5, 0, none⟩ = some (.int .i64 (y.1 : Int)) := HA56.out.cell rfl
      have r0 : w6.cell? ⟨N7, 0, none⟩ = some (.int .i64 (zz.1 : Int)) := HA7.out.cell rfl
      have t2 : ((xv : Int) == 2) = false := by simp; omega
      by_cases hx0 : xv = 0
      · have hz0 := HST.out hx0
        have t1 : ((xv : Int) != 0) = false := by simp; omega
        have t1b : ((xv : Int) == 0) = true := by simp; omega
        have t3 : ((zz.1 : Int) != 0) = false := by simp; omega
        by_cases hy0 : y.1 = 0
        · have t0 : ((y.1 : Int) == 0) = true := by simp; omega
          clear hx0 hz0 hy0
          go_wp2_with (go_at_call 5; refine (HALV.out w6 HB6.out).mono ?_; rintro e w7 ⟨rfl, hb7⟩)
          go_meet
          exact ⟨rfl, hb7⟩
        · have t0 : ((y.1 : Int) == 0) = false := by simp; omega
          clear hx0 hz0 hy0
          go_wp2_with (go_at_call 5; refine (HALV.out w6 HB6.out).mono ?_; rintro e w7 ⟨rfl, hb7⟩)
          go_meet
          exact ⟨rfl, hb7⟩
      · have hy0 : ¬ y.1 = 0 := fun hy => hx0 (HWD.out hy)
        have t0 : ((y.1 : Int) == 0) = false := by simp; omega
        have t1b : ((xv : Int) == 0) = false := by simp; omega
        clear hx0 hy0
        go_wp2_with (go_at_call 5; refine (HALV.out w6 HB6.out).mono ?_; rintro e w7 ⟨rfl, hb7⟩)
        go_meet
        exact ⟨rfl, hb7⟩
    case rest =>
    obtain ⟨rfl, HB67⟩ := hcut
    have q0 : wc.cell? ⟨N3, 0, none⟩ = some (.int .i64 (xv : Int)) := cell_on HB67.out (HA36.out.cell rfl)
    have HBC := Lib.hid (HB6.out.trans (HB67.out.mono HB6.out.size))
    clear HA56 HA7 HWD HST
    rcases g1 with rfl | rfl
    · obtain ⟨hC, hOl, hOt⟩ := HG3.out rfl
      have h64 := pow_le_64 h6
      have hC32 : C < 4294967296 := by omega
      have HOT := Lib.hid hOt
      have hon : on = cntW C (tableS h).length := by rw [← HON.out, List.length_map, hOl]
      have HBS : Hid (∀ k : Nat, (bits BinOp.and IntKind.u32 ((C : Int) / 2 ^ k) 1 == 1) = C.testBit k) := fun k => bit_shiftW C k hC32
      have HOL := Lib.hid hOl
      have hocl := cntW_le C (tableS h).length
      obtain ⟨j0, hj0, hy0, hy1', hy2'⟩ := info_parts infoN11
      clear HG2 HG3 hOt hOl h64
      have haf := HAF.out wc HBC.out
      go_wp2_with fail
      refine haf.mono ?_
      rintro e w8 ⟨lv, rfl, hr8, hb8⟩
      obtain ⟨la, lc, rfl⟩ := hr8.len
      rw [HLA.out]
      have HB68 := Lib.hid (HB67.out.trans (hb8.mono HB67.out.size))
      clear hr8 hb8 haf HAF q0 HB67
      obtain ⟨tn, htn⟩ : ∃ z, (tableS h).length = z := ⟨_, rfl⟩
      have HTN := Lib.hid htn
      rw [htn] at h6 hon hocl ⊢
      clear htn
      have hc00 : cntW C 0 = 0 := rfl
      go_wp2_with fail
      go_loopw [11, 99] (fun y x wr => ∃ k : Nat, k ≤ tn ∧ x = .int .i64 (k : Int) ∧ y = .int .i64 ((cntW C k : Nat) : Int) ∧ Hid (Below w6.heap.size w6 wr)) (fun _ x _ => tn - (intOf x).toNat)
      case atStart => exact ⟨0, by omega, rfl, by rw [hc00]; rfl, HB68⟩
      case round =>
        clear HB68 HBC hc00
        obtain ⟨k, hk, rfl, rfl, HBR⟩ := hrel
        by_cases hlk : k < tn
        · have r1 : wr.cell? ⟨N3, 1, none⟩ = some (.int .u32 (C : Int)) := cell_on HBR.out (HA36.out.cell rfl)
          have hbs := HBS.out k
          have hkf : k < 6 := by omega
          cases hb : C.testBit k with
          | true =>
            rw [hb] at hbs
            have HCY := Lib.hid (cntW_yes hb)
            clear hb
            go_wp2_with fail
            go_roundw
            case rel => exact ⟨k + 1, by omega, by go_num, by rw [HCY.out], HBR⟩
            case measure => simp [intOf]; omega
          | false =>
            rw [hb] at hbs
            have HCN := Lib.hid (cntW_no hb)
            have hjl := cntW_lt hlk hb
            have hjo : cntW C k < OW.length := by rw [HOL.out, HTN.out]; exact hjl
            obtain ⟨e1, e2, e3, e4, e5⟩ := HOT.out k (by rw [HTN.out]; exact hlk) hb hjo
            have hjm : cntW C k < (OW.map toFd).length := by rw [List.length_map]; exact hjo
            have HOR := Lib.hid (HO6.out.later HBR.out)
            obtain ⟨b, o, rfl⟩ := HOR.out.addr (by omega)
            obtain ⟨u, hcu, hru, hsu⟩ := HOR.out.get (cntW C k) hjm
            rw [List.getElem_map, toFd_row] at hru
            have HHE := Lib.hid (HV.out.below (HB6.out.trans (HBR.out.mono HB6.out.size)) (Nat.le_refl _))
            have HKR := Lib.hid (HK.out.later (HB6.out.trans (HBR.out.mono HB6.out.size)) (Nat.le_refl _))
            have r3 : wr.cell? ⟨N3, 3, none⟩ = some (.slice (some ⟨b, o, none⟩) on oc) := cell_on HBR.out (HA36.out.cell rfl)
            generalize (OW[cntW C k]).2.1 = row at *
            obtain ⟨j, hj⟩ : ∃ j, cntW C k = j := ⟨_, rfl⟩
            rw [hj] at hcu hjl HCN hjo hjm ⊢
            have hjlon : (j : Int) < (on : Int) := by omega
            clear hb hj hjo hjm
            obtain ⟨ua, uc, rfl⟩ := hru.len
            have HRU := Lib.hid hru
            rw [nats_len] at HRU hsu hcu
            have HSU := Lib.hid hsu
            have hba : Below wr.heap.size wr (wr.alloc (.cells #[] 3)) := (Below.refl _ wr).alloc (Nat.le_refl _) _
            have HBA := Lib.hid hba
            have HOA := Lib.hid (World.ownsRow_made (e := 3) (base := wr.heap.size) (size := 1) wr #[] 0 (Nat.le_refl _) (by unfold maxLen; omega) (by simp))
            have r3b : (wr.alloc (.cells #[] 3)).cell? ⟨N3, 3, none⟩ = some (.slice (some ⟨b, o, none⟩) on oc) := cell_on hba r3
            have hcub : (wr.alloc (.cells #[] 3)).cell? ⟨b, o + j * 4 + 2, none⟩ = some (.slice ua row.length uc) := cell_on hba hcu
            have HNA : Hid (nats row ++ [.int .i64 (k : Int)] = nats (row ++ [k])) := by unfold Hid; simp [nats]
            clear hru hsu hba
            go_wp2_with (at_builtin; refine wpList_append_srcI rfl _ _ rfl wr.heap.size _ 0 [] rfl HOA.out _ row rfl (HRU.out.below HBA.out (Nat.le_refl _)) HSU.out (by omega) HBA.out.size ?_)
            intro va wa hoa hga
            have hbaw := HBA.out.grown hga HBA.out.size (fun x hx => (HOA.out.lt x hx).1)
            have HOA2 := Lib.hid hoa
            have HBA2 := Lib.hid hbaw
            obtain ⟨a1, c1, rfl⟩ := row_slice hoa
            have hrl : row.length ≤ 6 := e1
            clear hoa hga hbaw r3b hcub r1 r3 hcu
            go_wp2_with (at_builtin; refine wpList_append_own _ rfl _ _ 24 rfl wr.heap.size 3 j0 (.int .i64 0) 1 8 Tryd.underlying24 hj0 hy0 hy1' hy2' rfl (by decide) (.slice a1 row.length c1) row.length (nats row) rfl (HOA2.out.alloc _) ⟨wa.heap.size, 0, none⟩ 1 1 [.int .i64 (k : Int)] rfl rfl (cell_one_at wa _ _) (nats_one [k]) (by unfold maxLen; omega) (by omega) (by have := HBA2.out.size; simp; omega) ?_)
            intro vb wb hob hgb _
            have hbb := (HBA2.out.alloc HBA2.out.size (.cells #[.int .i64 (k : Int)] 3)).grown hgb (by have := HBA2.out.size; simp; omega) (fun x hx => (HOA2.out.lt x hx).1)
            rw [HNA.out] at hob
            have HBB := Lib.hid (HBR.out.trans (hbb.mono HBR.out.size))
            have HRB : Hid (Rd wb vb (ints ((row ++ [k]).map fun x : Nat => (x : Int)))) := by
              rw [← nats_ints]
              exact Rd.of_row hob
            obtain ⟨b1, d1, rfl⟩ := row_slice hob
            have hkp := keeps_any (.slice a m c) (.slice b1 (row.length + 1) d1) h _ wb (HK.out.later (HB6.out.trans (HBB.out.mono HB6.out.size)) (Nat.le_refl _)) (HV.out.below (HB6.out.trans (HBB.out.mono HB6.out.size)) (Nat.le_refl _)) (by omega) HRB.out (by simp; omega)
            have HLE := Lib.hid (fun (W : World) (hW : Below wb.heap.size wb W) => legal_any (.slice a m c) (.slice b1 (row.length + 1) d1) h _ C W ((HK.out.later (HB6.out.trans (HBB.out.mono HB6.out.size)) (Nat.le_refl _)).later hW (Nat.le_refl _)) ((HV.out.below (HB6.out.trans (HBB.out.mono HB6.out.size)) (Nat.le_refl _)).below hW (Nat.le_refl _)) (by omega) (HRB.out.below hW (Nat.le_refl _)) (by simp; omega) hC32)
            rw [e3, e4] at hkp
            rw [e2, e5] at HLE
            have HKP := Lib.hid hkp
            clear hob hgb hbb hkp e2 e3 e4 e5 HRU HSU HBA HOA HOA2 HBA2 HOR HNA
            go_wp2_with fail
            refine HKP.out.mono ?_
            rintro e wd ⟨rfl, hbd⟩
            have hle := HLE.out wd hbd
            have HBD := Lib.hid (HBB.out.trans (hbd.mono HBB.out.size))
            have r1 : wd.cell? ⟨N3, 1, none⟩ = some (.int .u32 (C : Int)) := cell_on HBD.out (HA36.out.cell rfl)
            clear hbd HKP HLE HRB
            go_wp2_with fail
            refine hle.mono ?_
            rintro e we ⟨rfl, hbe⟩
            have HBE := Lib.hid (HBD.out.trans (hbe.mono HBD.out.size))
            have tl : (((row.length + 1 : Nat) : Int) != ((row.length + 1 : Nat) : Int)) = false := by simp
            clear hbe hle r1
            go_wp2_with fail
            go_roundw
            case rel => exact ⟨k + 1, by omega, by go_num, by rw [HCN.out]; go_num, HBE⟩
            case measure => simp [intOf]; omega
        · obtain rfl : k = tn := by omega
          have r3 : wr.cell? ⟨N3, 3, none⟩ = some (.slice ob on oc) := cell_on HBR.out (HA36.out.cell rfl)
          have HBW := Lib.hid (HB6.out.trans (HBR.out.mono HB6.out.size))
          rw [← hon]
          clear HBR
          go_wp2_with fail
          go_ret
          exact ⟨rfl, HBW.out⟩
    · obtain ⟨hR, hO⟩ := HG2.out rfl
      have q2 : wc.cell? ⟨N3, 2, none⟩ = some (.slice rb rn rc) := cell_on HB67.out (HA36.out.cell rfl)
      have q3 : wc.cell? ⟨N3, 3, none⟩ = some (.slice ob on oc) := cell_on HB67.out (HA36.out.cell rfl)
      have hrn : rn = 0 := by rw [← HRN.out, hR]; rfl
      have hon : on = 0 := by rw [← HON.out, hO]; rfl
      subst hrn hon
      clear hR hO HG2 HG3
      go_wp2_with fail
      go_ret
      exact ⟨rfl, HBC.out⟩
  · obtain ⟨er, her⟩ : ∃ er, srchE h 1000000 = er := ⟨_, rfl⟩
    have h0 : er ≠ 0 := by rw [← her]; unfold srchE; rw [if_neg hc0]; exact hc0
    simp only [wldF, her, h0, if_false] at HW1
    have te : ((er : Int) != 0) = true := by simp; omega
    unfold wldV at HW1
    clear her hc0
    go_enter Tryd.func3, Tryd.ntmps3
    go_upto_region 2 with fail
    rw [HAE.out]
    go_wp2_with fail
    refine HW1.out.mono ?_
    rintro e w1 ⟨rv, ov, rfl, hr1, -, ho1, hb1⟩
    obtain ⟨rb, rc, rfl⟩ := hr1.rd.len
    obtain ⟨ob, oc, rfl⟩ := ho1.fds.len
    obtain ⟨N3, hN3⟩ : ∃ z, w1.heap.size = z := ⟨_, rfl⟩
    have hn0 : (nats []).length = 0 := rfl
    have hn1 : (([] : List (Nat × List Nat × Nat)).map toFd).length = 0 := rfl
    rw [hn0, hn1]
    obtain ⟨w2, hw2⟩ : ∃ z, w1.alloc (.cells #[.int .i64 0, .int .u32 0, .slice rb 0 rc, .slice ob 0 oc, .int .i64 0] 27) = z := ⟨_, rfl⟩
    have ha3 : At w2 N3 #[.int .i64 0, .int .u32 0, .slice rb 0 rc, .slice ob 0 oc, .int .i64 0] 27 := by
      rw [← hw2, ← hN3]; exact At.new w1 _ _
    have hb12 : Below w1.heap.size w1 w2 := by rw [← hw2]; exact (Below.refl _ w1).alloc (Nat.le_refl _) _
    have HB2 := Lib.hid (hb1.trans (hb12.mono hb1.size))
    have HA3 := Lib.hid ha3
    have HW2 := Lib.hid hw2
    clear hr1 hb1 ha3 hb12 ho1 HW1 hw2 hn0 hn1
    go_upto_region 4 with fail
    rw [HW2.out]
    clear HW2
    go_wp2_with fail
    refine (HALV.out w2 HB2.out).mono ?_
    rintro e w7 ⟨rfl, hb7⟩
    have q4 : w7.cell? ⟨N3, 4, none⟩ = some (.int .i64 0) := cell_on hb7 (HA3.out.cell rfl)
    have HB7 := Lib.hid (HB2.out.trans (hb7.mono HB2.out.size))
    clear hb7
    go_wp2_with fail
    go_ret
    exact ⟨rfl, HB7.out⟩
theorem betW_any (a : Option Addr) (n c : Nat) (h : List Ev) (w : World) (hK : HasK w) (hn : n ≤ c) (_ : a = none → c = 0) (hv : Evs w (.slice a (min (n : Int) 65).toNat c) h) :
    Calls Tryd.prog 3 #[.slice a n c] w fun e w' => e = .returned (.bool true) ∧ Below w.heap.size w w' := by
  obtain ⟨m, hm⟩ : ∃ m, (min (n : Int) 65).toNat = m := ⟨_, rfl⟩
  rw [hm] at hv
  exact betW_walk a n m c h w hK hn hm hv hv.length.symm (by omega)
end Go.Proofs.YtpjfhdljagkefaaDoor
