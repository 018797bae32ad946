/- The walks of package complete's ending and Complete. -/
import Derived.Test.YtnddiaonceeicaaDoorCmpD
import Derived.Test.YtnddiaonceeicaaDoorMg12
import Derived.Deep.CutRange
namespace Go.Proofs.YtnddiaonceeicaaDoor.WPlain
end Go.Proofs.YtnddiaonceeicaaDoor.WPlain
namespace Go.Proofs.YtnddiaonceeicaaDoor.QPlain
end Go.Proofs.YtnddiaonceeicaaDoor.QPlain
namespace Go.Proofs.YtnddiaonceeicaaDoor.RPlain
end Go.Proofs.YtnddiaonceeicaaDoor.RPlain
namespace Go.Proofs.YtnddiaonceeicaaDoor.RPlain
open WPlain QPlain

theorem last_asked {h : List Ev} {t : Int} (ht : t ∈ namesOf h) : lastOf h t = (askedOf h t).k := by
  revert ht
  refine rev_ind (p := fun h => t ∈ namesOf h → lastOf h t = (askedOf h t).k) ?_ ?_ h
  · intro ht; simp [namesOf] at ht
  · intro h e ih ht
    rw [lastOf_snoc, askedOf_snoc]
    by_cases he : e.t = t
    · rw [if_pos he, if_pos he]
    · rw [if_neg he, if_neg he]
      refine ih ?_
      rcases (mem_names_snoc h e t).1 ht with hm | hm
      · exact hm
      · exact absurd hm.symm he
theorem last_at (h : List Ev) (t : Int) (ht : t ∈ namesOf h) : ∃ l : Nat, lstOf h t = (l : Int) ∧ ∃ hl : l < h.length, h[l].k = lastOf h t := by
  obtain ⟨l, h1, h2, h3⟩ := asked_at h t ht
  exact ⟨l, h1, h2, by rw [h3, last_asked ht]⟩
/-- the error of a completion -/
def compE (h : List Ev) (n : Nat) : Nat := if (checkS h).2 = 0 then (if choiceS (tableS h) n = true then (if 60 < (completeS h n).length then 5 else 0) else 1) else (checkS h).2
end Go.Proofs.YtnddiaonceeicaaDoor.RPlain
namespace Go.Proofs.YtnddiaonceeicaaDoor
open Go.RowKit WPlain QPlain RPlain

theorem four_oneC (a b c d : Int) : ∀ u ∈ [Value.int .i64 a, .int .i64 b, .int .i64 c, .int .i64 d], u.oneCell' = true := by
  intro u hu; simp at hu; rcases hu with rfl | rfl | rfl | rfl <;> rfl
theorem row_lit (cs : List Int) (w : World) (h : cs.length ≤ 65536) : (w.alloc (.cells (ints cs).toArray 3)).ownsRow w.heap.size 3 1 (.slice (some ⟨w.heap.size, 0, none⟩) cs.length cs.length) cs.length (ints cs) := by
  refine ⟨by simp [ints], .inr ⟨w.heap.size, cs.length, (ints cs).toArray, rfl, Nat.le_refl _, heap_alloc_new w _, Nat.le_refl _, by unfold maxLen; omega, by simp [ints], ?_⟩⟩
  simp
  rw [List.take_of_length_le (by simp [ints])]
set_option maxRecDepth 100000 in
theorem ending_any (k : Int) (b : Bool) (w : World) :
    Calls Tryd.prog 24 #[.int .i64 k, .bool b] w fun e w' => ∃ v', e = .returned v' ∧ w'.ownsRow w.heap.size 3 1 v' (endK k b).length (ints (endK k b)) ∧ Below w.heap.size w w' := by
  have hb := fun (o : Obj) => (Below.refl w.heap.size w).alloc (Nat.le_refl _) o
  by_cases h7 : k = 7
  · subst h7
    go_enter Tryd.func24, Tryd.ntmps24
    go_wp2
    go_ret
    exact ⟨_, rfl, World.ownsRow_nil _ _ _ _, Below.refl _ _⟩
  · by_cases h9 : k = 9
    · subst h9
      go_enter Tryd.func24, Tryd.ntmps24
      go_wp2
      go_ret
      exact ⟨_, rfl, World.ownsRow_nil _ _ _ _, Below.refl _ _⟩
    · by_cases h1 : k = 1 ∨ k = 3 ∨ k = 5
      · have hr := row_lit [8, 9] w (by decide)
        rcases h1 with rfl | rfl | rfl
        · have he : endK 1 b = [8, 9] := by cases b <;> rfl
          rw [he]
          go_enter Tryd.func24, Tryd.ntmps24
          go_wp2
          go_ret
          exact ⟨_, rfl, hr, hb _⟩
        · have he : endK 3 b = [8, 9] := by cases b <;> rfl
          rw [he]
          go_enter Tryd.func24, Tryd.ntmps24
          go_wp2
          go_ret
          exact ⟨_, rfl, hr, hb _⟩
        · have he : endK 5 b = [8, 9] := by cases b <;> rfl
          rw [he]
          go_enter Tryd.func24, Tryd.ntmps24
          go_wp2
          go_ret
          exact ⟨_, rfl, hr, hb _⟩
      · by_cases h6 : k = 6
        · subst h6
          cases b with
          | true =>
            have hr := row_lit [7] w (by decide)
            go_enter Tryd.func24, Tryd.ntmps24
            go_wp2
            go_ret
            exact ⟨_, rfl, hr, hb _⟩
          | false =>
            have hr := row_lit [9] w (by decide)
            go_enter Tryd.func24, Tryd.ntmps24
            go_wp2
            go_ret
            exact ⟨_, rfl, hr, hb _⟩
        · have hr := row_lit [9] w (by decide)
          have he : endK k b = [9] := by unfold endK; rw [if_neg (by omega), if_neg (by omega), if_neg h1]
          rw [he]
          have t7 : ((k : Int) == 7) = false := by simp [h7]
          have t9 : ((k : Int) == 9) = false := by simp [h9]
          have t6 : ((k : Int) == 6) = false := by simp [h6]
          have t1 : ((k : Int) == 1) = false := by simp; omega
          have t3 : ((k : Int) == 3) = false := by simp; omega
          have t5 : ((k : Int) == 5) = false := by simp; omega
          clear h7 h9 h6 h1 he
          go_enter Tryd.func24, Tryd.ntmps24
          go_wp2
          go_ret
          exact ⟨_, rfl, hr, hb _⟩
theorem compE_bad {h : List Ev} {n : Nat} (h0 : (checkS h).2 ≠ 0) : compE h n = (checkS h).2 := by unfold compE; rw [if_neg h0]
theorem compE_no {h : List Ev} {n : Nat} (h0 : (checkS h).2 = 0) (hc : choiceS (tableS h) n = false) : compE h n = 1 := by unfold compE; rw [if_pos h0, hc]; rfl
theorem compE_yes {h : List Ev} {n : Nat} (h0 : (checkS h).2 = 0) (hc : choiceS (tableS h) n = true) : compE h n = if 60 < (completeS h n).length then 5 else 0 := by unfold compE; rw [if_pos h0, if_pos hc]
/-- what Complete answers -/
def Cmpl (h : List Ev) (n : Nat) (w : World) (e : Ending) (w' : World) : Prop :=
  ∃ v', e = .returned (.tuple #[v', .int .i64 ((compE h n : Nat) : Int)]) ∧ w'.ownsRow w.heap.size 54 4 v' (if compE h n = 0 then completeS h n else []).length (evsCells (if compE h n = 0 then completeS h n else [])) ∧ Below w.heap.size w w'
set_option maxRecDepth 100000 in
theorem complete_bad (v : Value) (h : List Ev) (n : Nat) (w : World) (hK : HasK w) (hv : Evs w v h) (hl : h.length ≤ 65536) (h0 : (checkS h).2 ≠ 0) :
    Calls Tryd.prog 7 #[v, .int .u32 (n : Int)] w (Cmpl h n w) := by
  have HT := Lib.hid (table_any v h w hK hv hl)
  clear hK hv hl
  unfold Cmpl
  rw [compE_bad h0]
  rw [if_neg h0] at HT ⊢
  obtain ⟨er, her⟩ : ∃ er, (checkS h).2 = er := ⟨_, rfl⟩
  rw [her] at HT h0 ⊢
  have te : ((er : Int) != 0) = true := by simp; omega
  clear her h0
  go_enter Tryd.func7, Tryd.ntmps7
  go_wp2_with fail
  refine HT.out.mono ?_
  rintro e w1 ⟨v1, rfl, hv1, hb1⟩
  obtain ⟨a1, c1, rfl⟩ := hv1.len
  go_wp2
  refine bodyPost_ret (v := .tuple #[.slice none 0 0, .int .i64 er]) (by simp [results, Tryd.results7, go_sem]) rfl ⟨_, rfl, World.ownsRow_nil _ _ _ _, hb1⟩
set_option maxRecDepth 100000 in
theorem complete_no (v : Value) (h : List Ev) (n : Nat) (w : World) (hK : HasK w) (hv : Evs w v h) (hl : h.length ≤ 65536) (hn : n < 4294967296) (h0 : (checkS h).2 = 0) (hc : choiceS (tableS h) n = false) :
    Calls Tryd.prog 7 #[v, .int .u32 (n : Int)] w (Cmpl h n w) := by
  have HT := Lib.hid (table_any v h w hK hv hl)
  clear hK hv hl
  have h6 := table_six h0
  have hcb := choice_bits h6 hn
  have hp := stN_lt h6 1
  have hne : n &&& (4294967295 - stN (tableS h) 1) ≠ stN (tableS h) 2 := fun hh => by rw [hcb.1 hh] at hc; exact absurd hc (by decide)
  have HBO2 := Lib.hid (fun (u : Value) (W : World) (hu : Txs W u (tableS h)) => bitsOf_any u (tableS h) 2 W hu h6)
  have HBO1 := Lib.hid (fun (u : Value) (W : World) (hu : Txs W u (tableS h)) => bitsOf_any u (tableS h) 1 W hu h6)
  have hand := u32_andNot_nat n (stN (tableS h) 1) hn (by omega)
  unfold Cmpl
  rw [compE_no h0 hc, if_neg (by decide)]
  rw [h0, if_pos rfl] at HT
  clear h0 h6 hcb hc hp
  generalize n &&& (4294967295 - stN (tableS h) 1) = q at *
  generalize stN (tableS h) 1 = p at *
  generalize stN (tableS h) 2 = lo at *
  obtain ⟨z, hz⟩ : ∃ z : Int, (q : Int) = z := ⟨_, rfl⟩
  obtain ⟨y, hy⟩ : ∃ y : Int, (lo : Int) = y := ⟨_, rfl⟩
  have te : (z != y) = true := by
    rw [bne_iff_ne, ← hz, ← hy]
    exact fun hh => hne (Int.ofNat.inj hh)
  rw [hz] at hand
  rw [hy] at HBO2
  clear hz hy hne
  go_enter Tryd.func7, Tryd.ntmps7
  go_wp2_with fail
  refine HT.out.mono ?_
  rintro e w1 ⟨v1, rfl, hv1, hb1⟩
  have HV1 := Lib.hid hv1
  have HB1 := Lib.hid hb1
  obtain ⟨a1, c1, rfl⟩ := hv1.len
  clear hv1 hb1 HT
  go_wp2_with fail
  refine (HBO1.out _ w1 HV1.out).mono ?_
  rintro e w2 ⟨rfl, hb2⟩
  have HB2 := Lib.hid (HB1.out.trans (hb2.mono HB1.out.size))
  have HV2 := Lib.hid (HV1.out.below hb2 (Nat.le_refl _))
  clear hb2 HB1 HV1
  go_wp2_with fail
  refine (HBO2.out _ w2 HV2.out).mono ?_
  rintro e w3 ⟨rfl, hb3⟩
  have HB3 := Lib.hid (HB2.out.trans (hb3.mono HB2.out.size))
  clear hb3 HB2 HV2 HBO1 HBO2
  go_wp2
  refine bodyPost_ret (v := .tuple #[.slice none 0 0, .int .i64 1]) (by simp [results, Tryd.results7, go_sem]) rfl ⟨_, rfl, World.ownsRow_nil _ _ _ _, HB3.out⟩
set_option maxRecDepth 100000 in
set_option maxHeartbeats 4000000 in
theorem complete_yes (v : Value) (h : List Ev) (n : Nat) (w : World) (hK : HasK w) (hv : Evs w v h) (hs : Src v) (hn : n < 4294967296) (h0 : (checkS h).2 = 0) (hc : choiceS (tableS h) n = true) :
    Calls Tryd.prog 7 #[v, .int .u32 (n : Int)] w (Cmpl h n w) := by
  have h60 : h.length ≤ 60 := (right_evs (check_agree h0).1).1
  have HT := Lib.hid (table_any v h w hK hv (by omega))
  have HV := Lib.hid hv
  have HS := Lib.hid hs
  obtain ⟨a, c, rfl⟩ := hv.len
  clear hK hv hs
  have h6 := table_six h0
  have hcb := choice_bits h6 hn
  have hp := stN_lt h6 1
  have heq : n &&& (4294967295 - stN (tableS h) 1) = stN (tableS h) 2 := hcb.2 hc
  have HBO2 := Lib.hid (fun (u : Value) (W : World) (hu : Txs W u (tableS h)) => bitsOf_any u (tableS h) 2 W hu h6)
  have HBO1 := Lib.hid (fun (u : Value) (W : World) (hu : Txs W u (tableS h)) => bitsOf_any u (tableS h) 1 W hu h6)
  have hand := u32_andNot_nat n (stN (tableS h) 1) hn (by omega)
  have HCE := Lib.hid (compE_yes h0 hc)
  unfold Cmpl
  rw [h0, if_pos rfl] at HT
  rw [heq] at hand
  have HN6 : Hid ((namesOf h).length ≤ 6) := by unfold Hid; rw [← tableS_len]; exact h6
  have HLA : Hid (∀ t ∈ namesOf h, ∃ l : Nat, lstOf h t = (l : Int) ∧ ∃ hl : l < h.length, h[l].k = lastOf h t) := fun t ht => last_at h t ht
  have HTS : Hid (∀ i (hi : i < (tableS h).length), ∃ hj : i < (namesOf h).length, (tableS h)[i] = txOf h (namesOf h)[i]) := fun i hi => ⟨by rw [tableS_len] at hi; exact hi, tableS_get (by rw [tableS_len] at hi; exact hi)⟩
  have HTL := Lib.hid (tableS_len h)
  have HTK := Lib.hid (fun (j : Nat) (hj : j < (namesOf h).length) => tailG_take h n hj)
  have HFE : Hid (completeS h n = h ++ tailG h n 0 ((namesOf h).take (namesOf h).length)) := by unfold Hid completeS; rw [List.take_length]
  have HTG := Lib.hid (fun (j : Nat) => Nat.le_trans (tailG_len h n ((namesOf h).take j) 0) (Nat.mul_le_mul_left 2 (List.length_take_le' j (namesOf h))))
  generalize completeS h n = G at *
  generalize compE h n = ce at *
  clear h0 hcb hc hp heq
  generalize stN (tableS h) 1 = p at *
  generalize stN (tableS h) 2 = lo at *
  obtain ⟨y, hy⟩ : ∃ y : Int, (lo : Int) = y := ⟨_, rfl⟩
  have te : (y != y) = false := by simp
  rw [hy] at HBO2 hand
  clear hy
  have HTX := Lib.hid (fun (t : Int) => (show (txOf h t).n = t ∧ (txOf h t).l = lstOf h t from ⟨rfl, rfl⟩))
  have HKK := Lib.hid (fun (t : Int) (b : Bool) => endS_endK h t b)
  generalize tableS h = l at *
  generalize namesOf h = ns at *
  obtain ⟨j0, hj0, hy0, hy1', hy2'⟩ := info_parts info54
  go_enter Tryd.func7, Tryd.ntmps7
  go_wp2_with fail
  refine HT.out.mono ?_
  rintro e w1 ⟨v1, rfl, hv1, hb1⟩
  have HV1 := Lib.hid hv1
  have HB1 := Lib.hid hb1
  obtain ⟨a1, c1, rfl⟩ := hv1.len
  clear hv1 hb1 HT
  go_wp2_with fail
  refine (HBO1.out _ w1 HV1.out).mono ?_
  rintro e w2 ⟨rfl, hb2⟩
  have HB2 := Lib.hid (HB1.out.trans (hb2.mono HB1.out.size))
  have HV2 := Lib.hid (HV1.out.below hb2 (Nat.le_refl _))
  clear hb2 HB1 HV1
  go_wp2_with fail
  refine (HBO2.out _ w2 HV2.out).mono ?_
  rintro e w3 ⟨rfl, hb3⟩
  have HB3 := Lib.hid (HB2.out.trans (hb3.mono HB2.out.size))
  have HV3 := Lib.hid (HV2.out.below hb3 (Nat.le_refl _))
  have HE3 := Lib.hid (HV.out.below HB3.out (Nat.le_refl _))
  have HCL := Lib.hid (clone_any _ h w3 HE3.out HS.out h60)
  clear hb3 HB2 HV2 HBO1 HBO2 HV HS
  go_wp2_with fail
  refine HCL.out.mono ?_
  rintro e w4 ⟨v4, rfl, hv4, hb4⟩
  have HR4 : Hid (w4.ownsRow w3.heap.size 54 4 v4 (h ++ tailG h n 0 (ns.take 0)).length (evsCells (h ++ tailG h n 0 (ns.take 0)))) := by unfold Hid; rw [List.take_zero]; unfold tailG; rw [List.append_nil]; exact hv4
  have HB4 := Lib.hid hb4
  obtain ⟨a4, c4, rfl⟩ := row_slice hv4
  clear hv4 hb4 HCL
  go_wp2_with fail
  go_loopw [8, 32] (fun wv x wr => ∃ j : Nat, j ≤ l.length ∧ x = .int .i64 j ∧ Hid (wr.ownsRow w3.heap.size 54 4 wv (h ++ tailG h n 0 (ns.take j)).length (evsCells (h ++ tailG h n 0 (ns.take j)))) ∧ Hid (Below w3.heap.size w3 wr)) (fun _ x _ => l.length - (intOf x).toNat)
  case atStart => exact ⟨0, by omega, rfl, HR4, HB4⟩
  case round =>
    clear HR4 HB4
    obtain ⟨j, hj, rfl, HR, HB⟩ := hrel
    by_cases hlt : j < l.length
    · obtain ⟨hjn, htx⟩ := HTS.out j hlt
      have HTJ := Lib.hid (HTK.out j hjn)
      have hTA := HTG.out j
      have hn6 := HN6.out
      obtain ⟨H, hH⟩ : ∃ H, h ++ tailG h n 0 (ns.take j) = H := ⟨_, rfl⟩
      have hHl : H.length ≤ 72 := by rw [← hH, List.length_append]; omega
      have HNX : Hid (h ++ tailG h n 0 (ns.take (j + 1)) = H ++ (endK (lastOf h ns[j]) (n.testBit j)).map fun k => ⟨k, ns[j], 0, 0⟩) := by
        unfold Hid
        rw [HTJ.out, ← List.append_assoc, hH, HKK.out]
      rw [hH] at HR
      clear hH HTJ hTA hn6
      obtain ⟨l0, hl1, hl2, hl3⟩ := HLA.out ns[j] (List.getElem_mem hjn)
      have hT := HV3.out.below HB.out (Nat.le_refl _)
      obtain ⟨b, o, c', he⟩ := hT.opened (by omega)
      simp only [Value.slice.injEq] at he
      obtain ⟨rfl, -, rfl⟩ := he
      obtain ⟨u, x0, x1, x2, x3, x4, q⟩ := hT.get j hlt
      obtain ⟨ua, uc, rfl, -⟩ := q.len
      rw [htx, (HTX.out ns[j]).1] at x0
      rw [htx, (HTX.out ns[j]).2, hl1] at x2
      have hE := HE3.out.below HB.out (Nat.le_refl _)
      rcases hE with ⟨e0, _⟩ | ⟨_, eb, eo, ec, he, hebl, hec⟩
      · rw [e0] at hl2; simp at hl2
      · simp only [Value.slice.injEq] at he
        obtain ⟨rfl, -, rfl⟩ := he
        obtain ⟨d0, -, -, -⟩ := hec l0 hl2
        rw [hl3] at d0
        have hkb := bitC_any j (by omega)
        have hlt3 : 2 ^ j < 4294967296 := Nat.pow_lt_pow_right (a := 2) (m := j) (n := 32) (by decide) (by omega)
        have hand2 := u32_and_nat n (2 ^ j) hn hlt3
        have hap := and_pow n j
        have hpos : 0 < 2 ^ j := Nat.two_pow_pos j
        obtain ⟨pw, hpw⟩ : ∃ pw, 2 ^ j = pw := ⟨_, rfl⟩
        rw [hpw] at hkb hlt3 hand2 hap hpos
        obtain ⟨za, hza⟩ : ∃ za : Int, ((n &&& pw : Nat) : Int) = za := ⟨_, rfl⟩
        have tq : (za != 0) = n.testBit j := by
          rw [← hza, hap]
          cases n.testBit j with
          | true => simp; exact Nat.pos_iff_ne_zero.1 hpos
          | false => simp
        rw [hza] at hand2
        have hkl := endK_len (lastOf h ns[j]) (n.testBit j)
        clear hl1 hl3 hec hza hap hpw htx hpos hlt3 hT
        generalize n.testBit j = bb at *
        generalize lastOf h ns[j] = kk at *
        generalize ns[j] = t at *
        generalize l[j] = X at *
        have HBA := Lib.hid (HB.out.alloc HB.out.size (.cells #[.int .i64 t, .int .i64 X.f, .int .i64 (l0 : Int), .int .i64 X.s, .slice ua X.o.length uc] 46))
        have HNA := Lib.hid (At.new wr #[.int .i64 t, .int .i64 X.f, .int .i64 (l0 : Int), .int .i64 X.s, .slice ua X.o.length uc] 46)
        have HRA := Lib.hid (row_belowT HR.out ((Below.refl wr.heap.size wr).alloc (Nat.le_refl _) (.cells #[.int .i64 t, .int .i64 X.f, .int .i64 (l0 : Int), .int .i64 X.s, .slice ua X.o.length uc] 46)))
        have hdA := ((Below.refl wr.heap.size wr).alloc (Nat.le_refl _) (.cells #[.int .i64 t, .int .i64 X.f, .int .i64 (l0 : Int), .int .i64 X.s, .slice ua X.o.length uc] 46)).cell (p := ⟨eb, eo + l0 * 4, none⟩) hebl
        rw [d0] at hdA
        obtain ⟨va, vc, rfl⟩ := row_slice HR.out
        clear HR HB
        go_upto_region 10 with fail
        generalize wr.alloc (.cells #[.int .i64 t, .int .i64 X.f, .int .i64 (l0 : Int), .int .i64 X.s, .slice ua X.o.length uc] 46) = wA at *
        generalize wr.heap.size = N at *
        have hnA := HNA.out.cell (i := 2) (v := .int .i64 (l0 : Int)) rfl
        have hNl := HNA.out.lt
        have hel := cell_lt hdA
        have HSC : Hid (∀ W, Below wA.heap.size wA W → W.cell? ⟨N, 2, none⟩ = some (.int .i64 (l0 : Int)) ∧ W.cell? ⟨eb, eo + l0 * 4, none⟩ = some (.int .i64 kk)) := fun W hW => ⟨(hW.cell (p := ⟨N, 2, none⟩) hNl).trans hnA, (hW.cell (p := ⟨eb, eo + l0 * 4, none⟩) hel).trans hdA⟩
        clear hnA hdA x0 x1 x2 x3 x4 d0
        go_cut [48, 49, 50] from 37 to 51 (fun vk vl vi wx => ∃ ka kc, vk = .slice ka (endK kk bb).length kc ∧ vl = .int .i64 ((endK kk bb).length : Int) ∧ vi = .int .i64 0 ∧ Hid (wx.ownsRow wA.heap.size 3 1 vk (endK kk bb).length (ints (endK kk bb))) ∧ Hid (Below wA.heap.size wA wx))
        case first =>
          first
          | go_must (go_region_held (fun w' => w'.cell? ⟨N, 2, none⟩ = some (.int .i64 (l0 : Int)) ∧ w'.cell? ⟨eb, eo + l0 * 4, none⟩ = some (.int .i64 kk))
              (first | exact HSC.out _ hb5 | exact HSC.out _ (below_drP _))
              (first | (go_at_call 25; refine (hkb _).mono ?_; rintro e w4 ⟨rfl, rfl⟩) | (go_at_call 24; refine (ending_any _ _ _).mono ?_; rintro e w5 ⟨vk, rfl, hr5, hb⟩; have hb5 := below_stpP hb; obtain ⟨ka, kc, rfl⟩ := row_slice hr5; clear hb)))
          | fail
          all_goals
            go_wp2_with fail
            go_meet
            exact ⟨ka, kc, rfl, rfl, rfl, hr5, hb5⟩
        case rest =>
        obtain ⟨ka, kc, rfl, rfl, rfl, HKR, HKB⟩ := hcut
        have HNB : Hid (At wc N #[.int .i64 t, .int .i64 X.f, .int .i64 (l0 : Int), .int .i64 X.s, .slice ua X.o.length uc] 46) := HNA.out.below HKB.out HNA.out.lt
        have HRB := Lib.hid (row_belowT HRA.out HKB.out)
        have HKR2 := Lib.hid (own_mono HKR.out (HBA.out.size))
        have HBB := Lib.hid (HBA.out.trans (HKB.out.mono HBA.out.size))
        clear HNA HRA HKR HBA HKB hand2 tq hkb HSC hNl hel
        generalize endK kk bb = K at *
        have HRH : Hid (wc.ownsRow w3.heap.size 54 4 (.slice va H.length vc) (H ++ (K.take 0).map fun k => (⟨k, t, 0, 0⟩ : Ev)).length (evsCells (H ++ (K.take 0).map fun k => (⟨k, t, 0, 0⟩ : Ev)))) := by
          unfold Hid
          rw [List.take_zero, List.map_nil, List.append_nil]
          exact HRB.out
        clear HRB
        obtain ⟨w9, hw9⟩ : ∃ w9 : World, w9 = wr := ⟨wr, rfl⟩
        subst hw9
        go_wp2_with fail
        go_loopw [8, 50] (fun wv x wr => ∃ i : Nat, i ≤ K.length ∧ x = .int .i64 i ∧ Hid (wr.ownsRow w3.heap.size 54 4 wv (H ++ (K.take i).map fun k => (⟨k, t, 0, 0⟩ : Ev)).length (evsCells (H ++ (K.take i).map fun k => (⟨k, t, 0, 0⟩ : Ev)))) ∧ Hid (wr.ownsRow w3.heap.size 3 1 (.slice ka K.length kc) K.length (ints K)) ∧ Hid (At wr N #[.int .i64 t, .int .i64 X.f, .int .i64 (l0 : Int), .int .i64 X.s, .slice ua X.o.length uc] 46) ∧ Hid (Below w3.heap.size w3 wr)) (fun _ x _ => K.length - (intOf x).toNat)
        case atStart => exact ⟨0, by omega, rfl, HRH, HKR2, HNB, HBB⟩
        case round =>
          clear HRH HKR2 HNB HBB
          obtain ⟨i, hi, rfl, HR, HKR, HN, HB⟩ := hrel
          by_cases hli : i < K.length
          · have HSN : Hid (H ++ (K.take (i + 1)).map (fun k => (⟨k, t, 0, 0⟩ : Ev)) = (H ++ (K.take i).map (fun k => (⟨k, t, 0, 0⟩ : Ev))) ++ [⟨K[i], t, 0, 0⟩]) := by
              unfold Hid
              rw [List.take_succ_eq_append_getElem hli, List.map_append, ← List.append_assoc]
              rfl
            have hlH : (H ++ (K.take i).map (fun k => (⟨k, t, 0, 0⟩ : Ev))).length ≤ 100 := by
              rw [List.length_append, List.length_map]
              have := List.length_take_le i K
              omega
            have hck : ∃ gb oo, ka = some ⟨gb, oo, none⟩ ∧ wr.cell? ⟨gb, oo + i, none⟩ = some (.int .i64 K[i]) := by
              rcases (Rd.of_row HKR.out).opened (by rw [ints_len]; omega) with ⟨gb, oo, cc', he, _, hcs⟩
              simp only [Value.slice.injEq] at he
              exact ⟨gb, oo, he.1, hcs i _ (by unfold ints; rw [List.getElem?_map, List.getElem?_eq_getElem hli]; rfl)⟩
            obtain ⟨gb, oo, rfl, hci⟩ := hck
            have hcn := HN.out.cell (i := 0) (v := .int .i64 t) rfl
            generalize H ++ (K.take i).map (fun k => (⟨k, t, 0, 0⟩ : Ev)) = M at *
            generalize K[i] = kx at *
            obtain ⟨ma, mc, rfl⟩ := row_slice HR.out
            have HSQ : Hid (∀ o, w3.heap.size ≤ (wr.alloc o).heap.size) := fun o => by have := HB.out.size; simp; omega
            go_wp2_with (at_builtin; go_must (refine wpList_append_own _ rfl _ _ 22 rfl w3.heap.size 54 j0 (.agg #[.int .i64 0, .int .i64 0, .int .i64 0, .int .i64 0]) 4 32 Tryd.underlying22 hj0 hy0 hy1' hy2' rfl (by decide) _ _ _ rfl (HR.out.alloc _) ⟨wr.heap.size, 0, none⟩ 1 1 [.int .i64 kx, .int .i64 t, .int .i64 0, .int .i64 0] rfl rfl ?c1 ?c2 ?c3 ?c4 ?c5 ?_))
            case c1 => exact cells_at (At.new wr #[.int .i64 kx, .int .i64 t, .int .i64 0, .int .i64 0] _)
            case c2 => exact four_oneC _ _ _ _
            case c3 => unfold maxLen; omega
            case c4 => omega
            case c5 => exact HSQ.out _
            intro v5 w5 hv5 hg5 _
            have HB5 : Hid (Below w3.heap.size w3 w5) := (HB.out.alloc HB.out.size (.cells #[.int .i64 kx, .int .i64 t, .int .i64 0, .int .i64 0] 54)).grown hg5 (HSQ.out _) (fun k' hk' => (HR.out.lt k' hk').1)
            have HV5 : Hid (w5.ownsRow w3.heap.size 54 4 v5 (M ++ [(⟨kx, t, 0, 0⟩ : Ev)]).length (evsCells (M ++ [(⟨kx, t, 0, 0⟩ : Ev)]))) := by rw [← evsCells_snoc, List.length_append]; exact hv5
            have HK5 : Hid (w5.ownsRow w3.heap.size 3 1 (.slice (some ⟨gb, oo, none⟩) K.length kc) K.length (ints K)) := (HKR.out.alloc _).kept hg5 (row_apart HKR.out HR.out (by decide))
            have HN5 : Hid (At w5 N #[.int .i64 t, .int .i64 X.f, .int .i64 (l0 : Int), .int .i64 X.s, .slice ua X.o.length uc] 46) := (HN.out.alloc _).grown hg5 (fun hk => row_not HR.out HN.out (by decide) hk.symm)
            clear hv5 hg5 HR HKR HN HB
            go_wp2
            go_roundw
            case rel => exact ⟨i + 1, by omega, by go_num, by rw [HSN.out]; exact HV5, HK5, HN5, HB5⟩
            case measure => simp [intOf]; omega
          · obtain rfl : i = K.length := by omega
            rw [List.take_length, ← HNX.out] at HR
            clear HKR HN
            go_wp2
            go_roundw
            case rel => exact ⟨j + 1, by omega, by go_num, HR, HB⟩
            case measure => simp [intOf]; omega
    · obtain rfl : j = l.length := by omega
      rw [HTL.out, ← HFE.out] at HR
      obtain ⟨va, vc, rfl⟩ := row_slice HR.out
      have HBF := Lib.hid (HB3.out.trans (HB.out.mono HB3.out.size))
      have HRF := Lib.hid (own_mono HR.out HB3.out.size)
      clear HR HB
      by_cases hg : 60 < G.length
      · have hce : ce = 5 := by rw [HCE.out, if_pos hg]
        subst hce
        clear HCE
        go_wp2
        refine bodyPost_ret (v := .tuple #[.slice none 0 0, .int .i64 5]) (by simp [results, Tryd.results7, go_sem]) rfl ⟨_, rfl, World.ownsRow_nil _ _ _ _, HBF.out⟩
      · have hce : ce = 0 := by rw [HCE.out, if_neg hg]
        subst hce
        clear HCE
        go_wp2
        refine bodyPost_ret (v := .tuple #[.slice va G.length vc, .int .i64 0]) (by simp [results, Tryd.results7, go_sem]) rfl ⟨_, rfl, HRF.out, HBF.out⟩
theorem complete_any (v : Value) (h : List Ev) (n : Nat) (w : World) (hK : HasK w) (hv : Evs w v h) (hs : Src v) (hl : h.length ≤ 65536) (hn : n < 4294967296) :
    Calls Tryd.prog 7 #[v, .int .u32 (n : Int)] w (Cmpl h n w) := by
  by_cases h0 : (checkS h).2 = 0
  · cases hc : choiceS (tableS h) n with
    | true => exact complete_yes v h n w hK hv hs hn h0 hc
    | false => exact complete_no v h n w hK hv hl hn h0 hc
  · exact complete_bad v h n w hK hv hl h0
end Go.Proofs.YtnddiaonceeicaaDoor
