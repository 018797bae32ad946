/- The walks of the reference's with, Keeps. -/
import Derived.Test.YtgjljcmmfechoaaExtG
import Derived.Test.YtgjljcmmfechoaaCmpF
import Derived.Test.YtgjljcmmfechoaaTxtS
namespace Go.Proofs.Ytgjljcmmfechoaa.RPlain
end Go.Proofs.Ytgjljcmmfechoaa.RPlain
namespace Go.Proofs.Ytgjljcmmfechoaa
open Go.RowKit RPlain

theorem nats_ints (L : List Nat) : nats L = ints (L.map fun (x : Nat) => (x : Int)) := by simp [nats, ints, Function.comp_def]
theorem hasN_any (v : Value) (L : List Nat) (x : Nat) (w : World) (h : Rd w v (nats L)) (hl : L.length ≤ 65536) :
    Calls Try.prog 17 #[v, .int .i64 (x : Int)] w fun e w' => e = .returned (.bool (L.contains x)) ∧ w = w' := by
  rw [nats_ints] at h
  have he : (L.map fun (y : Nat) => (y : Int)).contains (x : Int) = L.contains x := by
    rw [Bool.eq_iff_iff]
    simp only [List.contains_eq_mem, List.mem_map, decide_eq_true_eq]
    exact ⟨fun ⟨y, hy, e⟩ => by rw [← Int.ofNat_inj.1 e]; exact hy, fun h => ⟨x, h, rfl⟩⟩
  rw [← he]
  exact has_any v _ _ w h (by simp; omega)
set_option maxRecDepth 100000 in
set_option maxHeartbeats 1000000 in
theorem refWithN_any (v : Value) (row : List Nat) (k : Nat) (w : World) (hv : Rd w v (nats row)) (hs : SrcN v) (hl : row.length ≤ 1000) :
    Calls Try.prog 20 #[v, .int .i64 (k : Int)] w fun e w' => ∃ v', e = .returned v' ∧ w'.ownsRow w.heap.size 3 1 v' (row.length + 1) (nats (row ++ [k])) ∧ SrcN v' ∧ Below w.heap.size w w' := by
  obtain ⟨j0, hj0, hy0, hy1', hy2'⟩ := info_parts infoN11
  have HV := Lib.hid hv
  have HS := Lib.hid hs
  obtain ⟨a, c, rfl⟩ := hv.len
  rw [nats_len] at HV HS ⊢
  have hba : Below w.heap.size w (w.alloc (.cells #[] 3)) := (Below.refl _ w).alloc (Nat.le_refl _) _
  have HBA := Lib.hid hba
  have HOA := Lib.hid (World.ownsRow_made (e := 3) (base := w.heap.size) (size := 1) w #[] 0 (Nat.le_refl _) (by unfold maxLen; omega) (by simp))
  have HNA : Hid (nats row ++ [.int .i64 (k : Int)] = nats (row ++ [k])) := by unfold Hid; simp [nats]
  clear hv hs hba
  go_enter Try.func20, Try.ntmps20
  go_wp2_with (at_builtin; refine wpList_append_srcI rfl _ _ rfl w.heap.size _ 0 [] rfl HOA.out _ row rfl (HV.out.below HBA.out (Nat.le_refl _)) HS.out (by omega) HBA.out.size ?_)
  intro v1 w1 ho1 hg1
  have hb1 := HBA.out.grown hg1 HBA.out.size (fun x hx => (HOA.out.lt x hx).1)
  have HO1 := Lib.hid ho1
  have HB1 := Lib.hid hb1
  obtain ⟨a1, c1, rfl⟩ := row_slice ho1
  clear ho1 hg1 hb1
  go_wp2_with (at_builtin; refine wpList_append_own _ rfl _ _ 29 rfl w.heap.size 3 j0 (.int .i64 0) 1 8 Try.underlying29 hj0 hy0 hy1' hy2' rfl (by decide) (.slice a1 row.length c1) row.length (nats row) rfl (HO1.out.alloc _) ⟨w1.heap.size, 0, none⟩ 1 1 [.int .i64 (k : Int)] rfl rfl (cell_one_at w1 _ _) (one_int _ _) (by unfold maxLen; omega) (by omega) (by have := HB1.out.size; simp; omega) ?_)
  intro v2 w2 ho2 hg2 _
  rw [HNA.out] at ho2
  have HO2 := Lib.hid ho2
  have HB2 := Lib.hid ((HB1.out.alloc HB1.out.size _).grown hg2 (by have := HB1.out.size; simp; omega) (fun x hx => (HO1.out.lt x hx).1))
  obtain ⟨a2, c2, rfl⟩ := row_slice ho2
  clear ho2 hg2
  go_wp2
  go_ret
  exact ⟨_, rfl, HO2.out, SrcN.of_row HO2.out, HB2.out⟩
/-- does a row keep an order? -/
def keepsR (A row : List Nat) : Bool := stepsP (nxt A) [] row
theorem stepsP_app (p : List Nat → Nat → Bool) : ∀ (t u r : List Nat), stepsP p r (t ++ u) = (stepsP p r t && stepsP p (r ++ t) u) := by
  intro t
  induction t with
  | nil => intro u r; simp [stepsP]
  | cons k t ih =>
    intro u r
    rw [List.cons_append, stepsP, stepsP, ih, Bool.and_assoc, List.append_assoc]
    rfl
theorem stepsP_snoc (p : List Nat → Nat → Bool) (t : List Nat) (k : Nat) : stepsP p [] (t ++ [k]) = (stepsP p [] t && p t k) := by
  rw [stepsP_app]
  simp [stepsP]
theorem keepsR_bad {A row : List Nat} {i : Nat} (hi : i < row.length) (h : nxt A (row.take i) row[i] = false) : keepsR A row = false := by
  unfold keepsR
  have h1 : row = row.take (i + 1) ++ row.drop (i + 1) := (List.take_append_drop _ _).symm
  rw [h1, stepsP_app, List.take_succ_eq_append_getElem hi, stepsP_snoc, h]
  simp
theorem nxt_bad {A pre : List Nat} {k j : Nat} (hj : j < pre.length) (h : k = pre[j] ∨ aft A k pre[j] = true) : nxt A pre k = false := by
  unfold nxt
  rw [List.all_eq_false]
  refine ⟨pre[j], List.getElem_mem hj, ?_⟩
  rcases h with h | h
  · simp [h]
  · simp [h]
theorem nxt_snoc (A pre : List Nat) (k b : Nat) : nxt A (pre ++ [b]) k = (nxt A pre k && (!decide (k = b) && !aft A k b)) := by
  unfold nxt
  rw [List.all_append]
  simp
set_option maxRecDepth 100000 in
set_option maxHeartbeats 2000000 in
theorem refKeepsX_any (av v : Value) (A row : List Nat) (w : World) (hav : Rd w av (u32s A)) (hv : Rd w v (nats row)) (hA : ∀ x ∈ A, x < 4294967296) (hr : ∀ k ∈ row, k < A.length) (hal : A.length ≤ 6) (hl : row.length ≤ 1000) (hcap : ∀ a n c, v = .slice a n c → n ≤ c) :
    Calls Try.prog 19 #[av, v] w fun e w' => e = .returned (.bool (keepsR A row)) ∧ w' = w := by
  have HAV := Lib.hid hav
  have HV := Lib.hid hv
  have HA := Lib.hid hA
  have HR := Lib.hid hr
  obtain ⟨aa, ac, rfl⟩ := hav.len
  obtain ⟨ra, rc, rfl⟩ := hv.len
  have hrc : row.length ≤ rc := by have := hcap _ _ _ rfl; rwa [nats_len] at this
  rw [nats_len] at HV ⊢
  rw [u32s_len] at HAV ⊢
  clear hav hv hA hr hcap
  go_enter Try.func19, Try.ntmps19
  go_wp2_with fail
  go_loopw [11] (fun x wr => ∃ i : Nat, i ≤ row.length ∧ x = .int .i64 i ∧ Hid (keepsR A (row.take i) = true) ∧ wr = w) (fun x _ => row.length - (intOf x).toNat)
  case atStart => exact ⟨0, by omega, rfl, rfl, rfl⟩
  case round =>
    obtain ⟨i, hi, rfl, HK, rfl⟩ := hrel
    by_cases hlt : i < row.length
    · obtain ⟨b, o, c', he, hb, hc⟩ := HV.out.opened (by rw [nats_len]; omega)
      have hci := hc i _ (nats_get hlt)
      simp only [Value.slice.injEq] at he
      obtain ⟨rfl, -, rfl⟩ := he
      have HCJ : Hid (∀ j (hj : j < row.length), wr.cell? ⟨b, o + j, none⟩ = some (.int .i64 (row[j] : Int))) := fun j hj => hc j _ (nats_get hj)
      clear hc
      have hxA : row[i] < A.length := HR.out _ (List.getElem_mem hlt)
      obtain ⟨ab, ao, ac', hae, hab, hacs⟩ := HAV.out.opened (by rw [u32s_len]; omega)
      have hca := hacs row[i] _ (u32s_get hxA)
      have hax := HA.out _ (List.getElem_mem hxA)
      simp only [Value.slice.injEq] at hae
      obtain ⟨rfl, -, rfl⟩ := hae
      clear hacs
      have HBT : Hid (∀ b, A[row[i]].testBit b = aft A row[i] b) := fun b => by unfold aft; rw [List.getD_eq_getElem?_getD, List.getElem?_eq_getElem hxA]; rfl
      have HBAD : Hid (nxt A (row.take i) row[i] = false → keepsR A row = false) := keepsR_bad hlt
      have HGOOD : Hid (nxt A (row.take i) row[i] = true → keepsR A (row.take (i + 1)) = true) := fun h => by
        unfold keepsR
        rw [List.take_succ_eq_append_getElem hlt, stepsP_snoc, h]
        have := HK.out
        unfold keepsR at this
        rw [this]; rfl
      have HNB : Hid (∀ j (hjr : j < row.length), j < i → (row[i] = row[j]'hjr ∨ aft A row[i] (row[j]'hjr) = true) → nxt A (row.take i) row[i] = false) := fun j hjr hj h => by
        refine nxt_bad (j := j) (by rw [List.length_take]; omega) ?_
        rw [List.getElem_take]
        exact h
      have HNS : Hid (∀ j (hjr : j < row.length), j < i → nxt A (row.take (j + 1)) row[i] = (nxt A (row.take j) row[i] && (!decide (row[i] = row[j]'hjr) && !aft A row[i] (row[j]'hjr)))) := fun j hjr hj => by
        rw [List.take_succ_eq_append_getElem (by omega), nxt_snoc]
      generalize A[row[i]] = ax at *
      generalize row[i] = x at *
      clear hb hab
      go_wp2_with fail
      go_loopw [20] (fun y wr' => ∃ j : Nat, j ≤ i ∧ y = .int .i64 j ∧ Hid (nxt A (row.take j) x = true) ∧ wr' = wr) (fun y _ => i - (intOf y).toNat)
      case atStart => exact ⟨0, by omega, rfl, rfl, rfl⟩
      case round =>
        obtain ⟨j, hj, rfl, HN, rfl⟩ := hrel
        by_cases hlt2 : j < i
        · have hjr : j < row.length := by omega
          have hcj := HCJ.out j hjr
          have hnb := HNB.out j hjr hlt2
          have hns := HNS.out j hjr hlt2
          rw [HN.out, Bool.true_and] at hns
          have hyr : row[j] < A.length := HR.out _ (List.getElem_mem hjr)
          have HY := Lib.hid hyr
          generalize row[j] = y at *
          by_cases hxy : x = y
          · have HBB := Lib.hid (HBAD.out (hnb (.inl hxy)))
            have te : ((x : Int) == (y : Int)) = true := by simp [hxy]
            clear hnb hns
            go_wp2_with fail
            go_ret
            exact ⟨ret_bool HBB.out.symm, rfl⟩
          · have te : ((x : Int) == (y : Int)) = false := by simp; omega
            have hbt := fun W => refBit9_any ax y hax (by omega) W
            have hab0 := HBT.out y
            simp only [hab0] at hbt
            cases hab : aft A x y with
            | true =>
              have HBB := Lib.hid (HBAD.out (hnb (.inr hab)))
              simp only [hab] at hbt
              have HBT2 := Lib.hid hbt
              clear hnb hns hbt hxy hab0
              go_wp2_with (go_at_call 29; refine (HBT2.out _).mono ?_; rintro e w5 ⟨rfl, rfl⟩)
              go_ret
              exact ⟨ret_bool HBB.out.symm, rfl⟩
            | false =>
              have HN2 : Hid (nxt A (row.take (j + 1)) x = true) := by unfold Hid; rw [hns, hab]; simp [hxy]
              simp only [hab] at hbt
              have HBT2 := Lib.hid hbt
              clear hnb hns hbt hxy hab0
              go_wp2_with (go_at_call 29; refine (HBT2.out _).mono ?_; rintro e w5 ⟨rfl, rfl⟩)
              go_roundw
              case rel => exact ⟨j + 1, by omega, by go_num, HN2, trivial⟩
              case measure => simp [intOf]; omega
        · obtain rfl : j = i := by omega
          have HG2 := Lib.hid (HGOOD.out HN.out)
          clear HGOOD HBAD HN
          go_wp2_with fail
          go_roundw
          case rel => exact ⟨j + 1, by omega, by go_num, HG2, trivial⟩
          case measure => simp [intOf]; omega
    · obtain rfl : i = row.length := by omega
      have HF : Hid (keepsR A row = true) := by have := HK.out; rwa [List.take_length] at this
      go_wp2
      go_ret
      exact ⟨ret_bool HF.out.symm, rfl⟩
end Go.Proofs.Ytgjljcmmfechoaa
