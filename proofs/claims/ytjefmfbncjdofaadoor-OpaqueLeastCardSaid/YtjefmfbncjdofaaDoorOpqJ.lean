/- The walk of OpaqueLeast. -/
import Derived.Test.YtjefmfbncjdofaaDoorMg24
import Derived.Test.YtjefmfbncjdofaaDoorOpqG
import Derived.Test.YtjefmfbncjdofaaDoorMg23
namespace Go.Proofs.YtjefmfbncjdofaaDoor.WPlain
end Go.Proofs.YtjefmfbncjdofaaDoor.WPlain
namespace Go.Proofs.YtjefmfbncjdofaaDoor.QPlain
end Go.Proofs.YtjefmfbncjdofaaDoor.QPlain
namespace Go.Proofs.YtjefmfbncjdofaaDoor.RPlain
end Go.Proofs.YtjefmfbncjdofaaDoor.RPlain
namespace Go.Proofs.YtjefmfbncjdofaaDoor
open Go.RowKit WPlain QPlain RPlain

set_option maxRecDepth 100000 in
set_option maxHeartbeats 8000000 in
theorem opqLeast_bad (a : Option Addr) (n m c : Nat) (h : List Ev) (B k : Int) (w : World) (hK : HasK w) (hn : n ≤ c) (HAE : Hid ((min (n : Int) 62).toNat = m)) (hmn : m ≤ n) (hv : Evs w (.slice a m c) h) (h1 : h.length = m) (hm1 : m ≤ 62) (h0 : ¬ srchE h (fitB B) = 0) :
    Calls Tryd.prog 4 #[.slice a n c, .int .i64 B, .int .i64 k] w fun e w' => e = .returned (.bool true) ∧ Below w.heap.size w w' := by
  have HALV : Hid (∀ W, Below w.heap.size w W → Calls Tryd.prog 10 #[] W fun e w' => e = .returned (.bool true) ∧ Below W.heap.size W w') := fun W hW => aliveO_any W (hK.later hW (Nat.le_refl _))
  have hs := opaque_any a c h (fitB B) w.drew (hK.later (Below.refl w.heap.size w).drew (Nat.le_refl _)) (by rw [h1]; exact hv.below (Below.refl w.heap.size w).drew (Nat.le_refl _)) (by omega) (by omega)
  have hF : opqF h (fitB B) = (0, 0, 0, [], 0) := by unfold opqF; rw [if_neg h0]
  rw [h1, hF] at hs
  obtain ⟨er, her⟩ : ∃ er, srchE h (fitB B) = er := ⟨_, rfl⟩
  rw [her] at hs h0
  have HS := Lib.hid hs
  have te : ((er : Int) != 0) = true := by simp; omega
  have HB0 := Lib.hid ((Below.refl w.heap.size w).drew)
  unfold chkV at HS
  clear hK hv h1 her h0 hs hF
  go_enter Tryd.func4, Tryd.ntmps4
  go_wp2_with fail
  have g0 : (0 : Int) ≤ min (n : Int) 62 := by omega
  have g1 : ¬ (c : Int) < min (n : Int) 62 := by omega
  refine wp_region_upto (fun _ _ => True) (by kernel_rfl) ?_
  refine wpAnyK_take (i := 0) (v := .slice a n c) 7 rfl (by kernel_rfl) (by kernel_rfl) (by kernel_rfl) (by kernel_rfl) (fun _ _ _ h => h) (fun _ => trivial) (Or.inl ⟨by rfl, fun w' hw' => by go_simp⟩) (fun _ _ => trivial) ?_
  simp only [Act.put, List.getElem_toArray, List.getElem_cons_zero, List.setIfInBounds_toArray, List.set_cons_zero, List.set_cons_succ]
  refine wpAnyK_take (i := 1) (v := .slice a n c) 7 rfl (by kernel_rfl) (by kernel_rfl) (by kernel_rfl) (by kernel_rfl) (fun _ _ _ h => h) (fun _ => trivial) (Or.inl ⟨by rfl, fun w' hw' => by go_simp⟩) (fun _ _ => trivial) ?_
  simp only [Act.put, List.getElem_toArray, List.getElem_cons_zero, List.getElem_cons_succ, List.setIfInBounds_toArray, List.set_cons_zero, List.set_cons_succ]
  refine wpAnyK_take (i := 2) (v := .int .i64 (n : Int)) 7 rfl (by kernel_rfl) (by kernel_rfl) (by kernel_rfl) (by kernel_rfl) (fun _ _ _ h => h) (fun _ => trivial) (Or.inl ⟨by rfl, fun w' hw' => by go_simp⟩) (fun _ _ => trivial) ?_
  simp only [Act.put, List.getElem_toArray, List.getElem_cons_zero, List.getElem_cons_succ, List.setIfInBounds_toArray, List.set_cons_zero, List.set_cons_succ]
  refine wpAnyK_take (i := 3) (v := .int .i64 (min (n : Int) 62)) 7 rfl (by kernel_rfl) (by kernel_rfl) (by kernel_rfl) (by kernel_rfl) (fun _ _ _ h => h) (fun _ => trivial) (Or.inl ⟨by rfl, fun w' hw' => by go_simp⟩) (fun _ _ => trivial) ?_
  simp only [Act.put, List.getElem_toArray, List.getElem_cons_zero, List.getElem_cons_succ, List.setIfInBounds_toArray, List.set_cons_zero, List.set_cons_succ]
  refine wpAnyK_take (i := 4) (v := .slice a (min (n : Int) 62).toNat c) 7 rfl (by kernel_rfl) (by kernel_rfl) (by kernel_rfl) (by kernel_rfl) (fun _ _ _ h => h) (fun _ => trivial) (Or.inl ⟨by rfl, fun w' hw' => by go_simp⟩) (fun _ _ => trivial) ?_
  simp only [Act.put, List.getElem_toArray, List.getElem_cons_zero, List.getElem_cons_succ, List.setIfInBounds_toArray, List.set_cons_zero, List.set_cons_succ]
  refine wpAnyK_take (i := 5) (v := .int .i64 B) 6 rfl (by kernel_rfl) (by kernel_rfl) (by kernel_rfl) (by kernel_rfl) (fun _ _ _ h => h) (fun _ => trivial) (Or.inl ⟨by rfl, fun w' hw' => by go_simp⟩) (fun _ _ => trivial) ?_
  simp only [Act.put, List.getElem_toArray, List.getElem_cons_zero, List.getElem_cons_succ, List.setIfInBounds_toArray, List.set_cons_zero, List.set_cons_succ]
  refine wpAnyK_ready (rs := [6]) (by kernel_rfl) (by simp) (AllReadyK.cons rfl (fun K hK => ?_) AllReadyK.nil)
  go_simp
  refine (fit_any B _).mono ?_
  rintro e w' ⟨rfl, rfl⟩
  refine hK.out _ _ (fun _ _ => trivial) ?_
  clear hK K
  refine wpAnyK_ready (rs := [7]) (by kernel_rfl) (by simp) (AllReadyK.cons rfl (fun K hK => ?_) AllReadyK.nil)
  go_simp
  refine hK.out _ _ (fun _ _ => trivial) ?_
  clear hK K
  refine wpAnyK_ready (rs := [8]) (by kernel_rfl) (by simp) (AllReadyK.cons rfl (fun K hK => ?_) AllReadyK.nil)
  go_simp
  refine hK.out _ _ (fun _ _ => trivial) ?_
  clear hK K
  refine wpAnyK_done (by kernel_rfl) ?_ _
  clear g0 g1
  go_upto_region 2 with fail
  rw [HAE.out]
  generalize fitB B = B' at *
  generalize w.drew = w0 at *
  go_wp2_with fail
  refine HS.out.mono ?_
  rintro e w3 ⟨rv, rfl, hr3, -, hb3⟩
  obtain ⟨ra, rc, rfl⟩ := hr3.rd.len
  obtain ⟨N7, hN7⟩ : ∃ z, w3.heap.size = z := ⟨_, rfl⟩
  obtain ⟨rn, hrn⟩ : ∃ z, (nats []).length = z := ⟨_, rfl⟩
  rw [hrn]
  obtain ⟨w4, hw4⟩ : ∃ z, w3.alloc (.cells #[.int .i64 0, .int .i64 0, .int .u32 0, .slice ra rn rc, .int .i64 0] 26) = z := ⟨_, rfl⟩
  have ha7 : At w4 N7 #[.int .i64 0, .int .i64 0, .int .u32 0, .slice ra rn rc, .int .i64 0] 26 := by rw [← hw4, ← hN7]; exact At.new w3 _ _
  have hb34 : Below w3.heap.size w3 w4 := by rw [← hw4]; exact (Below.refl _ w3).alloc (Nat.le_refl _) _
  have hs0 := HB0.out.size
  have HB4 := Lib.hid (HB0.out.trans ((hb3.trans (hb34.mono hb3.size)).mono hs0))
  have HA7 := Lib.hid ha7
  have HW4 := Lib.hid hw4
  clear hr3 hb3 ha7 hb34 HS hrn hw4
  go_upto_region 3 with fail
  rw [HW4.out]
  clear HW4
  go_wp2_with (go_at_call 10; refine (HALV.out _ HB4.out).mono ?_; rintro e w7 ⟨rfl, hb7⟩; have hs4 := HB4.out.size; have HB7 := Lib.hid (HB4.out.trans (hb7.mono hs4)); have q4 : w7.cell? ⟨N7, 4, none⟩ = some (.int .i64 0) := (HA7.out.below hb7 HA7.out.lt).cell rfl; clear hb7)
  go_ret
  exact ⟨rfl, HB7.out⟩
set_option maxRecDepth 100000 in
set_option maxHeartbeats 16000000 in
theorem opqLeast_good (a : Option Addr) (n m c : Nat) (h : List Ev) (B k : Int) (BN K : Nat) (w : World) (hK : HasK w) (hn : n ≤ c) (HAE : Hid ((min (n : Int) 62).toNat = m)) (hmn : m ≤ n) (hv : Evs w (.slice a m c) h) (h1 : h.length = m) (hm1 : m ≤ 62)
    (hB : fitB B = (BN : Int)) (h0 : srchE h (BN : Int) = 0) (HKE : Hid ((wrap64 (wrap64 (k.tmod ((m : Int) + 1) + (m : Int)) + 1)).tmod ((m : Int) + 1) = (K : Int))) (hKm : K ≤ m) :
    Calls Tryd.prog 4 #[.slice a n c, .int .i64 B, .int .i64 k] w fun e w' => e = .returned (.bool true) ∧ Below w.heap.size w w' := by
  have HALV : Hid (∀ W, Below w.heap.size w W → Calls Tryd.prog 10 #[] W fun e w' => e = .returned (.bool true) ∧ Below W.heap.size W w') := fun W hW => aliveO_any W (hK.later hW (Nat.le_refl _))
  obtain ⟨hc0, -, -⟩ := srchE_zero h0
  obtain ⟨t1, t2, t3, t4⟩ := opaque_tells BN h
  obtain ⟨u1, u2⟩ := opaque_take BN h (k := K) (by omega)
  have HCH : Hid (∀ j, j ≤ m → ∀ W, Below w.heap.size w W → Calls Tryd.prog 7 #[.slice a j c, .int .i64 (BN : Int)] W fun e w' => ∃ ra rn rc, e = .returned (.tuple #[.agg #[.int .i64 ((opaqueS BN (h.take j)).1 : Int), .int .i64 ((opaqueS BN (h.take j)).2.1 : Int), .int .u32 ((opaqueS BN (h.take j)).2.2.1 : Int), .slice ra rn rc, .int .i64 ((opaqueS BN (h.take j)).2.2.2.2 : Int)], .int .i64 0]) ∧ Rd w' (.slice ra rn rc) (nats (opaqueS BN (h.take j)).2.2.2.1) ∧ Below W.heap.size W w') := fun j hj W hW => by
    have hlj : (h.take j).length = j := by rw [List.length_take]; omega
    have hej := srchE_take h0 (k := j) (by omega)
    have h2 := opaque_any a c (h.take j) (BN : Int) W (hK.later hW (Nat.le_refl _)) (by rw [hlj]; exact (evs_cutP hv j (by omega)).below hW (Nat.le_refl _)) (by omega) (by omega)
    rw [hlj, hej, opqF_of hej] at h2
    refine h2.mono ?_
    rintro e w' ⟨rv, rfl, hr, -, hb⟩
    obtain ⟨ra, rc, rfl⟩ := hr.rd.len
    exact ⟨ra, _, rc, rfl, hr.rd, hb⟩
  have HSR : Hid (∀ j, j ≤ m → ∀ W, Below w.heap.size w W → Calls Tryd.prog 13 #[.slice a j c, .int .i64 (BN : Int)] W fun e w' => ∃ cc ra rn rc s, e = .returned (.tuple #[.agg #[.int .i64 ((searchS BN (tableS (h.take j))).1 : Int), .int .u32 cc, .slice ra rn rc, .int .i64 s], .int .i64 0]) ∧ Below W.heap.size W w') := fun j hj W hW => by
    have h2 := searchX_any _ (h.take j) (BN : Int) W (hK.later hW (Nat.le_refl _)) ((evs_cutP hv j (by omega)).below hW (Nat.le_refl _)) (by rw [List.length_take]; omega)
    rw [srchE_take h0 (by omega), srchF_take h0 (by omega)] at h2
    refine h2.mono ?_
    rintro e w' ⟨rv, rfl, hr, -, hb⟩
    obtain ⟨ra, rc, rfl⟩ := hr.rd.len
    exact ⟨_, ra, _, rc, _, rfl, hb⟩
  have htk : h.take m = h := List.take_of_length_le (by omega)
  have HCM := HCH.out m (Nat.le_refl _)
  have HRL := opaque_len hc0 (B := BN)
  rw [htk] at HCM
  obtain ⟨x, hx⟩ : ∃ x, opaqueS BN h = x := ⟨_, rfl⟩
  obtain ⟨v, at_, co, row, st⟩ := x
  rw [hx] at t1 t2 t3 t4 u1 u2 HCM HRL
  dsimp only at t1 t2 t3 t4 u1 u2 HCM HRL
  have HCM' := Lib.hid HCM
  have HCK := Lib.hid (HCH.out K hKm)
  obtain ⟨z, hz⟩ : ∃ z, opaqueS BN (h.take K) = z := ⟨_, rfl⟩
  obtain ⟨z0, z1, z2, z3, z4⟩ := z
  rw [hz] at u1 u2 HCK
  dsimp only at u1 u2 HCK
  have HU1 := Lib.hid u1
  have HU2 := Lib.hid u2
  have HT3 := Lib.hid t3
  have HT4 := Lib.hid t4
  have HRL' := Lib.hid HRL
  have hat : at_ ≤ m := by omega
  have HT2 : Hid (v = 0 → at_ = m) := fun hv => by rw [t2 hv, h1]
  have HB0 := Lib.hid ((Below.refl w.heap.size w).drew)
  clear hK hv h1 h0 hc0 t1 t2 t3 t4 u1 u2 HCM HCH htk hx hz HRL
  go_enter Tryd.func4, Tryd.ntmps4
  go_wp2_with fail
  have g0 : (0 : Int) ≤ min (n : Int) 62 := by omega
  have g1 : ¬ (c : Int) < min (n : Int) 62 := by omega
  refine wp_region_upto (fun _ _ => True) (by kernel_rfl) ?_
  refine wpAnyK_take (i := 0) (v := .slice a n c) 7 rfl (by kernel_rfl) (by kernel_rfl) (by kernel_rfl) (by kernel_rfl) (fun _ _ _ h => h) (fun _ => trivial) (Or.inl ⟨by rfl, fun w' hw' => by go_simp⟩) (fun _ _ => trivial) ?_
  simp only [Act.put, List.getElem_toArray, List.getElem_cons_zero, List.setIfInBounds_toArray, List.set_cons_zero, List.set_cons_succ]
  refine wpAnyK_take (i := 1) (v := .slice a n c) 7 rfl (by kernel_rfl) (by kernel_rfl) (by kernel_rfl) (by kernel_rfl) (fun _ _ _ h => h) (fun _ => trivial) (Or.inl ⟨by rfl, fun w' hw' => by go_simp⟩) (fun _ _ => trivial) ?_
  simp only [Act.put, List.getElem_toArray, List.getElem_cons_zero, List.getElem_cons_succ, List.setIfInBounds_toArray, List.set_cons_zero, List.set_cons_succ]
  refine wpAnyK_take (i := 2) (v := .int .i64 (n : Int)) 7 rfl (by kernel_rfl) (by kernel_rfl) (by kernel_rfl) (by kernel_rfl) (fun _ _ _ h => h) (fun _ => trivial) (Or.inl ⟨by rfl, fun w' hw' => by go_simp⟩) (fun _ _ => trivial) ?_
  simp only [Act.put, List.getElem_toArray, List.getElem_cons_zero, List.getElem_cons_succ, List.setIfInBounds_toArray, List.set_cons_zero, List.set_cons_succ]
  refine wpAnyK_take (i := 3) (v := .int .i64 (min (n : Int) 62)) 7 rfl (by kernel_rfl) (by kernel_rfl) (by kernel_rfl) (by kernel_rfl) (fun _ _ _ h => h) (fun _ => trivial) (Or.inl ⟨by rfl, fun w' hw' => by go_simp⟩) (fun _ _ => trivial) ?_
  simp only [Act.put, List.getElem_toArray, List.getElem_cons_zero, List.getElem_cons_succ, List.setIfInBounds_toArray, List.set_cons_zero, List.set_cons_succ]
  refine wpAnyK_take (i := 4) (v := .slice a (min (n : Int) 62).toNat c) 7 rfl (by kernel_rfl) (by kernel_rfl) (by kernel_rfl) (by kernel_rfl) (fun _ _ _ h => h) (fun _ => trivial) (Or.inl ⟨by rfl, fun w' hw' => by go_simp⟩) (fun _ _ => trivial) ?_
  simp only [Act.put, List.getElem_toArray, List.getElem_cons_zero, List.getElem_cons_succ, List.setIfInBounds_toArray, List.set_cons_zero, List.set_cons_succ]
  refine wpAnyK_take (i := 5) (v := .int .i64 B) 6 rfl (by kernel_rfl) (by kernel_rfl) (by kernel_rfl) (by kernel_rfl) (fun _ _ _ h => h) (fun _ => trivial) (Or.inl ⟨by rfl, fun w' hw' => by go_simp⟩) (fun _ _ => trivial) ?_
  simp only [Act.put, List.getElem_toArray, List.getElem_cons_zero, List.getElem_cons_succ, List.setIfInBounds_toArray, List.set_cons_zero, List.set_cons_succ]
  refine wpAnyK_ready (rs := [6]) (by kernel_rfl) (by simp) (AllReadyK.cons rfl (fun K hK => ?_) AllReadyK.nil)
  go_simp
  refine (fit_any B _).mono ?_
  rintro e w' ⟨rfl, rfl⟩
  refine hK.out _ _ (fun _ _ => trivial) ?_
  clear hK K
  refine wpAnyK_ready (rs := [7]) (by kernel_rfl) (by simp) (AllReadyK.cons rfl (fun K hK => ?_) AllReadyK.nil)
  go_simp
  refine hK.out _ _ (fun _ _ => trivial) ?_
  clear hK K
  refine wpAnyK_ready (rs := [8]) (by kernel_rfl) (by simp) (AllReadyK.cons rfl (fun K hK => ?_) AllReadyK.nil)
  go_simp
  refine hK.out _ _ (fun _ _ => trivial) ?_
  clear hK K
  refine wpAnyK_done (by kernel_rfl) ?_ _
  clear g0 g1
  go_upto_region 2 with fail
  rw [HAE.out]
  generalize w.drew = w0 at *
  go_wp2_with fail
  refine (HCM'.out w0 HB0.out).mono ?_
  rintro e w3 ⟨ra, rn, rc, rfl, hr3, hb3⟩
  obtain ⟨N7, hN7⟩ : ∃ z, w3.heap.size = z := ⟨_, rfl⟩
  obtain ⟨w4, hw4⟩ : ∃ z, w3.alloc (.cells #[.int .i64 (v : Int), .int .i64 (at_ : Int), .int .u32 (co : Int), .slice ra rn rc, .int .i64 (st : Int)] 26) = z := ⟨_, rfl⟩
  have ha7 : At w4 N7 #[.int .i64 (v : Int), .int .i64 (at_ : Int), .int .u32 (co : Int), .slice ra rn rc, .int .i64 (st : Int)] 26 := by rw [← hw4, ← hN7]; exact At.new w3 _ _
  have hb34 : Below w3.heap.size w3 w4 := by rw [← hw4]; exact (Below.refl _ w3).alloc (Nat.le_refl _) _
  have hs0 := HB0.out.size
  have HB4 := Lib.hid (HB0.out.trans ((hb3.trans (hb34.mono hb3.size)).mono hs0))
  have HA7 := Lib.hid ha7
  have HR4 := Lib.hid (hr3.below hb34 (Nat.le_refl _))
  have HW4 := Lib.hid hw4
  clear hr3 hb3 ha7 hb34 HCM' hw4 HB0 hs0
  go_upto_region 3 with fail
  rw [HW4.out]
  clear HW4
  have p0 : w4.cell? ⟨N7, 0, none⟩ = some (.int .i64 (v : Int)) := HA7.out.cell rfl
  have p1 : w4.cell? ⟨N7, 1, none⟩ = some (.int .i64 (at_ : Int)) := HA7.out.cell rfl
  have ta : ¬ (at_ : Int) < 0 := by omega
  have tb : ¬ (m : Int) < (at_ : Int) := by omega
  as_aux_lemma =>
    by_cases hv0 : v = 0
    · as_aux_lemma =>
        subst hv0
        have hatm := HT2.out rfl
        have tc : ((at_ : Int) != (m : Int)) = false := by simp; omega
        clear hatm HT2
        go_wp2_with (go_at_call 10; refine (HALV.out _ HB4.out).mono ?_; rintro e w5 ⟨rfl, hb5⟩; have hs4 := HB4.out.size; have HB5 := Lib.hid (HB4.out.trans (hb5.mono hs4)); have HA5 := Lib.hid (HA7.out.below hb5 HA7.out.lt); have HR5 := Lib.hid (HR4.out.below hb5 (Nat.le_refl _)); clear hb5 hs4)
        clear p0 p1 ta tb tc HA7 HR4 HB4
        go_loopw [64] (fun x wr => ∃ i : Nat, i ≤ at_ ∧ x = .int .i64 (i : Int) ∧ Hid (Below w5.heap.size w5 wr)) (fun x _ => m + 1 - (intOf x).toNat)
        case atStart => exact ⟨0, by omega, rfl, Below.refl _ _⟩
        case round =>
          obtain ⟨i, hi, rfl, HBR⟩ := hrel
          have hs5 := HB5.out.size
          have HBW := Lib.hid (HB5.out.trans (HBR.out.mono hs5))
          have HAR := Lib.hid (HA5.out.below HBR.out HA5.out.lt)
          have hlt : i < m + 1 := by omega
          have hic : i ≤ c := by omega
          have HSC := Lib.hid (HSR.out i (by omega) wr HBW.out)
          obtain ⟨yv, hyv⟩ : ∃ z, (searchS BN (tableS (h.take i))).1 = z := ⟨_, rfl⟩
          rw [hyv] at HSC
          go_wp2_with fail
          refine HSC.out.mono ?_
          rintro e w6 ⟨cc, fa, fn, fc, s, rfl, hb6⟩
          obtain ⟨N10, hN10⟩ : ∃ z, w6.heap.size = z := ⟨_, rfl⟩
          obtain ⟨w7, hw7⟩ : ∃ z, w6.alloc (.cells #[.int .i64 (yv : Int), .int .u32 cc, .slice fa fn fc, .int .i64 s] 37) = z := ⟨_, rfl⟩
          have ha10 : At w7 N10 #[.int .i64 (yv : Int), .int .u32 cc, .slice fa fn fc, .int .i64 s] 37 := by rw [← hw7, ← hN10]; exact At.new w6 _ _
          have hb67 : Below w6.heap.size w6 w7 := by rw [← hw7]; exact (Below.refl _ w6).alloc (Nat.le_refl _) _
          have hbr7 := hb6.trans (hb67.mono hb6.size)
          have hsr := HBR.out.size
          have HB7 := Lib.hid (HBR.out.trans (hbr7.mono hsr))
          have HA7 := Lib.hid (HAR.out.below hbr7 HAR.out.lt)
          have HW7 := Lib.hid hw7
          have p0 : w7.cell? ⟨N7, 0, none⟩ = some (.int .i64 (0 : Int)) := HA7.out.cell rfl
          have p1 : w7.cell? ⟨N7, 1, none⟩ = some (.int .i64 (at_ : Int)) := HA7.out.cell rfl
          have q0 : w7.cell? ⟨N10, 0, none⟩ = some (.int .i64 (yv : Int)) := ha10.cell rfl
          clear hb6 hb67 hbr7 hsr ha10 hw7 HSC HBR HBW HAR
          go_upto_region 11 with fail
          rw [HW7.out]
          clear HW7
          by_cases hia : i < at_
          · have hy0 : yv = 0 := by rw [← hyv]; exact HT3.out i hia
            subst hy0
            have e1 : (i : Int) < (at_ : Int) := by omega
            have e2 : ((i : Int) == (at_ : Int)) = false := by rw [beq_eq_false_iff_ne]; omega
            clear hyv
            go_wp2_with fail
            go_roundw
            case rel => exact ⟨i + 1, by omega, by go_num, HB7⟩
            case measure => simp [intOf]; omega
          · obtain rfl : i = at_ := by omega
            have hy0 : 0 = yv := by rw [← hyv]; exact HT4.out.symm
            subst hy0
            have e1 : ¬ (i : Int) < (i : Int) := by omega
            have e2 : ((i : Int) == (i : Int)) = true := by simp
            have s1 : IntKind.i64.wrap ((m : Int) + 1) = ((m + 1 : Nat) : Int) := by rw [IntWalk.i64_in _ (by omega)]; omega
            have hm0 : ((m : Int) + 1 == 0) = false := by simp; omega
            have hm2 : (((m + 1 : Nat) : Int) == 0) = false := by simp; omega
            have hm3 : ¬ (((m + 1 : Nat) : Int) = 0) := by omega
            clear hyv hia hi hlt hic
            go_upto_region 16 with fail
            rw [HKE.out]
            clear hm0 hm2 hm3 s1 p0 p1 q0
            have HB8 := Lib.hid (HB5.out.trans (HB7.out.mono hs5))
            have hKc : K ≤ c := by omega
            go_wp2_with fail
            refine (HCK.out _ HB8.out).mono ?_
            rintro e w8 ⟨da, dn, dc, rfl, hr8, hb8⟩
            obtain ⟨N12, hN12⟩ : ∃ z, w8.heap.size = z := ⟨_, rfl⟩
            obtain ⟨w9, hw9⟩ : ∃ y, w8.alloc (.cells #[.int .i64 (z0 : Int), .int .i64 (z1 : Int), .int .u32 (z2 : Int), .slice da dn dc, .int .i64 (z4 : Int)] 26) = y := ⟨_, rfl⟩
            have ha12 : At w9 N12 #[.int .i64 (z0 : Int), .int .i64 (z1 : Int), .int .u32 (z2 : Int), .slice da dn dc, .int .i64 (z4 : Int)] 26 := by rw [← hw9, ← hN12]; exact At.new w8 _ _
            have hb89 : Below w8.heap.size w8 w9 := by rw [← hw9]; exact (Below.refl _ w8).alloc (Nat.le_refl _) _
            have hb79 := hb8.trans (hb89.mono hb8.size)
            have hs7 := HB7.out.size
            have HB9 := Lib.hid (HB8.out.trans (hb79.mono HB8.out.size))
            have HA9 := Lib.hid (HA7.out.below hb79 HA7.out.lt)
            have HR9 := Lib.hid ((HR5.out.below HB7.out (Nat.le_refl _)).below hb79 (Nat.le_refl _))
            have HD9 := Lib.hid (hr8.below hb89 (Nat.le_refl _))
            have HA12 := Lib.hid ha12
            have HW9 := Lib.hid hw9
            clear hr8 hb8 hb89 hb79 hw9 ha12 HB8 HB7 HA7 HCK
            go_upto_region 17 with fail
            rw [HW9.out]
            clear HW9
            have p0 : w9.cell? ⟨N7, 0, none⟩ = some (.int .i64 (0 : Int)) := HA9.out.cell rfl
            have p1 : w9.cell? ⟨N7, 1, none⟩ = some (.int .i64 (i : Int)) := HA9.out.cell rfl
            by_cases hka : i ≤ K
            · have e3 : (i : Int) ≤ (K : Int) := by omega
              obtain ⟨hz1, hz2⟩ := HU2.out (.inl trivial)
              have d0 : w9.cell? ⟨N12, 0, none⟩ = some (.int .i64 0) := by rw [HA12.out.cell (i := 0) rfl, hz1]; rfl
              have d1 : w9.cell? ⟨N12, 1, none⟩ = some (.int .i64 (K : Int)) := by rw [HA12.out.cell (i := 1) rfl, hz2]; rfl
              clear hz1 hz2 HA12
              go_wp2_with fail
              go_ret
              exact ⟨rfl, HB9.out⟩
            · have e3 : ¬ (i : Int) ≤ (K : Int) := by omega
              obtain ⟨hz1, hz2⟩ := HU2.out (.inl trivial)
              have d0 : w9.cell? ⟨N12, 0, none⟩ = some (.int .i64 0) := by rw [HA12.out.cell (i := 0) rfl, hz1]; rfl
              have d1 : w9.cell? ⟨N12, 1, none⟩ = some (.int .i64 (K : Int)) := by rw [HA12.out.cell (i := 1) rfl, hz2]; rfl
              clear hz1 hz2 HA12
              go_wp2_with fail
              go_ret
              exact ⟨rfl, HB9.out⟩
    · as_aux_lemma =>
        have tc : ((v : Int) == 0) = false := by rw [beq_eq_false_iff_ne]; omega
        clear HT2
        go_wp2_with (go_at_call 10; refine (HALV.out _ HB4.out).mono ?_; rintro e w5 ⟨rfl, hb5⟩; have hs4 := HB4.out.size; have HB5 := Lib.hid (HB4.out.trans (hb5.mono hs4)); have HA5 := Lib.hid (HA7.out.below hb5 HA7.out.lt); have HR5 := Lib.hid (HR4.out.below hb5 (Nat.le_refl _)); clear hb5 hs4)
        clear p0 p1 ta tb tc HA7 HR4 HB4
        go_loopw [64] (fun x wr => ∃ i : Nat, i ≤ at_ ∧ x = .int .i64 (i : Int) ∧ Hid (Below w5.heap.size w5 wr)) (fun x _ => m + 1 - (intOf x).toNat)
        case atStart => exact ⟨0, by omega, rfl, Below.refl _ _⟩
        case round =>
          obtain ⟨i, hi, rfl, HBR⟩ := hrel
          have hs5 := HB5.out.size
          have HBW := Lib.hid (HB5.out.trans (HBR.out.mono hs5))
          have HAR := Lib.hid (HA5.out.below HBR.out HA5.out.lt)
          have hlt : i < m + 1 := by omega
          have hic : i ≤ c := by omega
          have HSC := Lib.hid (HSR.out i (by omega) wr HBW.out)
          obtain ⟨yv, hyv⟩ : ∃ z, (searchS BN (tableS (h.take i))).1 = z := ⟨_, rfl⟩
          rw [hyv] at HSC
          go_wp2_with fail
          refine HSC.out.mono ?_
          rintro e w6 ⟨cc, fa, fn, fc, s, rfl, hb6⟩
          obtain ⟨N10, hN10⟩ : ∃ z, w6.heap.size = z := ⟨_, rfl⟩
          obtain ⟨w7, hw7⟩ : ∃ z, w6.alloc (.cells #[.int .i64 (yv : Int), .int .u32 cc, .slice fa fn fc, .int .i64 s] 37) = z := ⟨_, rfl⟩
          have ha10 : At w7 N10 #[.int .i64 (yv : Int), .int .u32 cc, .slice fa fn fc, .int .i64 s] 37 := by rw [← hw7, ← hN10]; exact At.new w6 _ _
          have hb67 : Below w6.heap.size w6 w7 := by rw [← hw7]; exact (Below.refl _ w6).alloc (Nat.le_refl _) _
          have hbr7 := hb6.trans (hb67.mono hb6.size)
          have hsr := HBR.out.size
          have HB7 := Lib.hid (HBR.out.trans (hbr7.mono hsr))
          have HA7 := Lib.hid (HAR.out.below hbr7 HAR.out.lt)
          have HW7 := Lib.hid hw7
          have p0 : w7.cell? ⟨N7, 0, none⟩ = some (.int .i64 (v : Int)) := HA7.out.cell rfl
          have p1 : w7.cell? ⟨N7, 1, none⟩ = some (.int .i64 (at_ : Int)) := HA7.out.cell rfl
          have q0 : w7.cell? ⟨N10, 0, none⟩ = some (.int .i64 (yv : Int)) := ha10.cell rfl
          clear hb6 hb67 hbr7 hsr ha10 hw7 HSC HBR HBW HAR
          go_upto_region 11 with fail
          rw [HW7.out]
          clear HW7
          by_cases hia : i < at_
          · have hy0 : yv = 0 := by rw [← hyv]; exact HT3.out i hia
            subst hy0
            have e1 : (i : Int) < (at_ : Int) := by omega
            have e2 : ((i : Int) == (at_ : Int)) = false := by rw [beq_eq_false_iff_ne]; omega
            clear hyv
            go_wp2_with fail
            go_roundw
            case rel => exact ⟨i + 1, by omega, by go_num, HB7⟩
            case measure => simp [intOf]; omega
          · obtain rfl : i = at_ := by omega
            have hy0 : v = yv := by rw [← hyv]; exact HT4.out.symm
            subst hy0
            have e1 : ¬ (i : Int) < (i : Int) := by omega
            have e2 : ((i : Int) == (i : Int)) = true := by simp
            have s1 : IntKind.i64.wrap ((m : Int) + 1) = ((m + 1 : Nat) : Int) := by rw [IntWalk.i64_in _ (by omega)]; omega
            have hm0 : ((m : Int) + 1 == 0) = false := by simp; omega
            have hm2 : (((m + 1 : Nat) : Int) == 0) = false := by simp; omega
            have hm3 : ¬ (((m + 1 : Nat) : Int) = 0) := by omega
            clear hyv hia hi hlt hic
            go_upto_region 16 with fail
            rw [HKE.out]
            clear hm0 hm2 hm3 s1 p0 p1 q0
            have HB8 := Lib.hid (HB5.out.trans (HB7.out.mono hs5))
            have hKc : K ≤ c := by omega
            go_wp2_with fail
            refine (HCK.out _ HB8.out).mono ?_
            rintro e w8 ⟨da, dn, dc, rfl, hr8, hb8⟩
            obtain ⟨N12, hN12⟩ : ∃ z, w8.heap.size = z := ⟨_, rfl⟩
            obtain ⟨w9, hw9⟩ : ∃ y, w8.alloc (.cells #[.int .i64 (z0 : Int), .int .i64 (z1 : Int), .int .u32 (z2 : Int), .slice da dn dc, .int .i64 (z4 : Int)] 26) = y := ⟨_, rfl⟩
            have ha12 : At w9 N12 #[.int .i64 (z0 : Int), .int .i64 (z1 : Int), .int .u32 (z2 : Int), .slice da dn dc, .int .i64 (z4 : Int)] 26 := by rw [← hw9, ← hN12]; exact At.new w8 _ _
            have hb89 : Below w8.heap.size w8 w9 := by rw [← hw9]; exact (Below.refl _ w8).alloc (Nat.le_refl _) _
            have hb79 := hb8.trans (hb89.mono hb8.size)
            have hs7 := HB7.out.size
            have HB9 := Lib.hid (HB8.out.trans (hb79.mono HB8.out.size))
            have HA9 := Lib.hid (HA7.out.below hb79 HA7.out.lt)
            have HR9 := Lib.hid ((HR5.out.below HB7.out (Nat.le_refl _)).below hb79 (Nat.le_refl _))
            have HD9 := Lib.hid (hr8.below hb89 (Nat.le_refl _))
            have HA12 := Lib.hid ha12
            have HW9 := Lib.hid hw9
            clear hr8 hb8 hb89 hb79 hw9 ha12 HB8 HB7 HA7 HCK
            go_upto_region 17 with fail
            rw [HW9.out]
            clear HW9
            have p0 : w9.cell? ⟨N7, 0, none⟩ = some (.int .i64 (v : Int)) := HA9.out.cell rfl
            have p1 : w9.cell? ⟨N7, 1, none⟩ = some (.int .i64 (i : Int)) := HA9.out.cell rfl
            have tv : ((v : Int) != 0) = true := by simp; omega
            by_cases hka : i ≤ K
            · have e3 : (i : Int) ≤ (K : Int) := by omega
              have p2 : w9.cell? ⟨N7, 2, none⟩ = some (.int .u32 (co : Int)) := HA9.out.cell rfl
              have p3 : w9.cell? ⟨N7, 3, none⟩ = some (.slice ra rn rc) := HA9.out.cell rfl
              have p4 : w9.cell? ⟨N7, 4, none⟩ = some (.int .i64 (st : Int)) := HA9.out.cell rfl
              have d0 : w9.cell? ⟨N12, 0, none⟩ = some (.int .i64 (z0 : Int)) := HA12.out.cell rfl
              have d1 : w9.cell? ⟨N12, 1, none⟩ = some (.int .i64 (z1 : Int)) := HA12.out.cell rfl
              have d2 : w9.cell? ⟨N12, 2, none⟩ = some (.int .u32 (z2 : Int)) := HA12.out.cell rfl
              have d3 : w9.cell? ⟨N12, 3, none⟩ = some (.slice da dn dc) := HA12.out.cell rfl
              have d4 : w9.cell? ⟨N12, 4, none⟩ = some (.int .i64 (z4 : Int)) := HA12.out.cell rfl
              have hzx := (HU1.out hv0 hka).symm
              simp only [Prod.mk.injEq] at hzx
              obtain ⟨f0, f1, f2, f3, f4⟩ := hzx
              subst f0 f1 f2 f3 f4
              have HSM := Lib.hid (refSame_sameC v i co st row (.slice ra rn rc) (.slice da dn dc) w9 HR9.out HD9.out HRL'.out)
              go_wp2_with fail
              refine HSM.out.mono ?_
              rintro e w10 ⟨rfl, hb10⟩
              have HB10 := Lib.hid (HB9.out.trans (hb10.mono HB9.out.size))
              clear hb10
              go_wp2_with fail
              go_ret
              exact ⟨rfl, HB10.out⟩
            · have e3 : ¬ (i : Int) ≤ (K : Int) := by omega
              obtain ⟨hz1, hz2⟩ := HU2.out (.inr (by omega))
              have d0 : w9.cell? ⟨N12, 0, none⟩ = some (.int .i64 0) := by rw [HA12.out.cell (i := 0) rfl, hz1]; rfl
              have d1 : w9.cell? ⟨N12, 1, none⟩ = some (.int .i64 (K : Int)) := by rw [HA12.out.cell (i := 1) rfl, hz2]; rfl
              clear hz1 hz2 HA12
              go_wp2_with fail
              go_ret
              exact ⟨rfl, HB9.out⟩
theorem opqLeast_any (a : Option Addr) (n c : Nat) (h : List Ev) (B k : Int) (w : World) (hK : HasK w) (hn : n ≤ c) (hv : Evs w (.slice a (min (n : Int) 62).toNat c) h) :
    Calls Tryd.prog 4 #[.slice a n c, .int .i64 B, .int .i64 k] w fun e w' => e = .returned (.bool true) ∧ Below w.heap.size w w' := by
  obtain ⟨m, hm⟩ : ∃ m, (min (n : Int) 62).toNat = m := ⟨_, rfl⟩
  rw [hm] at hv
  by_cases h0 : srchE h (fitB B) = 0
  · obtain ⟨_, hB0, _⟩ := srchE_zero h0
    obtain ⟨BN, hB⟩ : ∃ BN : Nat, fitB B = (BN : Int) := ⟨(fitB B).toNat, by omega⟩
    have hp1 : k.tmod ((m : Int) + 1) < (m : Int) + 1 := Int.tmod_lt_of_pos _ (by omega)
    have hp2 : -((m : Int) + 1) < k.tmod ((m : Int) + 1) := Int.lt_tmod_of_pos _ (by omega)
    obtain ⟨K, hK1, hK2⟩ : ∃ K : Nat, (wrap64 (wrap64 (k.tmod ((m : Int) + 1) + (m : Int)) + 1)).tmod ((m : Int) + 1) = (K : Int) ∧ K ≤ m := by
      generalize k.tmod ((m : Int) + 1) = p at *
      rw [IntWalk.wrap64_in (p + m) (by omega), IntWalk.wrap64_in (p + m + 1) (by omega)]
      obtain ⟨q, hq⟩ : ∃ q : Nat, p + m + 1 = (q : Int) := ⟨(p + m + 1).toNat, by omega⟩
      refine ⟨q % (m + 1), ?_, ?_⟩
      · rw [hq]
        exact (Int.ofNat_tmod q (m + 1)).symm
      · have := Nat.mod_lt q (show 0 < m + 1 by omega)
        omega
    exact opqLeast_good a n m c h B k BN K w hK hn hm (by omega) hv hv.length.symm (by omega) hB (by rw [← hB]; exact h0) hK1 hK2
  · exact opqLeast_bad a n m c h B k w hK hn hm (by omega) hv hv.length.symm (by omega) h0
end Go.Proofs.YtjefmfbncjdofaaDoor
