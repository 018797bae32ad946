/- The walk of the reference's Check. -/
import Derived.Test.YtjefmfbncjdofaaDoorOpqD
import Derived.Test.YtjefmfbncjdofaaDoorSrlJ
import Derived.Test.YtjefmfbncjdofaaDoorMg20
namespace Go.Proofs.YtjefmfbncjdofaaDoor.WPlain
end Go.Proofs.YtjefmfbncjdofaaDoor.WPlain
namespace Go.Proofs.YtjefmfbncjdofaaDoor.QPlain
end Go.Proofs.YtjefmfbncjdofaaDoor.QPlain
namespace Go.Proofs.YtjefmfbncjdofaaDoor.RPlain
end Go.Proofs.YtjefmfbncjdofaaDoor.RPlain
namespace Go.Proofs.YtjefmfbncjdofaaDoor
open Go.RowKit WPlain QPlain RPlain

/-- what is found behind the prefixes below a length -/
def opqL (B : Nat) (h : List Ev) (k : Nat) : Nat × Nat × Nat × List Nat × Nat := opqG B h (List.range k) 0 0 [] 0
theorem opqL_snoc {B : Nat} {h : List Ev} (k : Nat) (h0 : (opqL B h k).1 = 0) :
    opqL B h (k + 1) = if (searchS B (tableS (h.take k))).1 = 0 then (0, k, (searchS B (tableS (h.take k))).2.1, (searchS B (tableS (h.take k))).2.2.1, (opqL B h k).2.2.2.2 + (searchS B (tableS (h.take k))).2.2.2)
      else ((searchS B (tableS (h.take k))).1, k, (opqL B h k).2.2.1, (opqL B h k).2.2.2.1, (opqL B h k).2.2.2.2 + (searchS B (tableS (h.take k))).2.2.2) := by
  unfold opqL at *
  rw [List.range_succ, opq_app, if_pos h0]
  rfl
theorem opqL_all {B : Nat} {h : List Ev} : opqL B h (h.length + 1) = opaqueS B h := rfl
theorem opqL_stop {B : Nat} {h : List Ev} {k : Nat} (hk : k ≤ h.length) (h0 : (opqL B h (k + 1)).1 ≠ 0) : opaqueS B h = opqL B h (k + 1) := by
  rw [← opqL_all]
  obtain ⟨m, hm⟩ : ∃ m, h.length + 1 = k + 1 + m := ⟨h.length - k, by omega⟩
  rw [hm]
  unfold opqL at *
  rw [List.range_add, opq_app, if_neg h0]
theorem opqL_steps {B : Nat} {h : List Ev} (k : Nat) : (opqL B h k).2.2.2.2 ≤ k * B := by
  have := opq_steps (B := B) (h := h) (List.range k) 0 0 [] 0
  rw [List.length_range] at this
  unfold opqL
  omega
theorem opq_len {B : Nat} {h : List Ev} : ∀ (ks : List Nat) (a c : Nat) (r : List Nat) (s : Nat), (∀ k ∈ ks, (checkS (h.take k)).2 = 0) → r.length ≤ 65536 → (opqG B h ks a c r s).2.2.2.1.length ≤ 65536 := by
  intro ks
  induction ks with
  | nil => intro a c r s _ h; exact h
  | cons k ks ih =>
    intro a c r s hk hr
    rw [opqG]
    have hz := hk k (List.mem_cons_self ..)
    by_cases hv : (searchS B (tableS (h.take k))).1 = 0
    · rw [if_pos hv]
      refine ih _ _ _ _ (fun x hx => hk x (List.mem_cons_of_mem _ hx)) ?_
      have := srch_len (B := B) hz
      rw [← choices_chL (table_six hz)] at this
      exact this
    · rw [if_neg hv]; exact hr
theorem opaque_len {B : Nat} {h : List Ev} (h0 : (checkS h).2 = 0) : (opaqueS B h).2.2.2.1.length ≤ 65536 :=
  opq_len _ _ _ _ _ (fun k hk => check_cut h0 k (by have := List.mem_range.1 hk; omega)) (by simp)
theorem only_five (w : World) (N : Nat) (u0 u1 u2 u3 u4 : Value) : Only (fun k => k = N) w (((((w.setCell ⟨N, 0, none⟩ u0).setCell ⟨N, 1, none⟩ u1).setCell ⟨N, 2, none⟩ u2).setCell ⟨N, 3, none⟩ u3).setCell ⟨N, 4, none⟩ u4) :=
  ((((((Only.refl (fun k => k = N) w).setCell (p := ⟨N, 0, none⟩) (fun _ => rfl) _).setCell (p := ⟨N, 1, none⟩) (fun _ => rfl) _).setCell (p := ⟨N, 2, none⟩) (fun _ => rfl) _).setCell (p := ⟨N, 3, none⟩) (fun _ => rfl) _).setCell (p := ⟨N, 4, none⟩) (fun _ => rfl) _)
theorem only_ref (w : World) (N : Nat) (u1 u0 u4 u2 u3 : Value) (o : Obj) : Only (fun k => k = N) w ((((((w.setCell ⟨N, 1, none⟩ u1).setCell ⟨N, 0, none⟩ u0).setCell ⟨N, 4, none⟩ u4).setCell ⟨N, 2, none⟩ u2).setCell ⟨N, 3, none⟩ u3).alloc o) :=
  ((((((Only.refl (fun k => k = N) w).setCell (p := ⟨N, 1, none⟩) (fun _ => rfl) _).setCell (p := ⟨N, 0, none⟩) (fun _ => rfl) _).setCell (p := ⟨N, 4, none⟩) (fun _ => rfl) _).setCell (p := ⟨N, 2, none⟩) (fun _ => rfl) _).setCell (p := ⟨N, 3, none⟩) (fun _ => rfl) _).alloc _
theorem only_both (w : World) (N : Nat) (u1 u0 u4 v0 v1 v2 v3 v4 : Value) : Only (fun j => j = N + 1 ∨ j = N) w ((((((((w.setCell ⟨N + 1, 1, none⟩ u1).setCell ⟨N + 1, 0, none⟩ u0).setCell ⟨N + 1, 4, none⟩ u4).setCell ⟨N, 0, none⟩ v0).setCell ⟨N, 1, none⟩ v1).setCell ⟨N, 2, none⟩ v2).setCell ⟨N, 3, none⟩ v3).setCell ⟨N, 4, none⟩ v4) :=
  ((((((((Only.refl (fun j => j = N + 1 ∨ j = N) w).setCell (p := ⟨N + 1, 1, none⟩) (fun _ => .inl rfl) _).setCell (p := ⟨N + 1, 0, none⟩) (fun _ => .inl rfl) _).setCell (p := ⟨N + 1, 4, none⟩) (fun _ => .inl rfl) _).setCell (p := ⟨N, 0, none⟩) (fun _ => .inr rfl) _).setCell (p := ⟨N, 1, none⟩) (fun _ => .inr rfl) _).setCell (p := ⟨N, 2, none⟩) (fun _ => .inr rfl) _).setCell (p := ⟨N, 3, none⟩) (fun _ => .inr rfl) _).setCell (p := ⟨N, 4, none⟩) (fun _ => .inr rfl) _
set_option maxRecDepth 100000 in
set_option maxHeartbeats 4000000 in
theorem refCheckO_any (a : Option Addr) (n c : Nat) (h : List Ev) (B : Nat) (w : World) (hv : Evs w (.slice a n c) h) (hn : h.length = n) (hl : n ≤ 65536) (hnc : n ≤ c) (h0 : srchE h (B : Int) = 0) :
    Calls Tryd.prog 12 #[.slice a n c, .int .i64 (B : Int)] w fun e w' => ∃ ra rc, e = .returned (chkV (opaqueS B h).1 (opaqueS B h).2.1 (opaqueS B h).2.2.1 (.slice ra (nats (opaqueS B h).2.2.2.1).length rc) (opaqueS B h).2.2.2.2) ∧
      Rd w' (.slice ra (nats (opaqueS B h).2.2.2.1).length rc) (nats (opaqueS B h).2.2.2.1) ∧ Below w.heap.size w w' := by
  obtain ⟨hc0, hB0, hB1⟩ := srchE_zero h0
  obtain ⟨N, hN⟩ : ∃ N, w.heap.size = N := ⟨_, rfl⟩
  obtain ⟨w1, hw1⟩ : ∃ w1, (w.alloc (.cells #[.int .i64 0, .int .i64 0, .int .u32 0, .slice none 0 0, .int .i64 0] 26)).alloc (.cells #[.int .i64 0, .int .i64 0, .int .u32 0, .slice none 0 0, .int .i64 0] 26) = w1 := ⟨_, rfl⟩
  have ha0 : At w1 N (chkA 0 0 0 (.slice none 0 0) 0) 26 := by
    rw [← hw1, ← hN]
    exact (At.new w _ _).alloc _
  have ha1 : At w1 (N + 1) (chkA 0 0 0 (.slice none 0 0) 0) 26 := by
    rw [← hw1, ← hN]
    have := At.new (w.alloc (.cells #[.int .i64 0, .int .i64 0, .int .u32 0, .slice none 0 0, .int .i64 0] 26)) #[.int .i64 0, .int .i64 0, .int .u32 0, .slice none 0 0, .int .i64 0] 26
    rwa [World.size_alloc] at this
  have hb1 : Below N w w1 := by
    rw [← hw1, ← hN]
    exact ((Below.refl _ w).alloc (Nat.le_refl _) _).alloc (by simp) _
  have hs1 : w1.heap.size = N + 2 := by rw [← hw1, ← hN]; simp
  have HW1 := Lib.hid hw1
  have HA0 := Lib.hid ha0
  have HA1 := Lib.hid ha1
  have HB1 := Lib.hid hb1
  have HCUT : Hid (∀ k, k ≤ n → srchF (h.take k) (B : Int) = searchS B (tableS (h.take k)) ∧ (checkS (h.take k)).2 = 0) := fun k hk => ⟨srchF_take h0 (by omega), check_cut hc0 k (by omega)⟩
  have HSE : Hid (∀ k, k ≤ n → ∀ (W : World), Below N w W → Calls Tryd.prog 23 #[.slice a k c] W fun e w' => ∃ la lc, e = .returned (.slice la (tableS (h.take k)).length lc) ∧ Txs w' (.slice la (tableS (h.take k)).length lc) (tableS (h.take k)) ∧ Below W.heap.size W w') := fun k hk W hW => by
    have hcut := (evs_cutP hv k (by omega)).below hW (by omega)
    refine (refOfS_any _ (h.take k) W hcut (by rw [List.length_take]; omega) (capE (by omega))).mono ?_
    rintro e w' ⟨v', rfl, ht, hb⟩
    obtain ⟨la, lc, rfl⟩ := ht.len
    exact ⟨la, lc, rfl, ht, hb⟩
  have HSR : Hid (∀ k, k ≤ n → ∀ (lv : Value) (W : World), Txs W lv (tableS (h.take k)) → Calls Tryd.prog 22 #[lv, .int .i64 (B : Int)] W fun e w' => ∃ ra rc, e = .returned (.agg #[.int .i64 ((searchS B (tableS (h.take k))).1 : Int), .int .u32 ((searchS B (tableS (h.take k))).2.1 : Int), .slice ra (nats (searchS B (tableS (h.take k))).2.2.1).length rc, .int .i64 ((searchS B (tableS (h.take k))).2.2.2 : Int)]) ∧
      RdX (fun k => k < W.heap.size) w' (.slice ra (nats (searchS B (tableS (h.take k))).2.2.1).length rc) (nats (searchS B (tableS (h.take k))).2.2.1) ∧ Below W.heap.size W w') := fun k hk lv W ht => by
    have hcz := (HCUT.out k hk).2
    refine (refSearchX_any (h.take k) hcz lv B W ht (by omega) (ops_sixty hcz)).mono ?_
    rintro e w' ⟨rv, rfl, hr, hb⟩
    obtain ⟨ra, rc, rfl⟩ := hr.rd.len
    exact ⟨ra, rc, rfl, hr, hb⟩
  have HSN : Hid (∀ k, (opqL B h k).1 = 0 → opqL B h (k + 1) = if (searchS B (tableS (h.take k))).1 = 0 then (0, k, (searchS B (tableS (h.take k))).2.1, (searchS B (tableS (h.take k))).2.2.1, (opqL B h k).2.2.2.2 + (searchS B (tableS (h.take k))).2.2.2)
      else ((searchS B (tableS (h.take k))).1, k, (opqL B h k).2.2.1, (opqL B h k).2.2.2.1, (opqL B h k).2.2.2.2 + (searchS B (tableS (h.take k))).2.2.2)) := fun k => opqL_snoc k
  have HST : Hid (∀ k, k ≤ n → (opqL B h (k + 1)).1 ≠ 0 → opaqueS B h = opqL B h (k + 1)) := fun k hk => opqL_stop (by omega)
  have HAL : Hid (opqL B h (n + 1) = opaqueS B h) := by rw [← hn]; exact opqL_all
  have HSP : Hid (∀ k, (opqL B h k).2.2.2.2 ≤ k * B) := fun k => opqL_steps k
  have HZ : Hid (opqL B h 0 = (0, 0, 0, [], 0)) := rfl
  obtain ⟨x, hx⟩ : ∃ x, opaqueS B h = x := ⟨_, rfl⟩
  rw [hx] at HST HAL ⊢
  clear hw1 hx ha0 ha1 hb1 hv hn hc0 h0 hB0
  generalize opqL B h = L at *
  go_enter Tryd.func12, Tryd.ntmps12
  go_wp2_with fail
  rw [HW1.out]
  clear HW1
  have HST0 : Hid (Only (fun j => j = N + 1) w1 w1) := Only.refl _ _
  go_loopw [6] (fun x wr => ∃ (k : Nat) (ra : Option Addr) (rc : Nat), k ≤ n + 1 ∧ x = .int .i64 (k : Int) ∧ (L k).1 = 0 ∧ Hid (At wr (N + 1) (chkA 0 (L k).2.1 (L k).2.2.1 (.slice ra (nats (L k).2.2.2.1).length rc) (L k).2.2.2.2) 26) ∧ Hid (RdX (fun j => j < N + 2) wr (.slice ra (nats (L k).2.2.2.1).length rc) (nats (L k).2.2.2.1)) ∧ Hid (Only (fun j => j = N + 1) w1 wr)) (fun x _ => n + 1 - (intOf x).toNat)
  case atStart => exact ⟨0, none, 0, by omega, rfl, by rw [HZ.out], by rw [HZ.out]; exact HA1.out, by rw [HZ.out]; exact .inl ⟨rfl, _, _, rfl⟩, HST0⟩
  case round =>
    clear HZ HST0
    obtain ⟨k, ra, rc, hk, rfl, hz, HAK, HRK, HOK⟩ := hrel
    have HBW := Lib.hid (HB1.out.trans (HOK.out.below (B := N) (by omega) (fun j _ e => by omega)))
    by_cases hlt : k ≤ n
    · have HOF := Lib.hid (HSE.out k hlt wr HBW.out)
      have HSK := Lib.hid (HSR.out k hlt)
      have hsn := HSN.out k hz
      have hsp := HSP.out (k + 1)
      have hst := HST.out k hlt
      obtain ⟨T, hT⟩ : ∃ T, tableS (h.take k) = T := ⟨_, rfl⟩
      rw [hT] at HOF HSK hsn
      obtain ⟨y, hy⟩ : ∃ y, searchS B T = y := ⟨_, rfl⟩
      rw [hy] at HSK hsn
      obtain ⟨tn, htn⟩ : ∃ z, T.length = z := ⟨_, rfl⟩
      rw [htn] at HOF
      obtain ⟨P, hP⟩ : ∃ P, L k = P := ⟨_, rfl⟩
      rw [hP] at HAK HRK hsn
      obtain ⟨rn, hrn⟩ : ∃ z, (nats P.2.2.2.1).length = z := ⟨_, rfl⟩
      rw [hrn] at HAK HRK
      have hbd : P.2.2.2.2 + y.2.2.2 ≤ 65537 * 1000000 := by
        have e1 : (k + 1) * B ≤ 65537 * 1000000 := Nat.mul_le_mul (by omega) (by omega)
        rw [hsn] at hsp
        by_cases hv : y.1 = 0
        · rw [if_pos hv] at hsp; exact Nat.le_trans hsp e1
        · rw [if_neg hv] at hsp; exact Nat.le_trans hsp e1
      have HSNK := Lib.hid hsn
      have HSTK := Lib.hid hst
      obtain ⟨yn, hyn⟩ : ∃ z, (nats y.2.2.1).length = z := ⟨_, rfl⟩
      rw [hyn] at HSK
      have hkc : k ≤ c := by omega
      have hsz := HBW.out.size
      have HYN := Lib.hid hyn
      have HRN := Lib.hid hrn
      clear hsn hsp hst hz hT hy htn hP hrn hyn HSN HSP HST HSE HSR HCUT
      go_wp2_with fail
      refine HOF.out.mono ?_
      rintro e w4 ⟨la, lc, rfl, ht4, hb4⟩
      have HT4 := Lib.hid ht4
      have HB4 := Lib.hid hb4
      clear ht4 hb4 HOF
      go_wp2_with fail
      refine (HSK.out _ _ HT4.out).mono ?_
      rintro e w5 ⟨ra5, rc5, rfl, hr5, hb5⟩
      have hb45 := HB4.out.trans (hb5.mono HB4.out.size)
      have a5 := HAK.out.below hb45 HAK.out.lt
      have hlt5 := a5.lt
      have hltN : N < w5.heap.size := by omega
      have HR5 : Hid (RdX (fun j => j < N + 2) w5 (.slice ra5 yn rc5) (nats y.2.2.1)) := hr5.less (fun j hj => by have := HB4.out.size; have := HOK.out.size; omega)
      have HRO := Lib.hid (HRK.out.below hb45)
      have HO5 := Lib.hid (HOK.out.call hb45)
      have HB5 := Lib.hid (HBW.out.trans (hb45.mono (by omega)))
      have A5 := Lib.hid a5
      have A05 := Lib.hid ((HA0.out.only HO5.out (by omega)))
      clear hr5 hb5 hb45 HSK HT4 HB4 HAK HRK HOK HBW
      have q0 : w5.cell? ⟨N + 1, 0, none⟩ = some (.int .i64 0) := a5.cell rfl
      have q1 : w5.cell? ⟨N + 1, 1, none⟩ = some (.int .i64 (P.2.1 : Int)) := a5.cell rfl
      have q2 : w5.cell? ⟨N + 1, 2, none⟩ = some (.int .u32 (P.2.2.1 : Int)) := a5.cell rfl
      have q3 : w5.cell? ⟨N + 1, 3, none⟩ = some (.slice ra rn rc) := a5.cell rfl
      have q4 : w5.cell? ⟨N + 1, 4, none⟩ = some (.int .i64 (P.2.2.2.2 : Int)) := a5.cell rfl
      have f0 : w5.frozen? ⟨N + 1, 0, none⟩ = false := a5.free 0
      have f1 : w5.frozen? ⟨N + 1, 1, none⟩ = false := a5.free 1
      have f2 : w5.frozen? ⟨N + 1, 2, none⟩ = false := a5.free 2
      have f3 : w5.frozen? ⟨N + 1, 3, none⟩ = false := a5.free 3
      have f4 : w5.frozen? ⟨N + 1, 4, none⟩ = false := a5.free 4
      by_cases hv : y.1 = 0
      · have tv : ((y.1 : Int) != 0) = false := by simp [hv]
        clear a5
        go_wp2_with fail
        have hL : L (k + 1) = (0, k, y.2.1, y.2.2.1, P.2.2.2.2 + y.2.2.2) := HSNK.out.trans (if_pos hv)
        have HA9 : Hid (At ((((((w5.setCell ⟨N + 1, 1, none⟩ (.int .i64 (k : Int))).setCell ⟨N + 1, 0, none⟩ (.int .i64 0)).setCell ⟨N + 1, 4, none⟩ (.int .i64 ((P.2.2.2.2 : Int) + (y.2.2.2 : Int)))).setCell ⟨N + 1, 2, none⟩ (.int .u32 (y.2.1 : Int))).setCell ⟨N + 1, 3, none⟩ (.slice ra5 yn rc5)).alloc (.cells #[.int .i64 0, .int .u32 (y.2.1 : Int), .slice ra5 yn rc5, .int .i64 (y.2.2.2 : Int)] 37)) (N + 1) (chkA 0 k y.2.1 (.slice ra5 yn rc5) (P.2.2.2.2 + y.2.2.2)) 26) :=
          (((((A5.out.set 1 (.int .i64 (k : Int))).set 0 (.int .i64 0)).set 4 (.int .i64 ((P.2.2.2.2 : Int) + (y.2.2.2 : Int)))).set 2 (.int .u32 (y.2.1 : Int))).set 3 (.slice ra5 yn rc5)).alloc _
        have HO9 := Lib.hid (only_ref w5 (N + 1) (.int .i64 (k : Int)) (.int .i64 0) (.int .i64 ((P.2.2.2.2 : Int) + (y.2.2.2 : Int))) (.int .u32 (y.2.1 : Int)) (.slice ra5 yn rc5) (.cells #[.int .i64 0, .int .u32 (y.2.1 : Int), .slice ra5 yn rc5, .int .i64 (y.2.2.2 : Int)] 37))
        have HR9 := Lib.hid (HR5.out.only HO9.out (fun j hj => by omega))
        have HOW := Lib.hid (only_trans HO5.out HO9.out)
        clear q0 q1 q2 q3 q4 f0 f1 f2 f3 f4
        generalize (((((w5.setCell ⟨N + 1, 1, none⟩ (.int .i64 (k : Int))).setCell ⟨N + 1, 0, none⟩ (.int .i64 0)).setCell ⟨N + 1, 4, none⟩ (.int .i64 ((P.2.2.2.2 : Int) + (y.2.2.2 : Int)))).setCell ⟨N + 1, 2, none⟩ (.int .u32 (y.2.1 : Int))).setCell ⟨N + 1, 3, none⟩ (.slice ra5 yn rc5)).alloc (.cells #[.int .i64 0, .int .u32 (y.2.1 : Int), .slice ra5 yn rc5, .int .i64 (y.2.2.2 : Int)] 37) = w9 at *
        rw [← HYN.out] at HA9 HR9
        go_roundw
        case rel => exact ⟨k + 1, ra5, rc5, by omega, by go_num, by rw [hL], by rw [hL]; exact HA9.out, by rw [hL]; exact HR9.out, HOW⟩
        case measure => simp [intOf]; omega
      · have tv : ((y.1 : Int) != 0) = true := by simp; omega
        clear a5
        have z0 : w5.cell? ⟨N, 0, none⟩ = some (.int .i64 0) := A05.out.cell rfl
        have z1 : w5.cell? ⟨N, 1, none⟩ = some (.int .i64 0) := A05.out.cell rfl
        have z2 : w5.cell? ⟨N, 2, none⟩ = some (.int .u32 0) := A05.out.cell rfl
        have z3 : w5.cell? ⟨N, 3, none⟩ = some (.slice none 0 0) := A05.out.cell rfl
        have z4 : w5.cell? ⟨N, 4, none⟩ = some (.int .i64 0) := A05.out.cell rfl
        have y0 : w5.frozen? ⟨N, 0, none⟩ = false := A05.out.free 0
        have y1 : w5.frozen? ⟨N, 1, none⟩ = false := A05.out.free 1
        have y2 : w5.frozen? ⟨N, 2, none⟩ = false := A05.out.free 2
        have y3 : w5.frozen? ⟨N, 3, none⟩ = false := A05.out.free 3
        have y4 : w5.frozen? ⟨N, 4, none⟩ = false := A05.out.free 4
        go_wp2_with fail
        have AC : At (((((((((w5.setCell ⟨N + 1, 1, none⟩ (.int .i64 (k : Int))).setCell ⟨N + 1, 0, none⟩ (.int .i64 (y.1 : Int))).setCell ⟨N + 1, 4, none⟩ (.int .i64 ((P.2.2.2.2 : Int) + (y.2.2.2 : Int)))).setCell ⟨N, 0, none⟩ (.int .i64 (y.1 : Int))).setCell ⟨N, 1, none⟩ (.int .i64 (k : Int))).setCell ⟨N, 2, none⟩ (.int .u32 (P.2.2.1 : Int))).setCell ⟨N, 3, none⟩ (.slice ra rn rc)).setCell ⟨N, 4, none⟩ (.int .i64 ((P.2.2.2.2 : Int) + (y.2.2.2 : Int)))).alloc (.cells #[.int .i64 (y.1 : Int), .int .u32 (y.2.1 : Int), .slice ra5 yn rc5, .int .i64 (y.2.2.2 : Int)] 37)) N (chkA y.1 k P.2.2.1 (.slice ra rn rc) (P.2.2.2.2 + y.2.2.2)) 26 := ((((((((A05.out.other (a := ⟨N + 1, 1, none⟩) (by simp) _).other (a := ⟨N + 1, 0, none⟩) (by simp) _).other (a := ⟨N + 1, 4, none⟩) (by simp) _).set 0 (.int .i64 (y.1 : Int))).set 1 (.int .i64 (k : Int))).set 2 (.int .u32 (P.2.2.1 : Int))).set 3 (.slice ra rn rc)).set 4 (.int .i64 ((P.2.2.2.2 : Int) + (y.2.2.2 : Int)))).alloc _
        have HOF : Only (fun j => j = N + 1 ∨ j = N) w5 (((((((((w5.setCell ⟨N + 1, 1, none⟩ (.int .i64 (k : Int))).setCell ⟨N + 1, 0, none⟩ (.int .i64 (y.1 : Int))).setCell ⟨N + 1, 4, none⟩ (.int .i64 ((P.2.2.2.2 : Int) + (y.2.2.2 : Int)))).setCell ⟨N, 0, none⟩ (.int .i64 (y.1 : Int))).setCell ⟨N, 1, none⟩ (.int .i64 (k : Int))).setCell ⟨N, 2, none⟩ (.int .u32 (P.2.2.1 : Int))).setCell ⟨N, 3, none⟩ (.slice ra rn rc)).setCell ⟨N, 4, none⟩ (.int .i64 ((P.2.2.2.2 : Int) + (y.2.2.2 : Int)))).alloc (.cells #[.int .i64 (y.1 : Int), .int .u32 (y.2.1 : Int), .slice ra5 yn rc5, .int .i64 (y.2.2.2 : Int)] 37)) := (only_both w5 N (.int .i64 (k : Int)) (.int .i64 (y.1 : Int)) (.int .i64 ((P.2.2.2.2 : Int) + (y.2.2.2 : Int))) (.int .i64 (y.1 : Int)) (.int .i64 (k : Int)) (.int .u32 (P.2.2.1 : Int)) (.slice ra rn rc) (.int .i64 ((P.2.2.2.2 : Int) + (y.2.2.2 : Int)))).alloc _
        clear z0 z1 z2 z3 z4 y0 y1 y2 y3 y4 q0 q1 q2 q3 q4
        generalize ((((((((w5.setCell ⟨N + 1, 1, none⟩ (.int .i64 (k : Int))).setCell ⟨N + 1, 0, none⟩ (.int .i64 (y.1 : Int))).setCell ⟨N + 1, 4, none⟩ (.int .i64 ((P.2.2.2.2 : Int) + (y.2.2.2 : Int)))).setCell ⟨N, 0, none⟩ (.int .i64 (y.1 : Int))).setCell ⟨N, 1, none⟩ (.int .i64 (k : Int))).setCell ⟨N, 2, none⟩ (.int .u32 (P.2.2.1 : Int))).setCell ⟨N, 3, none⟩ (.slice ra rn rc)).setCell ⟨N, 4, none⟩ (.int .i64 ((P.2.2.2.2 : Int) + (y.2.2.2 : Int)))).alloc (.cells #[.int .i64 (y.1 : Int), .int .u32 (y.2.1 : Int), .slice ra5 yn rc5, .int .i64 (y.2.2.2 : Int)] 37) = w9 at *
        have q0 : w9.cell? ⟨N, 0, none⟩ = some (.int .i64 ((y.1 : Nat) : Int)) := AC.cell rfl
        have q1 : w9.cell? ⟨N, 1, none⟩ = some (.int .i64 ((k : Nat) : Int)) := AC.cell rfl
        have q2 : w9.cell? ⟨N, 2, none⟩ = some (.int .u32 ((P.2.2.1 : Nat) : Int)) := AC.cell rfl
        have q3 : w9.cell? ⟨N, 3, none⟩ = some (.slice ra rn rc) := AC.cell rfl
        have q4 : w9.cell? ⟨N, 4, none⟩ = some (.int .i64 (((P.2.2.2.2 + y.2.2.2) : Nat) : Int)) := AC.cell rfl
        have hr9 := HRO.out.only HOF (fun j hj => by omega)
        have hb9 : Below w.heap.size w w9 := by rw [hN]; exact HB5.out.trans (HOF.below (by have := HB5.out.size; omega) (fun j _ hj => by omega))
        have hL : L (k + 1) = (y.1, k, P.2.2.1, P.2.2.2.1, P.2.2.2.2 + y.2.2.2) := HSNK.out.trans (if_neg hv)
        have hxe : x = (y.1, k, P.2.2.1, P.2.2.2.1, P.2.2.2.2 + y.2.2.2) := (HSTK.out (by rw [hL]; exact hv)).trans hL
        refine bodyPost_ret (v := chkV y.1 k P.2.2.1 (.slice ra rn rc) (P.2.2.2.2 + y.2.2.2)) (by simp [results, Tryd.results12, go_sem, q0, q1, q2, q3, q4]; rfl) rfl ?_
        rw [hxe]
        refine ⟨ra, rc, ?_, ?_, hb9⟩
        · rw [← HRN.out]
        · have := hr9.rd
          rw [← HRN.out] at this
          exact this
    · have hkn : k = n + 1 := by omega
      rw [hkn, HAL.out] at HAK HRK hz
      have a5 := HAK.out
      have A05 := Lib.hid (HA0.out.only HOK.out (by omega))
      obtain ⟨rn, hrn⟩ : ∃ z, (nats x.2.2.2.1).length = z := ⟨_, rfl⟩
      rw [hrn] at a5 HRK
      have HRN := Lib.hid hrn
      have q0 : wr.cell? ⟨N + 1, 0, none⟩ = some (.int .i64 0) := a5.cell rfl
      have q1 : wr.cell? ⟨N + 1, 1, none⟩ = some (.int .i64 (x.2.1 : Int)) := a5.cell rfl
      have q2 : wr.cell? ⟨N + 1, 2, none⟩ = some (.int .u32 (x.2.2.1 : Int)) := a5.cell rfl
      have q3 : wr.cell? ⟨N + 1, 3, none⟩ = some (.slice ra rn rc) := a5.cell rfl
      have q4 : wr.cell? ⟨N + 1, 4, none⟩ = some (.int .i64 (x.2.2.2.2 : Int)) := a5.cell rfl
      have z0 : wr.cell? ⟨N, 0, none⟩ = some (.int .i64 0) := A05.out.cell rfl
      have z1 : wr.cell? ⟨N, 1, none⟩ = some (.int .i64 0) := A05.out.cell rfl
      have z2 : wr.cell? ⟨N, 2, none⟩ = some (.int .u32 0) := A05.out.cell rfl
      have z3 : wr.cell? ⟨N, 3, none⟩ = some (.slice none 0 0) := A05.out.cell rfl
      have z4 : wr.cell? ⟨N, 4, none⟩ = some (.int .i64 0) := A05.out.cell rfl
      have y0 : wr.frozen? ⟨N, 0, none⟩ = false := A05.out.free 0
      have y1 : wr.frozen? ⟨N, 1, none⟩ = false := A05.out.free 1
      have y2 : wr.frozen? ⟨N, 2, none⟩ = false := A05.out.free 2
      have y3 : wr.frozen? ⟨N, 3, none⟩ = false := A05.out.free 3
      have y4 : wr.frozen? ⟨N, 4, none⟩ = false := A05.out.free 4
      clear hrn a5 HAK HOK HSN HSP HST HSE HSR HCUT
      go_wp2_with fail
      have AC : At (((((wr.setCell ⟨N, 0, none⟩ (.int .i64 0)).setCell ⟨N, 1, none⟩ (.int .i64 (x.2.1 : Int))).setCell ⟨N, 2, none⟩ (.int .u32 (x.2.2.1 : Int))).setCell ⟨N, 3, none⟩ (.slice ra rn rc)).setCell ⟨N, 4, none⟩ (.int .i64 (x.2.2.2.2 : Int))) N (chkA 0 x.2.1 x.2.2.1 (.slice ra rn rc) x.2.2.2.2) 26 := (((((A05.out.set 0 (.int .i64 0)).set 1 (.int .i64 (x.2.1 : Int))).set 2 (.int .u32 (x.2.2.1 : Int))).set 3 (.slice ra rn rc)).set 4 (.int .i64 (x.2.2.2.2 : Int)))
      have HOF : Only (fun j => j = N + 1 ∨ j = N) wr (((((wr.setCell ⟨N, 0, none⟩ (.int .i64 0)).setCell ⟨N, 1, none⟩ (.int .i64 (x.2.1 : Int))).setCell ⟨N, 2, none⟩ (.int .u32 (x.2.2.1 : Int))).setCell ⟨N, 3, none⟩ (.slice ra rn rc)).setCell ⟨N, 4, none⟩ (.int .i64 (x.2.2.2.2 : Int))) := (only_five wr N (.int .i64 0) (.int .i64 (x.2.1 : Int)) (.int .u32 (x.2.2.1 : Int)) (.slice ra rn rc) (.int .i64 (x.2.2.2.2 : Int))).mono (fun j _ e => .inr e)
      clear z0 z1 z2 z3 z4 y0 y1 y2 y3 y4 q0 q1 q2 q3 q4
      generalize ((((wr.setCell ⟨N, 0, none⟩ (.int .i64 0)).setCell ⟨N, 1, none⟩ (.int .i64 (x.2.1 : Int))).setCell ⟨N, 2, none⟩ (.int .u32 (x.2.2.1 : Int))).setCell ⟨N, 3, none⟩ (.slice ra rn rc)).setCell ⟨N, 4, none⟩ (.int .i64 (x.2.2.2.2 : Int)) = w9 at *
      have q0 : w9.cell? ⟨N, 0, none⟩ = some (.int .i64 ((0 : Nat) : Int)) := AC.cell rfl
      have q1 : w9.cell? ⟨N, 1, none⟩ = some (.int .i64 ((x.2.1 : Nat) : Int)) := AC.cell rfl
      have q2 : w9.cell? ⟨N, 2, none⟩ = some (.int .u32 ((x.2.2.1 : Nat) : Int)) := AC.cell rfl
      have q3 : w9.cell? ⟨N, 3, none⟩ = some (.slice ra rn rc) := AC.cell rfl
      have q4 : w9.cell? ⟨N, 4, none⟩ = some (.int .i64 ((x.2.2.2.2 : Nat) : Int)) := AC.cell rfl
      have hr9 := HRK.out.only HOF (fun j hj => by omega)
      have hb9 : Below w.heap.size w w9 := by rw [hN]; exact HBW.out.trans (HOF.below (by have := HBW.out.size; omega) (fun j _ hj => by omega))
      refine bodyPost_ret (v := chkV 0 x.2.1 x.2.2.1 (.slice ra rn rc) x.2.2.2.2) (by simp [results, Tryd.results12, go_sem, q0, q1, q2, q3, q4]; rfl) rfl ?_
      rw [hz]
      refine ⟨ra, rc, ?_, ?_, hb9⟩
      · rw [← HRN.out]
      · have := hr9.rd
        rw [← HRN.out] at this
        exact this
end Go.Proofs.YtjefmfbncjdofaaDoor
