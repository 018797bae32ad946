/- Merged: OpqA, OpqB, OpenFd, OpenCk. -/
import Derived.Test.YtjefmfbncjdofaaDoorMg19
import Derived.Test.YtjefmfbncjdofaaDoorMg7
import Derived.Test.YtjefmfbncjdofaaDoorMg21
import Derived.Test.YtjefmfbncjdofaaDoorMg16
/- Plain words: prefix by prefix. -/
namespace Go.Proofs.YtjefmfbncjdofaaDoor.WPlain
end Go.Proofs.YtjefmfbncjdofaaDoor.WPlain
namespace Go.Proofs.YtjefmfbncjdofaaDoor.QPlain
end Go.Proofs.YtjefmfbncjdofaaDoor.QPlain
namespace Go.Proofs.YtjefmfbncjdofaaDoor.RPlain
open WPlain QPlain

/-- the verdict, at, commits, row, steps; from a list of lengths on -/
def opqG (B : Nat) (h : List Ev) : List Nat → Nat → Nat → List Nat → Nat → Nat × Nat × Nat × List Nat × Nat
  | [], a, c, r, s => (0, a, c, r, s)
  | k :: ks, _, c, r, s => if (searchS B (tableS (h.take k))).1 = 0 then opqG B h ks k (searchS B (tableS (h.take k))).2.1 (searchS B (tableS (h.take k))).2.2.1 (s + (searchS B (tableS (h.take k))).2.2.2)
    else ((searchS B (tableS (h.take k))).1, k, c, r, s + (searchS B (tableS (h.take k))).2.2.2)
def opaqueS (B : Nat) (h : List Ev) : Nat × Nat × Nat × List Nat × Nat := opqG B h (List.range (h.length + 1)) 0 0 [] 0
theorem opq_congr {B : Nat} {h g : List Ev} : ∀ (ks : List Nat) (a c : Nat) (r : List Nat) (s : Nat), (∀ k ∈ ks, h.take k = g.take k) → opqG B h ks a c r s = opqG B g ks a c r s := by
  intro ks
  induction ks with
  | nil => intro _ _ _ _ _; rfl
  | cons k ks ih =>
    intro a c r s hk
    rw [opqG, opqG, hk k (List.mem_cons_self ..), ih _ _ _ _ (fun x hx => hk x (List.mem_cons_of_mem _ hx))]
theorem opq_app {B : Nat} {h : List Ev} : ∀ (ks ls : List Nat) (a c : Nat) (r : List Nat) (s : Nat),
    opqG B h (ks ++ ls) a c r s = if (opqG B h ks a c r s).1 = 0 then opqG B h ls (opqG B h ks a c r s).2.1 (opqG B h ks a c r s).2.2.1 (opqG B h ks a c r s).2.2.2.1 (opqG B h ks a c r s).2.2.2.2 else opqG B h ks a c r s := by
  intro ks
  induction ks with
  | nil => intro ls a c r s; rfl
  | cons k ks ih =>
    intro ls a c r s
    rw [List.cons_append, opqG, opqG]
    by_cases hv : (searchS B (tableS (h.take k))).1 = 0
    · rw [if_pos hv, if_pos hv, ih]
    · rw [if_neg hv, if_neg hv, if_neg hv]
/-- where it ends -/
theorem opq_at {B : Nat} {h : List Ev} : ∀ (ks : List Nat) (a c : Nat) (r : List Nat) (s : Nat), ks.Pairwise (· < ·) →
    (((opqG B h ks a c r s).1 ≠ 0 → (opqG B h ks a c r s).2.1 ∈ ks ∧ (searchS B (tableS (h.take (opqG B h ks a c r s).2.1))).1 = (opqG B h ks a c r s).1 ∧ ∀ i ∈ ks, i < (opqG B h ks a c r s).2.1 → (searchS B (tableS (h.take i))).1 = 0) ∧
      ((opqG B h ks a c r s).1 = 0 → (∀ i ∈ ks, (searchS B (tableS (h.take i))).1 = 0) ∧ (opqG B h ks a c r s).2.1 = ks.getLastD a)) := by
  intro ks
  induction ks with
  | nil => intro a c r s _; exact ⟨fun h => absurd rfl h, fun _ => ⟨fun i hi => (by cases hi), rfl⟩⟩
  | cons k ks ih =>
    intro a c r s hp
    obtain ⟨hk, hp'⟩ := List.pairwise_cons.1 hp
    rw [opqG]
    by_cases hv : (searchS B (tableS (h.take k))).1 = 0
    · rw [if_pos hv]
      obtain ⟨g1, g2⟩ := ih k (searchS B (tableS (h.take k))).2.1 (searchS B (tableS (h.take k))).2.2.1 (s + (searchS B (tableS (h.take k))).2.2.2) hp'
      refine ⟨fun hne => ?_, fun he => ?_⟩
      · obtain ⟨e1, e2, e3⟩ := g1 hne
        refine ⟨List.mem_cons_of_mem _ e1, e2, fun i hi hlt => ?_⟩
        rcases List.mem_cons.1 hi with rfl | hi
        · exact hv
        · exact e3 i hi hlt
      · obtain ⟨e1, e2⟩ := g2 he
        refine ⟨fun i hi => ?_, ?_⟩
        · rcases List.mem_cons.1 hi with rfl | hi
          · exact hv
          · exact e1 i hi
        · rw [e2]
          cases ks with
          | nil => rfl
          | cons x r => rfl
    · rw [if_neg hv]
      refine ⟨fun _ => ⟨List.mem_cons_self .., rfl, fun i hi hlt => ?_⟩, fun he => absurd he hv⟩
      rcases List.mem_cons.1 hi with rfl | hi
      · exact absurd hlt (Nat.lt_irrefl _)
      · have := hk i hi
        dsimp only at hlt
        omega
theorem opaque_tells (B : Nat) (h : List Ev) :
    (opaqueS B h).2.1 ≤ h.length ∧ ((opaqueS B h).1 = 0 → (opaqueS B h).2.1 = h.length) ∧ (∀ i, i < (opaqueS B h).2.1 → (searchS B (tableS (h.take i))).1 = 0) ∧
      (searchS B (tableS (h.take (opaqueS B h).2.1))).1 = (opaqueS B h).1 := by
  obtain ⟨h1, h2⟩ := opq_at (B := B) (h := h) (List.range (h.length + 1)) 0 0 [] 0 List.pairwise_lt_range
  unfold opaqueS
  by_cases hv : (opqG B h (List.range (h.length + 1)) 0 0 [] 0).1 = 0
  · obtain ⟨e1, e2⟩ := h2 hv
    have e3 : (opqG B h (List.range (h.length + 1)) 0 0 [] 0).2.1 = h.length := by
      rw [e2, List.range_succ]
      simp
    rw [e3, hv]
    exact ⟨Nat.le_refl _, fun _ => rfl, fun i hi => e1 i (List.mem_range.2 (by omega)), e1 _ (List.mem_range.2 (by omega))⟩
  · obtain ⟨e1, e2, e3⟩ := h1 hv
    have e4 := List.mem_range.1 e1
    exact ⟨by omega, fun hc => absurd hc hv, fun i hi => e3 i (List.mem_range.2 (by omega)) hi, e2⟩
/-- up to a place -/
theorem opaque_take (B : Nat) (h : List Ev) {k : Nat} (hk : k ≤ h.length) :
    ((opaqueS B h).1 ≠ 0 → (opaqueS B h).2.1 ≤ k → opaqueS B (h.take k) = opaqueS B h) ∧ (((opaqueS B h).1 = 0 ∨ k < (opaqueS B h).2.1) → (opaqueS B (h.take k)).1 = 0 ∧ (opaqueS B (h.take k)).2.1 = k) := by
  have hlen : (h.take k).length = k := by rw [List.length_take]; omega
  obtain ⟨t1, t2, t3, t4⟩ := opaque_tells B h
  obtain ⟨u1, u2, u3, u4⟩ := opaque_tells B (h.take k)
  rw [hlen] at u1 u2
  have htk : ∀ i, i ≤ k → (h.take k).take i = h.take i := fun i hi => by rw [List.take_take, Nat.min_eq_left hi]
  have hcon : opaqueS B (h.take k) = opqG B h (List.range (k + 1)) 0 0 [] 0 := by
    unfold opaqueS
    rw [hlen]
    exact opq_congr _ _ _ _ _ fun i hi => htk i (by have := List.mem_range.1 hi; omega)
  have happ : opaqueS B h = if (opaqueS B (h.take k)).1 = 0 then opqG B h ((List.range (h.length - k)).map (k + 1 + ·)) (opaqueS B (h.take k)).2.1 (opaqueS B (h.take k)).2.2.1 (opaqueS B (h.take k)).2.2.2.1 (opaqueS B (h.take k)).2.2.2.2 else opaqueS B (h.take k) := by
    rw [hcon, ← opq_app, ← List.range_add, show k + 1 + (h.length - k) = h.length + 1 from by omega]
    rfl
  refine ⟨fun hne hat => ?_, fun hor => ?_⟩
  · by_cases hv : (opaqueS B (h.take k)).1 = 0
    · have h1 := u3 (opaqueS B h).2.1
      rw [u2 hv] at h1 u4
      rcases Nat.lt_or_ge (opaqueS B h).2.1 k with h2 | h2
      · have h3 := h1 h2
        rw [htk _ hat, t4] at h3
        exact absurd h3 hne
      · have h4 : (opaqueS B h).2.1 = k := by omega
        rw [h4] at t4
        rw [htk _ (Nat.le_refl _), t4, hv] at u4
        exact absurd u4 hne
    · rw [happ, if_neg hv]
  · by_cases hv : (opaqueS B (h.take k)).1 = 0
    · exact ⟨hv, u2 hv⟩
    · rw [if_neg hv] at happ
      rcases hor with h1 | h1
      · rw [happ] at h1; exact absurd h1 hv
      · rw [happ] at h1; omega
end Go.Proofs.YtjefmfbncjdofaaDoor.RPlain
/- Plain words: transactions one after the other, each legal behind those that were committed, are explained up to each place. -/
namespace Go.Proofs.YtjefmfbncjdofaaDoor.WPlain
end Go.Proofs.YtjefmfbncjdofaaDoor.WPlain
namespace Go.Proofs.YtjefmfbncjdofaaDoor.QPlain
end Go.Proofs.YtjefmfbncjdofaaDoor.QPlain
namespace Go.Proofs.YtjefmfbncjdofaaDoor.RPlain
open WPlain QPlain

theorem ofT_none_more {g r : List Ev} {t : Int} (hr : ∀ e ∈ r, e.t ≠ t) : ofT (g ++ r) t = ofT g t := by
  rw [ofT_append]
  have : ofT r t = [] := by
    unfold ofT
    rw [List.filter_eq_nil_iff]
    intro e he hc
    exact hr e he (by simpa using hc)
  rw [this, List.append_nil]
theorem own_pre : ∀ (a b : List Rwo) (M : Int → Int), ownS M (a ++ b) = (a ++ b).length → ownS M a = a.length := by
  intro a
  induction a with
  | nil => intro b M _; rfl
  | cons o r ih =>
    intro b M h
    rw [List.cons_append, ownS, List.length_cons] at h
    rw [ownS, List.length_cons]
    by_cases hw : o.w = true
    · rw [if_pos hw] at h ⊢; rw [ih b (putM M o.v o.x) (by omega)]; omega
    · rw [if_neg hw] at h ⊢
      by_cases hr : M o.v = o.x
      · rw [if_pos hr] at h ⊢; rw [ih b M (by omega)]; omega
      · rw [if_neg hr] at h; omega
theorem legal_same {l l' : List Tx} {c c' : Nat} : ∀ (row : List Nat) (M : Int → Int), (∀ i ∈ row, opsAt l i = opsAt l' i ∧ c.testBit i = c'.testBit i) → legalG l c M row = legalG l' c' M row ∧ behindS l c M row = behindS l' c' M row := by
  intro row
  induction row with
  | nil => intro M _; exact ⟨rfl, rfl⟩
  | cons i r ih =>
    intro M h
    obtain ⟨h1, h2⟩ := h i (List.mem_cons_self ..)
    have hs : stepM l c M i = stepM l' c' M i := by unfold stepM; rw [h1, h2]
    obtain ⟨g1, g2⟩ := ih (stepM l' c' M i) (fun x hx => h x (List.mem_cons_of_mem _ hx))
    rw [legalG, legalG, behind_cons, behind_cons, hs, h1, g1, g2]
    exact ⟨rfl, rfl⟩
theorem opsAt_get (h : List Ev) {i : Nat} (hi : i < (namesOf h).length) : opsAt (tableS h) i = opsOf h (namesOf h)[i] := by
  unfold opsAt
  rw [List.getElem?_eq_getElem (by rw [tableS_len]; exact hi), tableS_get hi]
  rfl
theorem lo_bit (h : List Ev) {i : Nat} (hi : i < (namesOf h).length) : (loN (tableS h)).testBit i = decide (stateS (lastOf h (namesOf h)[i]) = 2) := by
  unfold loN
  rw [bitsN_test, tableS_len, decide_eq_true hi, Bool.true_and, List.getElem?_eq_getElem (by rw [tableS_len]; exact hi), tableS_get hi]
  rfl
/-- each prefix is explained -/
theorem ser_expl {h : List Ev} (hs : serP h) (hl : legalS (tableS h) (loN (tableS h)) (List.range (tableS h).length) = (tableS h).length) {k : Nat} (hk : k ≤ h.length) :
    Expl (tableS (h.take k)) (2 ^ (tableS (h.take k)).length - 1) (loN (tableS (h.take k))) (List.range (tableS (h.take k)).length) := by
  have hsp : h.take k ++ h.drop k = h := List.take_append_drop k h
  have hcut := names_cut h k
  have htl : (h.take k).length = k := by rw [List.length_take]; omega
  refine ⟨List.nodup_range, fun x => ?_, ?_, ?_⟩
  · rw [List.mem_range, two_bits]
    simp
  · rw [List.pairwise_iff_getElem]
    intro i j hi hj hij
    have hj' : j < (namesOf (h.take k)).length := by rw [List.length_range, tableS_len] at hj; exact hj
    rw [List.getElem_range, List.getElem_range, bfrAt_at (by rw [tableS_len]; exact hj') (by rw [tableS_len]; omega), tableS_get hj', tableS_get (by omega)]
    exact bfr_row _ hij hj'
  · rw [List.length_range]
    have hnl : (tableS (h.take k)).length ≤ (tableS h).length := by rw [tableS_len, tableS_len]; exact hcut.1
    have hnm : (tableS (h.take k)).length = (namesOf (h.take k)).length := tableS_len _
    generalize hm : (tableS (h.take k)).length = m at *
    have h1 := legal_take (tableS h) (loN (tableS h)) (List.range (tableS h).length) m zeroM
    have h2 : legalG (tableS h) (loN (tableS h)) zeroM (List.range (tableS h).length) = (tableS h).length := hl
    rw [h2, Nat.min_eq_right hnl, List.take_range, Nat.min_eq_left hnl] at h1
    cases m with
    | zero => rfl
    | succ m =>
      rw [List.range_succ] at h1 ⊢
      have hsame : ∀ i ∈ List.range m, opsAt (tableS (h.take k)) i = opsAt (tableS h) i ∧ (loN (tableS (h.take k))).testBit i = (loN (tableS h)).testBit i := fun i hi => by
        have him := List.mem_range.1 hi
        have hi1 : i < (namesOf (h.take k)).length := by omega
        have hm1 : m < (namesOf (h.take k)).length := by omega
        have hi2 : i < (namesOf h).length := by have := hcut.1; omega
        have hm2 : m < (namesOf h).length := by have := hcut.1; omega
        have he := hcut.2 i hi1 hi2
        have he2 := hcut.2 m hm1 hm2
        have hrise := rise_at hm2 him
        have hum := List.getElem_mem hm1
        have hfu : fstOf h (namesOf h)[m] < (k : Int) := by
          have := (tx_cut h k _ hum).1
          rw [← he2, this]
          have := (fst_range hum).2
          rw [htl] at this
          exact this
        have hno : ∀ e ∈ h.drop k, e.t ≠ (namesOf (h.take k))[i] := fun e hem hc => by
          obtain ⟨q, hq, rfl⟩ := List.getElem_of_mem hem
          rw [List.getElem_drop] at hc
          rw [List.length_drop] at hq
          have := ser_over hs (List.getElem_mem hi2) (List.getElem_mem hm2) hrise (p := k + q) (by omega) (by rw [hc, he])
          omega
        have hof := ofT_none_more (g := h.take k) hno
        rw [hsp] at hof
        obtain ⟨a1, _, a3⟩ := alone_last (h.take k) (namesOf (h.take k))[i]
        obtain ⟨b1, _, b3⟩ := alone_last h (namesOf (h.take k))[i]
        rw [hof] at b1 b3
        rw [opsAt_get _ hi1, opsAt_get _ hi2, lo_bit _ hi1, lo_bit _ hi2, ← he]
        exact ⟨a3.symm.trans b3, by rw [a1.symm.trans b1]⟩
      obtain ⟨g1, g2⟩ := legal_same (List.range m) zeroM hsame
      unfold legalS
      rw [legal_app] at h1 ⊢
      rw [g1, g2]
      have hle := legal_le (tableS h) (loN (tableS h)) (List.range m) zeroM
      rw [List.length_range] at h1 hle ⊢
      by_cases hp : legalG (tableS h) (loN (tableS h)) zeroM (List.range m) = m
      · rw [if_pos hp] at h1 ⊢
        have hm1 : m < (namesOf (h.take k)).length := by omega
        have hm2 : m < (namesOf h).length := by have := hcut.1; omega
        have he2 := hcut.2 m hm1 hm2
        rw [legalG] at h1 ⊢
        by_cases ho : ownS (behindS (tableS h) (loN (tableS h)) zeroM (List.range m)) (opsAt (tableS h) m) = (opsAt (tableS h) m).length
        · have hpre : opsAt (tableS (h.take k)) m <+: opsAt (tableS h) m := by
            rw [opsAt_get _ hm1, opsAt_get _ hm2, ← he2]
            have := (tx_more (h.take k) (h.drop k) _ (List.getElem_mem hm1)).2.2
            rwa [hsp] at this
          obtain ⟨b, hb⟩ := hpre
          rw [← hb] at ho
          rw [if_pos (own_pre _ b _ ho)]
          rfl
        · rw [if_neg ho] at h1; omega
      · rw [if_neg hp] at h1; omega
theorem ser_opaque {h : List Ev} (h0 : (checkS h).2 = 0) (hs : serP h) (hl : legalS (tableS h) (loN (tableS h)) (List.range (tableS h).length) = (tableS h).length) : (opaqueS 125184 h).1 = 0 := by
  obtain ⟨_, _, _, t4⟩ := opaque_tells 125184 h
  obtain ⟨t1, _, _, _⟩ := opaque_tells 125184 h
  rw [← t4]
  generalize (opaqueS 125184 h).2.1 = k at *
  have h6 : (tableS (h.take k)).length ≤ 6 := table_six (check_cut h0 k t1)
  refine (search_yes (self_table _) h6 (Nat.le_refl _)).2 ⟨loN (tableS (h.take k)), ?_, _, ser_expl hs hl t1⟩
  rw [choices_chL h6]
  exact lo_mem _
end Go.Proofs.YtjefmfbncjdofaaDoor.RPlain
/- A finding among the arguments, by value, its row cut to its first N. -/
namespace Go.Proofs.YtjefmfbncjdofaaDoor.WPlain
end Go.Proofs.YtjefmfbncjdofaaDoor.WPlain
namespace Go.Proofs.YtjefmfbncjdofaaDoor.RPlain
end Go.Proofs.YtjefmfbncjdofaaDoor.RPlain
namespace Go.Proofs.YtjefmfbncjdofaaDoor
open Go.ChangeShapes Go.WideShapes Go.ChangeAt Go.RowKit
open Go.Deep WPlain RPlain

set_option maxRecDepth 100000 in
theorem ints_trod (N : Nat) {H : Type} {enc : TypeId × Value → H} {w : World} {base : Nat} {sp : Nat → Bool} {held : Bool} {fuel : Nat} {u : Value} {y : DataW H × List MemPlace} (hf : DataW.trod enc Tryd.prog w base sp held fuel 24 [u] = some y) :
    ∃ (a : Option Addr) (n c : Nat) (row : List Int), u = .slice a n c ∧ n ≤ c ∧ Rd w (.slice a (min (n : Int) N).toNat c) (ints row) := by
  rcases open_ints Tryd.underlying24 Tryd.underlying3 cells_int hf with ⟨hc, _⟩ | ⟨a', len', cap', zs, hc, _, hle, _, hzl, _, hat, _⟩
  · simp only [List.cons.injEq, and_true] at hc
    subst hc
    exact ⟨none, 0, 0, [], rfl, Nat.le_refl _, .inl ⟨rfl, none, 0, by rw [show (min ((0 : Nat) : Int) N).toNat = 0 from by omega]⟩⟩
  · simp only [List.cons.injEq, and_true] at hc
    subst hc
    have hml : len' ≤ zs.length := by rw [hzl]; split <;> omega
    obtain ⟨k, hk⟩ : ∃ k, k = (min (len' : Int) N).toNat := ⟨_, rfl⟩
    have hkl : k ≤ len' := by omega
    refine ⟨some a', len', cap', zs.take k, rfl, hle, ?_⟩
    rw [← hk]
    by_cases h0 : 0 < k
    · obtain ⟨b, o, spot⟩ := a'
      have hspot : spot = none := by
        have := hat 0 (by omega)
        simpa [Addr.add] using World.cell?_spot this
      subst hspot
      refine .inr ⟨by rw [ints_len, List.length_take]; omega, b, o, cap', by rw [ints_len, List.length_take, Nat.min_eq_left (by omega)], fun i u hu => ?_⟩
      unfold ints at hu
      rw [List.getElem?_map, List.getElem?_take] at hu
      have hik : i < k := by
        by_cases hh : i < k
        · exact hh
        · rw [if_neg hh] at hu; cases hu
      rw [if_pos hik, List.getElem?_eq_getElem (by omega)] at hu
      have h1 := hat i (by omega)
      have hadd : (⟨b, o, none⟩ : Addr).add i = ⟨b, o + i, none⟩ := by unfold Addr.add; split <;> simp_all
      rw [hadd, List.getD_eq_getElem?_getD, List.getElem?_eq_getElem (by omega)] at h1
      rw [h1]
      simpa using hu
    · have : k = 0 := by omega
      subst this
      exact .inl ⟨by simp [ints], _, _, rfl⟩
theorem cells_fdT : Tryd.prog.cellsOf 37 = 4 := by kernel_rfl
theorem cells_u32T : Tryd.prog.cellsOf 23 = 1 := by kernel_rfl
theorem cells_intsT : Tryd.prog.cellsOf 24 = 1 := by kernel_rfl
theorem open_fd (N : Nat) {H : Type} {enc : TypeId × Value → H} {w : World} {base : Nat} {sp : Nat → Bool} {held : Bool} (fuel : Nat) (cs : List Value) (y : DataW H × List MemPlace)
    (h : DataW.trod enc Tryd.prog w base sp held fuel 37 cs = some y) : ∃ (x c s : Int) (a : Option Addr) (n cap : Nat) (row : List Int), cs = [.int .i64 x, .int .u32 c, .slice a n cap, .int .i64 s] ∧ n ≤ cap ∧ Rd w (.slice a (min (n : Int) N).toNat cap) (ints row) := by
  obtain ⟨ys, n, _, rfl, hcl, hl, hf⟩ := DataW.trod_struct Tryd.underlying37 h
  rw [cells_fdT] at hcl
  have hl4 : ys.length = 4 := hl
  have h0 : DataW.trod enc Tryd.prog w base sp held n 3 ((cs.drop 0).take (Tryd.prog.cellsOf 3)) = ys[0]? := hf 0 _ rfl
  have h1 : DataW.trod enc Tryd.prog w base sp held n 23 ((cs.drop 1).take (Tryd.prog.cellsOf 23)) = ys[1]? := hf 1 _ rfl
  have h2 : DataW.trod enc Tryd.prog w base sp held n 24 ((cs.drop 2).take (Tryd.prog.cellsOf 24)) = ys[2]? := hf 2 _ rfl
  have h3 : DataW.trod enc Tryd.prog w base sp held n 3 ((cs.drop 3).take (Tryd.prog.cellsOf 3)) = ys[3]? := hf 3 _ rfl
  rw [cells_int] at h0 h3
  rw [cells_u32T] at h1
  rw [cells_intsT] at h2
  rw [List.getElem?_eq_getElem (by omega)] at h0 h1 h2 h3
  obtain ⟨z0, c0, _, _⟩ := DataW.trod_int Tryd.underlying3 h0
  obtain ⟨z1, c1, _, _⟩ := DataW.trod_int Tryd.underlying23 h1
  obtain ⟨z3, c3, _, _⟩ := DataW.trod_int Tryd.underlying3 h3
  obtain ⟨u, hu⟩ : ∃ u, (cs.drop 2).take 1 = [u] := ⟨cs[2]'(by omega), by rw [List.drop_eq_getElem_cons (by omega)]; rfl⟩
  rw [hu] at h2
  obtain ⟨a, m, c, row, rfl, hmc, hr⟩ := ints_trod N h2
  refine ⟨z0, z1, z3, a, m, c, row, ?_, hmc, hr⟩
  have a0 := at_one _ _ _ c0
  have a1 := at_one _ _ _ c1
  have a2 := at_one _ _ _ hu
  have a3 := at_one _ _ _ c3
  apply List.ext_getElem?
  intro i
  by_cases hi : i < 4
  · have hc : i = 0 ∨ i = 1 ∨ i = 2 ∨ i = 3 := by omega
    rcases hc with rfl | rfl | rfl | rfl
    · rw [a0]; rfl
    · rw [a1]; rfl
    · rw [a2]; rfl
    · rw [a3]; rfl
  · rw [List.getElem?_eq_none (by omega), List.getElem?_eq_none (by simp; omega)]
set_option maxRecDepth 100000 in
/-- a finding among the arguments, by value -/
theorem open_found (N : Nat) {H : Type} {enc : TypeId × Value → H} {W w : World} {r : Reach} {b0 base : Nat} {sp : Nat → Bool} {held : Bool} {v : Value} {d : DataW H} {p : List MemPlace} (hv : Value.okWide Tryd.prog W r b0 37 v) (h : DataW.Trod enc Tryd.prog w base sp held 37 v d p) :
    ∃ (x c s : Int) (a : Option Addr) (n cap : Nat) (row : List Int), v = .agg #[.int .i64 x, .int .u32 c, .slice a n cap, .int .i64 s] ∧ n ≤ cap ∧ Rd w (.slice a (min (n : Int) N).toNat cap) (ints row) := by
  obtain ⟨cs, rfl, hsz⟩ := okWide_struct Tryd.underlying37 hv
  obtain ⟨fuel, hf⟩ := h
  obtain ⟨x, c, s, a, n, cap, row, hq, hn, hr⟩ := open_fd N _ _ _ hf
  refine ⟨x, c, s, a, n, cap, row, ?_, hn, hr⟩
  congr 1
  cases cs
  simpa [Value.cells] using hq
end Go.Proofs.YtjefmfbncjdofaaDoor
/- A check's finding among the arguments, by value, its row cut to its first N. -/
namespace Go.Proofs.YtjefmfbncjdofaaDoor.WPlain
end Go.Proofs.YtjefmfbncjdofaaDoor.WPlain
namespace Go.Proofs.YtjefmfbncjdofaaDoor.RPlain
end Go.Proofs.YtjefmfbncjdofaaDoor.RPlain
namespace Go.Proofs.YtjefmfbncjdofaaDoor
open Go.ChangeShapes Go.WideShapes Go.ChangeAt Go.RowKit
open Go.Deep WPlain RPlain

theorem cells_ckT : Tryd.prog.cellsOf 26 = 5 := by kernel_rfl
theorem open_ck (N : Nat) {H : Type} {enc : TypeId × Value → H} {w : World} {base : Nat} {sp : Nat → Bool} {held : Bool} (fuel : Nat) (cs : List Value) (y : DataW H × List MemPlace)
    (h : DataW.trod enc Tryd.prog w base sp held fuel 26 cs = some y) : ∃ (x t c s : Int) (a : Option Addr) (n cap : Nat) (row : List Int), cs = [.int .i64 x, .int .i64 t, .int .u32 c, .slice a n cap, .int .i64 s] ∧ n ≤ cap ∧ Rd w (.slice a (min (n : Int) N).toNat cap) (ints row) := by
  obtain ⟨ys, n, _, rfl, hcl, hl, hf⟩ := DataW.trod_struct Tryd.underlying26 h
  rw [cells_ckT] at hcl
  have hl5 : ys.length = 5 := hl
  have h0 : DataW.trod enc Tryd.prog w base sp held n 3 ((cs.drop 0).take (Tryd.prog.cellsOf 3)) = ys[0]? := hf 0 _ rfl
  have h1 : DataW.trod enc Tryd.prog w base sp held n 3 ((cs.drop 1).take (Tryd.prog.cellsOf 3)) = ys[1]? := hf 1 _ rfl
  have h2 : DataW.trod enc Tryd.prog w base sp held n 23 ((cs.drop 2).take (Tryd.prog.cellsOf 23)) = ys[2]? := hf 2 _ rfl
  have h3 : DataW.trod enc Tryd.prog w base sp held n 24 ((cs.drop 3).take (Tryd.prog.cellsOf 24)) = ys[3]? := hf 3 _ rfl
  have h4 : DataW.trod enc Tryd.prog w base sp held n 3 ((cs.drop 4).take (Tryd.prog.cellsOf 3)) = ys[4]? := hf 4 _ rfl
  rw [cells_int] at h0 h1 h4
  rw [cells_u32T] at h2
  rw [cells_intsT] at h3
  rw [List.getElem?_eq_getElem (by omega)] at h0 h1 h2 h3 h4
  obtain ⟨z0, c0, _, _⟩ := DataW.trod_int Tryd.underlying3 h0
  obtain ⟨z1, c1, _, _⟩ := DataW.trod_int Tryd.underlying3 h1
  obtain ⟨z2, c2, _, _⟩ := DataW.trod_int Tryd.underlying23 h2
  obtain ⟨z4, c4, _, _⟩ := DataW.trod_int Tryd.underlying3 h4
  obtain ⟨u, hu⟩ : ∃ u, (cs.drop 3).take 1 = [u] := ⟨cs[3]'(by omega), by rw [List.drop_eq_getElem_cons (by omega)]; rfl⟩
  rw [hu] at h3
  obtain ⟨a, m, c, row, rfl, hmc, hr⟩ := ints_trod N h3
  refine ⟨z0, z1, z2, z4, a, m, c, row, ?_, hmc, hr⟩
  have a0 := at_one _ _ _ c0
  have a1 := at_one _ _ _ c1
  have a2 := at_one _ _ _ c2
  have a3 := at_one _ _ _ hu
  have a4 := at_one _ _ _ c4
  apply List.ext_getElem?
  intro i
  by_cases hi : i < 5
  · have hc : i = 0 ∨ i = 1 ∨ i = 2 ∨ i = 3 ∨ i = 4 := by omega
    rcases hc with rfl | rfl | rfl | rfl | rfl
    · rw [a0]; rfl
    · rw [a1]; rfl
    · rw [a2]; rfl
    · rw [a3]; rfl
    · rw [a4]; rfl
  · rw [List.getElem?_eq_none (by omega), List.getElem?_eq_none (by simp; omega)]
set_option maxRecDepth 100000 in
/-- a check's finding among the arguments, by value -/
theorem open_checked (N : Nat) {H : Type} {enc : TypeId × Value → H} {W w : World} {r : Reach} {b0 base : Nat} {sp : Nat → Bool} {held : Bool} {v : Value} {d : DataW H} {p : List MemPlace} (hv : Value.okWide Tryd.prog W r b0 26 v) (h : DataW.Trod enc Tryd.prog w base sp held 26 v d p) :
    ∃ (x t c s : Int) (a : Option Addr) (n cap : Nat) (row : List Int), v = .agg #[.int .i64 x, .int .i64 t, .int .u32 c, .slice a n cap, .int .i64 s] ∧ n ≤ cap ∧ Rd w (.slice a (min (n : Int) N).toNat cap) (ints row) := by
  obtain ⟨cs, rfl, hsz⟩ := okWide_struct Tryd.underlying26 hv
  obtain ⟨fuel, hf⟩ := h
  obtain ⟨x, t, c, s, a, n, cap, row, hq, hn, hr⟩ := open_ck N _ _ _ hf
  refine ⟨x, t, c, s, a, n, cap, row, ?_, hn, hr⟩
  congr 1
  cases cs
  simpa [Value.cells] using hq
end Go.Proofs.YtjefmfbncjdofaaDoor
