/- Plain words of LegalShort; maps of ints to ints, and of ints to bools, of the call's own. -/
import Derived.Test.YtceipdmplnlogaaDoorLegQ
import Derived.Test.YtceipdmplnlogaaDoorLegO
import Derived.Test.YtceipdmplnlogaaDoorTabE
namespace Go.Proofs.YtceipdmplnlogaaDoor.WPlain
end Go.Proofs.YtceipdmplnlogaaDoor.WPlain
namespace Go.Proofs.YtceipdmplnlogaaDoor.QPlain
end Go.Proofs.YtceipdmplnlogaaDoor.QPlain
namespace Go.Proofs.YtceipdmplnlogaaDoor.RPlain
end Go.Proofs.YtceipdmplnlogaaDoor.RPlain
namespace Go.Proofs.YtceipdmplnlogaaDoor.RPlain
open WPlain QPlain

theorem errL_sub {h : List Ev} {row row' : List Int} (hs : row'.Sublist row) (h0 : errL h row = 0) : errL h row' = 0 := by
  obtain ⟨h1, h2, h3⟩ := errL_zero h0
  have h4 : thereS (tableS h) row' = true := (thereS_iff _ _).2 fun i hi => (thereS_iff _ _).1 h2 i (hs.subset hi)
  have h5 : row'.Nodup := h3.sublist hs
  unfold errL
  rw [if_pos h1, if_pos h4, if_pos h5]
theorem legR_take {h : List Ev} {row : List Int} (h0 : errL h row = 0) (x k : Nat) : errL h (row.take k) = 0 ∧ legR h (row.take k) x = min (legR h row x) k := by
  have h1 := errL_sub (List.take_sublist k row) h0
  refine ⟨h1, ?_⟩
  unfold legR
  rw [if_pos h0, if_pos h1]
  unfold natsR legalS
  rw [List.map_take, legal_take]
theorem memR_filter {h : List Ev} {row : List Int} (h0 : errL h row = 0) (x : Nat) : errL h (row.filter (keepB x)) = 0 ∧ memR h (row.filter (keepB x)) x = memR h row x := by
  refine ⟨errL_sub List.filter_sublist h0, ?_⟩
  unfold memR natsR
  have h1 : (row.filter (keepB x)).map Int.toNat = (row.map Int.toNat).filter x.testBit := by
    rw [List.filter_map]
    rfl
  rw [h1, behind_filter]
theorem legR_same {h : List Ev} {rl : List Nat} {x i : Nat} (h0 : errL h (rl.map (fun x : Nat => (x : Int))) = 0) (hi : i < legR h (rl.map (fun x : Nat => (x : Int))) x) (hil : i < rl.length) (hlt : rl[i] < (tableS h).length) :
    sameR (fun _ => none) (fun _ => false) (tableS h)[rl[i]].o = true := by
  unfold legR at hi
  rw [if_pos h0, natsR_cast] at hi
  have h1 := legal_at (tableS h) x rl zeroM i hi rl[i] (List.getElem?_eq_getElem hil)
  rw [opsAtL_get hlt] at h1
  exact own_same _ _ (behindS (tableS h) x zeroM (rl.take i)) _ _ h1 (fun v _ => rfl) (fun v y hy => by cases hy)
/-- numbers of a row of Ops are such that a machine holds -/
def smallOps (ops : List Rwo) : Prop := ∀ o ∈ ops, (-9223372036854775808 ≤ o.v ∧ o.v ≤ 9223372036854775807) ∧ (-9223372036854775808 ≤ o.x ∧ o.x ≤ 9223372036854775807)
theorem opsS_any (h : List Ev) (t : Int) (h1 : ∀ e ∈ h, (-9223372036854775808 ≤ e.v ∧ e.v ≤ 9223372036854775807) ∧ (-9223372036854775808 ≤ e.x ∧ e.x ≤ 9223372036854775807)) : smallOps (opsOf h t) := by
  revert h1
  refine rev_ind (p := fun h => (∀ e ∈ h, (-9223372036854775808 ≤ e.v ∧ e.v ≤ 9223372036854775807) ∧ (-9223372036854775808 ≤ e.x ∧ e.x ≤ 9223372036854775807)) → smallOps (opsOf h t)) ?_ ?_ h
  · intro _ o ho; simp [opsOf] at ho
  · intro g e ih h1 o ho
    rw [opsOf_snoc] at ho
    have hg : ∀ e ∈ g, (-9223372036854775808 ≤ e.v ∧ e.v ≤ 9223372036854775807) ∧ (-9223372036854775808 ≤ e.x ∧ e.x ≤ 9223372036854775807) := fun x hx => h1 x (List.mem_append_left _ hx)
    have he := h1 e (by simp)
    rcases List.mem_append.1 ho with ho | ho
    · exact ih hg o ho
    · have ha := askedE_any g t (p := fun e => (-9223372036854775808 ≤ e.v ∧ e.v ≤ 9223372036854775807) ∧ (-9223372036854775808 ≤ e.x ∧ e.x ≤ 9223372036854775807)) ⟨⟨by decide, by decide⟩, ⟨by decide, by decide⟩⟩ hg
      split at ho
      · unfold opStep at ho
        split at ho
        · rw [List.mem_singleton.1 ho]; exact ⟨ha.1, he.2⟩
        · split at ho
          · rw [List.mem_singleton.1 ho]; exact ha
          · cases ho
      · cases ho
theorem table_small_ops {h : List Ev} (h0 : (checkS h).2 = 0) : ∀ i (hi : i < (tableS h).length), smallOps (tableS h)[i].o := by
  intro i hi
  have hX : (tableS h)[i] ∈ tableS h := List.getElem_mem hi
  generalize (tableS h)[i] = X at *
  obtain ⟨t, _, rfl⟩ := List.mem_map.1 hX
  have hr := (check_agree h0).1
  refine opsS_any h t fun e he => ?_
  simp only [right, Bool.and_eq_true, decide_eq_true_eq, List.all_eq_true] at hr
  have := hr.1.2 e he
  simp only [evOk, inB, Bool.and_eq_true, decide_eq_true_eq] at this
  omega
end Go.Proofs.YtceipdmplnlogaaDoor.RPlain
namespace Go.Proofs.YtceipdmplnlogaaDoor
open Go.RowKit WPlain QPlain RPlain
open Go.Maps (Keyed)

/-- how an element that is a number reads; that is a bool -/
def intE : Value → Option (DataW Unit × List MemPlace)
  | .int .i64 x => some (.lit (.int .i64 x), [])
  | _ => none
def boolE : Value → Option (DataW Unit × List MemPlace)
  | .bool b => some (.lit (.bool b), [])
  | _ => none
theorem intE_inv {v : Value} {x : Int} {ps : List MemPlace} (h : intE v = some (.lit (.int .i64 x), ps)) : v = .int .i64 x := by
  unfold intE at h
  split at h
  · simp at h; rw [h.1]
  · cases h
theorem boolE_inv {v : Value} {b : Bool} {ps : List MemPlace} (h : boolE v = some (.lit (.bool b), ps)) : v = .bool b := by
  unfold boolE at h
  split at h
  · simp at h; rw [h.1]
  · cases h
theorem zeroI (w : World) : (zeroValue 3).run Tryd.prog w = .ok (.int .i64 0) w := by kernel_rfl
theorem zeroB (w : World) : (zeroValue 4).run Tryd.prog w = .ok (.bool false) w := by kernel_rfl
/-- block M is a map that holds what S tells -/
def IMap (w : World) (M k : Nat) (S : Int → Option Int) : Prop := ∃ D, w.ownsMap Tryd.prog 3 intE M k D ∧ ∀ t : Int, (Lit.int .i64 t).wf = true → (∀ x, S t = some x → Maps.has D (.int .i64 t) = true ∧ ∀ z, D.atKey (.int .i64 t) z = .lit (.int .i64 x)) ∧ (S t = none → Maps.has D (.int .i64 t) = false)
def BMap (w : World) (M k : Nat) (S : Int → Bool) : Prop := ∃ D, w.ownsMap Tryd.prog 3 boolE M k D ∧ ∀ t : Int, (Lit.int .i64 t).wf = true → (S t = true → Maps.has D (.int .i64 t) = true ∧ ∀ z, D.atKey (.int .i64 t) z = .lit (.bool true)) ∧ (S t = false → Maps.has D (.int .i64 t) = false)
section
variable {w w' : World} {M k : Nat}
theorem IMap.start (w : World) : IMap (w.alloc (.map #[] 0)) w.heap.size 0 (fun _ => none) := ⟨.map [], World.ownsMap_made w _ _ _, fun _ _ => ⟨fun _ h => (by cases h), fun _ => rfl⟩⟩
theorem BMap.start (w : World) : BMap (w.alloc (.map #[] 0)) w.heap.size 0 (fun _ => false) := ⟨.map [], World.ownsMap_made w _ _ _, fun _ _ => ⟨fun h => (by cases h), fun _ => rfl⟩⟩
theorem IMap.lt {S : Int → Option Int} (h : IMap w M k S) : M < w.heap.size := by obtain ⟨D, ho, _⟩ := h; exact ho.lt
theorem BMap.lt {S : Int → Bool} (h : BMap w M k S) : M < w.heap.size := by obtain ⟨D, ho, _⟩ := h; exact ho.lt
theorem IMap.below {S : Int → Option Int} (h : IMap w M k S) (hb : Below w.heap.size w w') : IMap w' M k S := by
  obtain ⟨D, ho, hd⟩ := h
  exact ⟨D, ownsMap_below ho hb ho.lt, hd⟩
theorem BMap.below {S : Int → Bool} (h : BMap w M k S) (hb : Below w.heap.size w w') : BMap w' M k S := by
  obtain ⟨D, ho, hd⟩ := h
  exact ⟨D, ownsMap_below ho hb ho.lt, hd⟩
theorem IMap.kept {S : Int → Option Int} (h : IMap w M k S) {r : Option Nat} (hg : w.grownBy w' r) (hne : some M ≠ r) : IMap w' M k S := by
  obtain ⟨D, ho, hd⟩ := h
  exact ⟨D, ho.kept hg hne, hd⟩
theorem BMap.kept {S : Int → Bool} (h : BMap w M k S) {r : Option Nat} (hg : w.grownBy w' r) (hne : some M ≠ r) : BMap w' M k S := by
  obtain ⟨D, ho, hd⟩ := h
  exact ⟨D, ho.kept hg hne, hd⟩
theorem IMap.look {S : Int → Option Int} (h : IMap w M k S) {t : Int} (hw : (Lit.int .i64 t).wf = true) :
    (Instr.lookup 54 (.map (some M)) (.int .i64 t) true).run Tryd.prog w = .ok (.tuple #[.int .i64 ((S t).getD 0), .bool (S t).isSome]) w := by
  obtain ⟨D, ho, hd⟩ := h
  obtain ⟨v, ps, hr, hv⟩ := ho.look_ok intK Tryd.underlying54 (zeroI w) (zd := .lit (.int .i64 0)) (zp := []) rfl (key_int hw)
  cases hs : S t with
  | some x =>
    have h1 := (hd t hw).1 x hs
    rw [h1.1] at hr
    rw [h1.2] at hv
    rw [hr, intE_inv hv]
    rfl
  | none =>
    have h1 := (hd t hw).2 hs
    rw [h1] at hr
    rw [Maps.atKey_of_not_has h1] at hv
    rw [hr, intE_inv hv]
    rfl
theorem BMap.look {S : Int → Bool} (h : BMap w M k S) {t : Int} (hw : (Lit.int .i64 t).wf = true) :
    (Instr.lookup 55 (.map (some M)) (.int .i64 t) false).run Tryd.prog w = .ok (.bool (S t)) w := by
  obtain ⟨D, ho, hd⟩ := h
  obtain ⟨v, ps, hr, hv⟩ := ho.lookup intK Tryd.underlying55 (zeroB w) (zd := .lit (.bool false)) (zp := []) rfl (key_int hw)
  cases hs : S t with
  | true =>
    have h1 := (hd t hw).1 hs
    rw [h1.2] at hv
    rw [hr, boolE_inv hv]
  | false =>
    have h1 := (hd t hw).2 hs
    rw [Maps.atKey_of_not_has h1] at hv
    rw [hr, boolE_inv hv]
theorem IMap.set {S : Int → Option Int} (h : IMap w M k S) {t : Int} (hw : (Lit.int .i64 t).wf = true) (x : Int) (hk : k ≤ 65536) :
    ∃ w', (Instr.mapUpdate 54 (.map (some M)) (.int .i64 t) (.int .i64 x)).run Tryd.prog w = .ok () w' ∧ IMap w' M (k + 1) (fun u => if u = t then some x else S u) ∧ w.grownBy w' (some M) := by
  obtain ⟨D, ho, hd⟩ := h
  obtain ⟨w', hr, ho', hg⟩ := ho.update intK Tryd.underlying54 (by unfold maxLen; omega) (key_int hw) (show intE (.int .i64 x) = some (.lit (.int .i64 x), []) from rfl)
  refine ⟨w', hr, ⟨_, ho', fun u hu => ⟨fun y hy => ?_, fun hn => ?_⟩⟩, hg⟩
  · dsimp only at hy
    by_cases he : u = t
    · subst he
      rw [if_pos rfl] at hy
      rw [← Option.some.inj hy]
      exact ⟨Maps.has_put_same ho.isMap (intK.key (key_int hw)) _, fun z => Maps.atKey_put_same ho.isMap (intK.key (key_int hw)) _ _⟩
    · rw [if_neg he] at hy
      have hkne : (Lit.int .i64 u) ≠ (.int .i64 t) := fun hc => he (by simpa using hc)
      exact ⟨(Maps.has_put_other hkne _).trans ((hd u hu).1 y hy).1, fun z => (Maps.atKey_put_other hkne _ _).trans (((hd u hu).1 y hy).2 z)⟩
  · dsimp only at hn
    by_cases he : u = t
    · rw [if_pos he] at hn; cases hn
    · rw [if_neg he] at hn
      exact (Maps.has_put_other (fun hc => he (by simpa using hc)) _).trans ((hd u hu).2 hn)
theorem BMap.set {S : Int → Bool} (h : BMap w M k S) {t : Int} (hw : (Lit.int .i64 t).wf = true) (hk : k ≤ 65536) :
    ∃ w', (Instr.mapUpdate 55 (.map (some M)) (.int .i64 t) (.bool true)).run Tryd.prog w = .ok () w' ∧ BMap w' M (k + 1) (fun u => if u = t then true else S u) ∧ w.grownBy w' (some M) := by
  obtain ⟨D, ho, hd⟩ := h
  obtain ⟨w', hr, ho', hg⟩ := ho.update intK Tryd.underlying55 (by unfold maxLen; omega) (key_int hw) (show boolE (.bool true) = some (.lit (.bool true), []) from rfl)
  refine ⟨w', hr, ⟨_, ho', fun u hu => ⟨fun hy => ?_, fun hn => ?_⟩⟩, hg⟩
  · dsimp only at hy
    by_cases he : u = t
    · subst he
      exact ⟨Maps.has_put_same ho.isMap (intK.key (key_int hw)) _, fun z => Maps.atKey_put_same ho.isMap (intK.key (key_int hw)) _ _⟩
    · rw [if_neg he] at hy
      have hkne : (Lit.int .i64 u) ≠ (.int .i64 t) := fun hc => he (by simpa using hc)
      exact ⟨(Maps.has_put_other hkne _).trans ((hd u hu).1 hy).1, fun z => (Maps.atKey_put_other hkne _ _).trans (((hd u hu).1 hy).2 z)⟩
  · dsimp only at hn
    by_cases he : u = t
    · rw [if_pos he] at hn; cases hn
    · rw [if_neg he] at hn
      exact (Maps.has_put_other (fun hc => he (by simpa using hc)) _).trans ((hd u hu).2 hn)
end
set_option maxRecDepth 100000 in
theorem delete_ints (B N : Nat) (v : Value) (xs : List Int) (x : Nat) (w : World) (hrow : w.ownsRow B 3 1 v xs.length (ints xs)) (hl : xs.length ≤ 65536) (hp : ∀ t ∈ xs, 0 ≤ t ∧ t < 32) (hx : x < 4294967296) (hN : N < B) (hB : B ≤ w.heap.size) (hc : w.cell? ⟨N, 0, none⟩ = some (.int .u32 (x : Int))) :
    Calls Tryd.prog 20 #[v, .func (.func 22) #[] #[.pointer (some ⟨N, 0, none⟩)]] w fun e w' => ∃ v', e = .returned v' ∧ Rd w' v' (ints (xs.filter (keepB x))) ∧ Below B w w' := by
  rcases hrow.2 with ⟨rfl, hn⟩ | ⟨g, cap, cur, rfl, hb, hg, hcap, hm, hs, ht⟩
  · have h0 : xs = [] := List.length_eq_zero_iff.1 hn
    subst h0
    have HIX := Lib.hid (indexK_any _ [] x N w (Rd.of_row hrow) hl hp hx hc)
    clear hrow hc hp
    go_enter Tryd.func20, Tryd.ntmps20
    go_wp2_with fail
    refine HIX.out.mono ?_
    rintro e w1 ⟨rfl, hcase⟩
    rcases hcase with ⟨rfl, -⟩ | ⟨i0, rfl, hi0, -, -⟩
    · go_wp2
      refine bodyPost_ret (v := .slice none 0 0) (by simp [results, Tryd.results20, go_sem]) rfl ⟨_, rfl, .inl ⟨rfl, _, _, rfl⟩, Below.refl _ _⟩
    · exact absurd hi0 (Nat.not_lt_zero _)
  · refine (deleteG_any B g cap N xs x w hrow hl hcap hp hx hN hB hc).mono ?_
    rintro e w' ⟨h1, rfl, h2⟩
    exact ⟨_, rfl, h2, h1⟩
end Go.Proofs.YtceipdmplnlogaaDoor
