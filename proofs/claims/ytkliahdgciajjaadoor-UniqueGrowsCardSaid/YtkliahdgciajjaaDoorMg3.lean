/- Merged: PrpE, PrpF, PrpH. -/
import Derived.Test.YtkliahdgciajjaaDoorPrpD
import Derived.Test.YtkliahdgciajjaaDoorMg1
import Derived.Sort.KeysCollected
/- The walk of Check. -/
namespace Go.Proofs.YtkliahdgciajjaaDoor.WPlain
end Go.Proofs.YtkliahdgciajjaaDoor.WPlain
namespace Go.Proofs.YtkliahdgciajjaaDoor.QPlain
end Go.Proofs.YtkliahdgciajjaaDoor.QPlain
namespace Go.Proofs.YtkliahdgciajjaaDoor
open Go.RowKit WPlain QPlain

theorem check_any (v : Value) (h : List Ev) (w : World) (hK : HasK w) (hv : Evs w v h) (hl : h.length ≤ 65536) :
    Calls Tryd.prog 31 #[v] w fun e w' => e = .returned (.tuple #[.int .i64 ((checkS h).1 : Nat), .int .i64 ((checkS h).2 : Nat)]) ∧ Below w.heap.size w w' := by
  have HF := Lib.hid (follow_any v h w hK hv hl)
  obtain ⟨a, c, rfl⟩ := hv.len
  clear hv hK
  unfold Fol at HF
  generalize checkS h = C at *
  generalize flw0 h = Z at *
  obtain ⟨n, er⟩ := C
  dsimp only at HF ⊢
  go_enter Tryd.func31, Tryd.ntmps31
  go_wp2_with fail
  refine HF.out.mono ?_
  rintro e w1 ⟨hb, h1, h2⟩
  by_cases h0 : er = 0
  · obtain ⟨S, m, rfl, _⟩ := h2 h0
    subst h0
    clear h1 h2
    go_wp2
    exact bodyPost_ret (v := .tuple #[.int .i64 n, .int .i64 0]) (by simp [results, Tryd.results31, go_sem]) rfl ⟨rfl, hb⟩
  · obtain rfl := h1 h0
    clear h1 h2
    go_wp2
    exact bodyPost_ret (v := .tuple #[.int .i64 n, .int .i64 er]) (by simp [results, Tryd.results31, go_sem]) rfl ⟨rfl, hb⟩
end Go.Proofs.YtkliahdgciajjaaDoor
/- Plain words: the kinds that may come next, collected and sorted. -/
namespace Go.Proofs.YtkliahdgciajjaaDoor.WPlain
end Go.Proofs.YtkliahdgciajjaaDoor.WPlain
namespace Go.Proofs.YtkliahdgciajjaaDoor.QPlain
open WPlain

/-- the kinds that may come next in a state, rising -/
def kindsS (s : Nat) : List Int := (mvs.getD s []).map fun p => (p.1 : Int)
/-- the kinds met so far -/
def Coll (s : Nat) (left : Lit → Bool) (ss : List Int) : Prop := ss.Nodup ∧ ∀ x : Int, x ∈ ss ↔ (Maps.has (rowD s) (.int .i64 x) = true ∧ left (.int .i64 x) = false)
theorem Coll.start (s : Nat) : Coll s (Maps.has (rowD s)) [] := ⟨List.nodup_nil, fun x => by cases Maps.has (rowD s) (.int .i64 x) <;> simp⟩
theorem Coll.step {s : Nat} {left : Lit → Bool} {ss : List Int} (h : Coll s left ss) {x : Int} {y : DataW Unit} (hlk : left (.int .i64 x) = true) (hat : ∀ zd, (rowD s).atKey (.int .i64 x) zd = y) :
    Coll s (fun z => left z && !z.sameKey (.int .i64 x)) (ss ++ [x]) := by
  have hhas : Maps.has (rowD s) (.int .i64 x) = true := Maps.has_true_of_atKey hat
  have hnew : x ∉ ss := fun hx => by have := ((h.2 x).1 hx).2; rw [hlk] at this; cases this
  refine ⟨List.nodup_append.2 ⟨h.1, by simp, fun a ha b hb => by simp at hb; subst hb; exact fun e => hnew (e ▸ ha)⟩, fun y => ?_⟩
  by_cases hy : y = x
  · subst hy; simp [hhas, Lit.sameKey]
  · simp [h.2 y, hy, Lit.sameKey]
theorem row_keys {s : Nat} (h8 : s < 8) : ∃ es, rowD s = .map es ∧ es.map (·.1) = (kindsS s).map (Lit.int .i64) := by
  rcases eight h8 with rfl | rfl | rfl | rfl | rfl | rfl | rfl | rfl <;> exact ⟨_, rfl, rfl⟩
theorem kinds_has {s : Nat} (h8 : s < 8) (x : Int) : x ∈ kindsS s ↔ Maps.has (rowD s) (.int .i64 x) = true := by
  obtain ⟨es, h1, h2⟩ := row_keys h8
  rw [h1, Maps.has_eq]
  have h3 : es.any (fun p => p.1.sameKey (.int .i64 x)) = (es.map (·.1)).any (fun l => l.sameKey (.int .i64 x)) := by rw [List.any_map]; rfl
  rw [h3, h2, List.any_map, List.any_eq_true]
  simp [Lit.sameKey]
end Go.Proofs.YtkliahdgciajjaaDoor.QPlain
/- Plain words: the document's answer, from the last event of a transaction; and that it is the states' answer. -/
namespace Go.Proofs.YtkliahdgciajjaaDoor.WPlain
end Go.Proofs.YtkliahdgciajjaaDoor.WPlain
namespace Go.Proofs.YtkliahdgciajjaaDoor.QPlain
open WPlain

/-- the kind of a transaction's last event; -1: it has none -/
def lastOf (h : List Ev) (t : Int) : Int := h.foldl (fun o e => if e.t = t then e.k else o) (-1)
/-- may a kind come behind another one? -/
def mayS (l k : Int) : Bool :=
  if l = -1 then k == 0 else if l = 0 then (k == 1 || k == 9) else if l = 1 ∨ l = 3 ∨ l = 5 then (k == 2 || k == 4 || k == 6 || k == 8)
  else if l = 2 then (k == 3 || k == 9) else if l = 4 then (k == 5 || k == 9) else if l = 6 then (k == 7 || k == 9) else if l = 8 then k == 9 else false
/-- the place of the first event that may not be there, behind others -/
def firstG (pre : List Ev) : List Ev → Nat
  | [] => pre.length
  | e :: r => if mayS (lastOf pre e.t) e.k = true then firstG (pre ++ [e]) r else pre.length
def firstS (h : List Ev) : Nat := firstG [] h
/-- the state behind a kind -/
def stOfL (l : Int) : Nat := if l = -1 then 0 else if l = 0 then 1 else if l = 1 ∨ l = 3 ∨ l = 5 then 2 else if l = 2 then 3 else if l = 4 then 4 else if l = 6 then 5 else if l = 8 then 6 else 7
theorem lastOf_snoc (h : List Ev) (e : Ev) (t : Int) : lastOf (h ++ [e]) t = if e.t = t then e.k else lastOf h t := by simp [lastOf]
theorem lastOf_range {h : List Ev} (hh : ∀ e ∈ h, 0 ≤ e.k ∧ e.k < 10) (t : Int) : -1 ≤ lastOf h t ∧ lastOf h t < 10 := by
  have hg : ∀ (l : List Ev) (o : Int), (∀ e ∈ l, 0 ≤ e.k ∧ e.k < 10) → -1 ≤ o ∧ o < 10 → -1 ≤ l.foldl (fun o e => if e.t = t then e.k else o) o ∧ l.foldl (fun o e => if e.t = t then e.k else o) o < 10 := by
    intro l
    induction l with
    | nil => intro o _ ho; exact ho
    | cons e r ih =>
      intro o hl ho
      simp only [List.foldl_cons]
      refine ih _ (fun x hx => hl x (List.mem_cons_of_mem _ hx)) ?_
      have := hl e (List.mem_cons_self ..)
      split <;> omega
  exact hg h (-1) hh (by omega)
theorem lasts {l : Int} (h : -1 ≤ l ∧ l < 10) : l = -1 ∨ l = 0 ∨ l = 1 ∨ l = 2 ∨ l = 3 ∨ l = 4 ∨ l = 5 ∨ l = 6 ∨ l = 7 ∨ l = 8 ∨ l = 9 := by omega
theorem tenI {k : Int} (h : 0 ≤ k ∧ k < 10) : k = 0 ∨ k = 1 ∨ k = 2 ∨ k = 3 ∨ k = 4 ∨ k = 5 ∨ k = 6 ∨ k = 7 ∨ k = 8 ∨ k = 9 := by omega
theorem may_mv {l k : Int} (hl : -1 ≤ l ∧ l < 10) (hk : 0 ≤ k ∧ k < 10) : mayS l k = (mv (stOfL l) k.toNat).isSome ∧ ∀ s, mv (stOfL l) k.toNat = some s → s = stOfL k := by
  have hall : ∀ l ∈ [(-1 : Int), 0, 1, 2, 3, 4, 5, 6, 7, 8, 9], ∀ k ∈ [(0 : Int), 1, 2, 3, 4, 5, 6, 7, 8, 9], mayS l k = (mv (stOfL l) k.toNat).isSome ∧ (mv (stOfL l) k.toNat).all (fun s => s == stOfL k) = true := by decide +kernel
  have h1 : l ∈ [(-1 : Int), 0, 1, 2, 3, 4, 5, 6, 7, 8, 9] := by simp; omega
  have h2 : k ∈ [(0 : Int), 1, 2, 3, 4, 5, 6, 7, 8, 9] := by simp; omega
  obtain ⟨h3, h4⟩ := hall l h1 k h2
  refine ⟨h3, fun s hs => ?_⟩
  rw [hs] at h4
  simpa using h4
theorem stOfL_lt (l : Int) : stOfL l < 8 := by unfold stOfL; repeat' split
                                               all_goals omega
/-- the states are those behind the last kinds -/
def Agree (F : Int → Nat) (pre : List Ev) : Prop := ∀ t, F t = stOfL (lastOf pre t)
theorem Agree.start : Agree (fun _ => 0) [] := fun _ => rfl
theorem Agree.step {F : Int → Nat} {pre : List Ev} {e : Ev} {s : Nat} (h : Agree F pre) (hpre : ∀ e ∈ pre, 0 ≤ e.k ∧ e.k < 10) (he : 0 ≤ e.k ∧ e.k < 10) (hs : mv (F e.t) e.k.toNat = some s) : Agree (upd F e.t s) (pre ++ [e]) := by
  intro t
  rw [lastOf_snoc]
  unfold upd
  by_cases ht : t = e.t
  · subst ht
    rw [if_pos rfl, if_pos rfl]
    rw [h e.t] at hs
    exact (may_mv (lastOf_range hpre e.t) he).2 s hs
  · rw [if_neg ht, if_neg (fun hc => ht hc.symm)]
    exact h t
theorem flw_first : ∀ (r pre : List Ev) (F : Int → Nat), Agree F pre → (∀ e ∈ pre, 0 ≤ e.k ∧ e.k < 10) → (∀ e ∈ r, 0 ≤ e.k ∧ e.k < 10) →
    (flw F pre.length r).2.1 = firstG pre r ∧ ((flw F pre.length r).2.2 = decide (firstG pre r = (pre ++ r).length)) ∧ firstG pre r ≤ (pre ++ r).length ∧ ((flw F pre.length r).2.2 = true → Agree (flw F pre.length r).1 (pre ++ r)) := by
  intro r
  induction r with
  | nil =>
    intro pre F hA _ _
    simp only [flw, firstG, List.append_nil]
    exact ⟨trivial, by simp, Nat.le_refl _, fun _ => hA⟩
  | cons e r ih =>
    intro pre F hA hpre hr
    have he := hr e (List.mem_cons_self ..)
    have hm := may_mv (lastOf_range hpre e.t) he
    rw [← hA e.t] at hm
    unfold firstG
    cases hmv : mv (F e.t) e.k.toNat with
    | none =>
      rw [hmv] at hm
      rw [flw_none hmv, if_neg (by rw [hm.1]; simp)]
      refine ⟨rfl, ?_, by simp, fun hc => by simp at hc⟩
      symm
      simp
    | some s =>
      rw [hmv] at hm
      rw [flw_some hmv, if_pos (by rw [hm.1]; rfl)]
      have := ih (pre ++ [e]) (upd F e.t s) (hA.step hpre he hmv) (fun x hx => by
        rcases List.mem_append.1 hx with hx | hx
        · exact hpre x hx
        · rw [List.mem_singleton.1 hx]; exact he) (fun x hx => hr x (List.mem_cons_of_mem _ hx))
      rw [List.length_append, List.length_singleton] at this
      simpa [List.append_assoc] using this
theorem check_first {h : List Ev} (hr : right h = true) : checkS h = if firstS h = h.length then (h.length, 0) else (firstS h, 6) := by
  have hk := (right_evs hr).2
  obtain ⟨h1, h2, _⟩ := flw_first h [] _ Agree.start (fun _ hc => by cases hc) (fun e he => (hk e he).1)
  unfold checkS firstS flw0
  rw [if_pos hr]
  simp only [List.length_nil, List.nil_append] at h1 h2
  rw [h2, h1]
  by_cases he : firstG [] h = h.length
  · simp [he]
  · simp [he]
theorem first_le {h : List Ev} (hr : right h = true) : firstS h ≤ h.length := by
  have hk := (right_evs hr).2
  unfold firstS
  simpa using (flw_first h [] _ Agree.start (fun _ hc => by cases hc) (fun e he => (hk e he).1)).2.2.1
theorem check_agree {h : List Ev} (hc : (checkS h).2 = 0) : right h = true ∧ Agree (flw0 h).1 h ∧ (flw0 h).2.2 = true := by
  cases hr : right h with
  | false => unfold checkS at hc; rw [hr] at hc; simp at hc
  | true =>
    have hk := (right_evs hr).2
    obtain ⟨h1, h2, _, h4⟩ := flw_first h [] _ Agree.start (fun _ hc => by cases hc) (fun e he => (hk e he).1)
    unfold checkS at hc
    rw [if_pos hr] at hc
    have h5 : (flw0 h).2.2 = true := by
      cases h6 : (flw0 h).2.2 with
      | true => rfl
      | false => rw [h6] at hc; simp at hc
    exact ⟨rfl, by simpa [flw0] using h4 h5, h5⟩
theorem kinds_may {l : Int} (hl : -1 ≤ l ∧ l < 10) : ((List.range 10).map Int.ofNat).filter (fun k => mayS l k) = kindsS (stOfL l) := by
  rcases lasts hl with rfl | rfl | rfl | rfl | rfl | rfl | rfl | rfl | rfl | rfl | rfl <;> decide +kernel
end Go.Proofs.YtkliahdgciajjaaDoor.QPlain
