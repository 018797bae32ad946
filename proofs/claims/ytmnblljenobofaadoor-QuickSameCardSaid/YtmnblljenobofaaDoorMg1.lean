/- Merged: PlainB, TxtA, PrpA, PrpF, PrpH, TabA, LegA. -/
import Derived.Below
import Derived.Lib.Strings
import Derived.Lib.ItoaLen
import Derived.Maps.OwnSet
import Derived.Sort.KeysCollected
/- Plain numbers' texts: no program in sight. -/
namespace Go.Proofs.YtmnblljenobofaaDoor.WPlain

def vstep (n : Int) (c : UInt8) : Int := n * 10 + ((c.toNat : Int) - 48)
def val (l : List UInt8) : Int := l.foldl vstep 0
/-- a rule of growing lists -/
theorem snoc_ind {P : List UInt8 → Prop} (h0 : P []) (h1 : ∀ l c, P l → P (l ++ [c])) (l : List UInt8) : P l := by
  have : ∀ n, ∀ l : List UInt8, l.length = n → P l := by
    intro n
    induction n with
    | zero => intro l hl; rw [List.length_eq_zero_iff.1 hl]; exact h0
    | succ n ih =>
      intro l hl
      have hne : l ≠ [] := by intro h; rw [h] at hl; simp at hl
      rw [← List.dropLast_concat_getLast hne]
      exact h1 _ _ (ih _ (by rw [List.length_dropLast]; omega))
  exact this _ l rfl

end Go.Proofs.YtmnblljenobofaaDoor.WPlain
/- Plain events and lines: no program in sight. -/
namespace Go.Proofs.YtmnblljenobofaaDoor.WPlain

/-- an event: kind, transaction, variable, value -/
structure Ev where
  k : Int
  t : Int
  v : Int
  x : Int
  deriving DecidableEq

/-- the kinds' words -/
def kwords : List (List UInt8) := [[98, 101, 103, 105, 110], [98, 101, 103, 117, 110], [114, 101, 97, 100], [103, 111, 116], [119, 114, 105, 116, 101], [119, 114, 111, 116, 101], [99, 111, 109, 109, 105, 116], [99, 111, 109, 109, 105, 116, 116, 101, 100], [99, 97, 110, 99, 101, 108], [97, 98, 111, 114, 116, 101, 100]]
def hasV (k : Nat) : Bool := k == 2 || k == 4
def hasX (k : Nat) : Bool := k == 3 || k == 4

def inB (n lo hi : Int) : Bool := decide (lo ≤ n) && decide (n ≤ hi)
def addName (a : List Int) (n : Int) : List Int := if a.contains n = true then a else a ++ [n]
/-- the transactions' names, once each -/
def namesOf (h : List Ev) : List Int := h.foldl (fun a e => addName a e.t) []
/-- may an event be? -/
def evOk (e : Ev) : Bool := inB e.k 0 9 && ((hasV e.k.toNat || e.v == 0) && (hasX e.k.toNat || e.x == 0)) && (inB e.t 0 9999 && inB e.v 0 7 && inB e.x (-2147483648) 2147483647)
def right (h : List Ev) : Bool := decide (h.length ≤ 60) && h.all evOk && decide ((namesOf h).length ≤ 6)
theorem namesOf_snoc (h : List Ev) (e : Ev) : namesOf (h ++ [e]) = addName (namesOf h) e.t := by simp [namesOf]
theorem addName_len (a : List Int) (n : Int) : (addName a n).length ≤ a.length + 1 := by unfold addName; split <;> simp
theorem namesOf_len (h : List Ev) : (namesOf h).length ≤ h.length := by
  have : ∀ (h : List Ev) (a : List Int), (h.foldl (fun a e => addName a e.t) a).length ≤ a.length + h.length := by
    intro h
    induction h with
    | nil => intro a; simp
    | cons e r ih => intro a; have h1 := ih (addName a e.t); have h2 := addName_len a e.t; simp only [List.foldl_cons, List.length_cons]; omega
  have h0 := this h []
  simpa [namesOf] using h0
end Go.Proofs.YtmnblljenobofaaDoor.WPlain
/- Plain words of events that may be there: no program in sight. -/
namespace Go.Proofs.YtmnblljenobofaaDoor.WPlain
end Go.Proofs.YtmnblljenobofaaDoor.WPlain
namespace Go.Proofs.YtmnblljenobofaaDoor.QPlain
open WPlain

/-- the kinds that may come next in each state, and the state behind each -/
def mvs : List (List (Nat × Nat)) := [[(0, 1)], [(1, 2), (9, 7)], [(2, 3), (4, 4), (6, 5), (8, 6)], [(3, 2), (9, 7)], [(5, 2), (9, 7)], [(7, 7), (9, 7)], [(9, 7)], []]
def mv (s k : Nat) : Option Nat := (mvs.getD s []).lookup k
/-- .. as a map reads -/
def rowD (s : Nat) : DataW Unit := (mvs.getD s []).foldl (fun m p => m.put (.int .i64 (p.1 : Int)) (.lit (.int .i64 (p.2 : Int)))) (.map [])
theorem eight {s : Nat} (h : s < 8) : s = 0 ∨ s = 1 ∨ s = 2 ∨ s = 3 ∨ s = 4 ∨ s = 5 ∨ s = 6 ∨ s = 7 := by omega
theorem tenk {k : Nat} (h : k < 10) : k = 0 ∨ k = 1 ∨ k = 2 ∨ k = 3 ∨ k = 4 ∨ k = 5 ∨ k = 6 ∨ k = 7 ∨ k = 8 ∨ k = 9 := by omega
theorem row_at {s k : Nat} (hs : s < 8) (hk : k < 10) (z : DataW Unit) : (rowD s).atKey (.int .i64 (k : Int)) z = (match mv s k with | some n => .lit (.int .i64 (n : Int)) | none => z) := by
  rcases eight hs with rfl | rfl | rfl | rfl | rfl | rfl | rfl | rfl <;> rcases tenk hk with rfl | rfl | rfl | rfl | rfl | rfl | rfl | rfl | rfl | rfl <;> rfl
theorem row_has {s k : Nat} (hs : s < 8) (hk : k < 10) : Maps.has (rowD s) (.int .i64 (k : Int)) = (mv s k).isSome := by
  rcases eight hs with rfl | rfl | rfl | rfl | rfl | rfl | rfl | rfl <;> rcases tenk hk with rfl | rfl | rfl | rfl | rfl | rfl | rfl | rfl | rfl | rfl <;> rfl
theorem mv_lt {s k n : Nat} (hs : s < 8) (hk : k < 10) (h : mv s k = some n) : n < 8 := by
  have hall : ∀ s, s < 8 → ∀ k, k < 10 → (mv s k).all (fun n => decide (n < 8)) = true := by decide +kernel
  have := hall s hs k hk
  rw [h] at this
  simpa using this
/-- the states behind one more event; behind events, or the place of the first that may not be there -/
def upd (F : Int → Nat) (t : Int) (s : Nat) : Int → Nat := fun u => if u = t then s else F u
def flw (F : Int → Nat) (i : Nat) : List Ev → (Int → Nat) × Nat × Bool
  | [] => (F, i, true)
  | e :: r => match mv (F e.t) e.k.toNat with
    | none => (F, i, false)
    | some s => flw (upd F e.t s) (i + 1) r
def flw0 (h : List Ev) : (Int → Nat) × Nat × Bool := flw (fun _ => 0) 0 h
/-- how many events; or the error, and the place -/
def checkS (h : List Ev) : Nat × Nat := if right h = true then (if (flw0 h).2.2 = true then (h.length, 0) else ((flw0 h).2.1, 6)) else (0, 1)
theorem flw_none {F : Int → Nat} {i : Nat} {e : Ev} {r : List Ev} (h : mv (F e.t) e.k.toNat = none) : flw F i (e :: r) = (F, i, false) := by unfold flw; rw [h]
theorem flw_some {F : Int → Nat} {i : Nat} {e : Ev} {r : List Ev} {s : Nat} (h : mv (F e.t) e.k.toNat = some s) : flw F i (e :: r) = flw (upd F e.t s) (i + 1) r := by rw [flw, h]
theorem right_evs {h : List Ev} (hr : right h = true) : h.length ≤ 60 ∧ ∀ e ∈ h, (0 ≤ e.k ∧ e.k < 10) ∧ (0 ≤ e.t ∧ e.t ≤ 9999) := by
  simp only [right, Bool.and_eq_true, decide_eq_true_eq, List.all_eq_true] at hr
  refine ⟨hr.1.1, fun e he => ?_⟩
  have := hr.1.2 e he
  simp only [evOk, inB, Bool.and_eq_true, decide_eq_true_eq] at this
  omega
end Go.Proofs.YtmnblljenobofaaDoor.QPlain
/- Plain words: the kinds that may come next, collected and sorted. -/
namespace Go.Proofs.YtmnblljenobofaaDoor.WPlain
end Go.Proofs.YtmnblljenobofaaDoor.WPlain
namespace Go.Proofs.YtmnblljenobofaaDoor.QPlain
open WPlain

/-- the kinds met so far -/
def Coll (s : Nat) (left : Lit → Bool) (ss : List Int) : Prop := ss.Nodup ∧ ∀ x : Int, x ∈ ss ↔ (Maps.has (rowD s) (.int .i64 x) = true ∧ left (.int .i64 x) = false)
theorem Coll.start (s : Nat) : Coll s (Maps.has (rowD s)) [] := ⟨List.nodup_nil, fun x => by cases Maps.has (rowD s) (.int .i64 x) <;> simp⟩
theorem Coll.step {s : Nat} {left : Lit → Bool} {ss : List Int} (h : Coll s left ss) {x : Int} {y : DataW Unit} (hlk : left (.int .i64 x) = true) (hat : ∀ zd, (rowD s).atKey (.int .i64 x) zd = y) :
    Coll s (fun z => left z && !z.sameKey (.int .i64 x)) (ss ++ [x]) := by
  have hhas : Maps.has (rowD s) (.int .i64 x) = true := Maps.has_true_of_atKey hat
  have hnew : x ∉ ss := fun hx => by have := ((h.2 x).1 hx).2; rw [hlk] at this; cases this
  refine ⟨List.nodup_append.2 ⟨h.1, by simp, fun a ha b hb => by simp at hb; subst hb; exact fun e => hnew (e ▸ ha)⟩, fun y => ?_⟩
  by_cases hy : y = x
  · subst hy; simp [hhas, Lit.sameKey]
  · simp [h.2 y, hy, Lit.sameKey]
end Go.Proofs.YtmnblljenobofaaDoor.QPlain
/- Plain words: the document's answer, from the last event of a transaction; and that it is the states' answer. -/
namespace Go.Proofs.YtmnblljenobofaaDoor.WPlain
end Go.Proofs.YtmnblljenobofaaDoor.WPlain
namespace Go.Proofs.YtmnblljenobofaaDoor.QPlain
open WPlain

/-- the kind of a transaction's last event; -1: it has none -/
def lastOf (h : List Ev) (t : Int) : Int := h.foldl (fun o e => if e.t = t then e.k else o) (-1)
/-- may a kind come behind another one? -/
def mayS (l k : Int) : Bool :=
  if l = -1 then k == 0 else if l = 0 then (k == 1 || k == 9) else if l = 1 ∨ l = 3 ∨ l = 5 then (k == 2 || k == 4 || k == 6 || k == 8)
  else if l = 2 then (k == 3 || k == 9) else if l = 4 then (k == 5 || k == 9) else if l = 6 then (k == 7 || k == 9) else if l = 8 then k == 9 else false
/-- the place of the first event that may not be there, behind others -/
def firstG (pre : List Ev) : List Ev → Nat
  | [] => pre.length
  | e :: r => if mayS (lastOf pre e.t) e.k = true then firstG (pre ++ [e]) r else pre.length
def firstS (h : List Ev) : Nat := firstG [] h
/-- the state behind a kind -/
def stOfL (l : Int) : Nat := if l = -1 then 0 else if l = 0 then 1 else if l = 1 ∨ l = 3 ∨ l = 5 then 2 else if l = 2 then 3 else if l = 4 then 4 else if l = 6 then 5 else if l = 8 then 6 else 7
theorem lastOf_snoc (h : List Ev) (e : Ev) (t : Int) : lastOf (h ++ [e]) t = if e.t = t then e.k else lastOf h t := by simp [lastOf]
theorem lastOf_range {h : List Ev} (hh : ∀ e ∈ h, 0 ≤ e.k ∧ e.k < 10) (t : Int) : -1 ≤ lastOf h t ∧ lastOf h t < 10 := by
  have hg : ∀ (l : List Ev) (o : Int), (∀ e ∈ l, 0 ≤ e.k ∧ e.k < 10) → -1 ≤ o ∧ o < 10 → -1 ≤ l.foldl (fun o e => if e.t = t then e.k else o) o ∧ l.foldl (fun o e => if e.t = t then e.k else o) o < 10 := by
    intro l
    induction l with
    | nil => intro o _ ho; exact ho
    | cons e r ih =>
      intro o hl ho
      simp only [List.foldl_cons]
      refine ih _ (fun x hx => hl x (List.mem_cons_of_mem _ hx)) ?_
      have := hl e (List.mem_cons_self ..)
      split <;> omega
  exact hg h (-1) hh (by omega)
theorem may_mv {l k : Int} (hl : -1 ≤ l ∧ l < 10) (hk : 0 ≤ k ∧ k < 10) : mayS l k = (mv (stOfL l) k.toNat).isSome ∧ ∀ s, mv (stOfL l) k.toNat = some s → s = stOfL k := by
  have hall : ∀ l ∈ [(-1 : Int), 0, 1, 2, 3, 4, 5, 6, 7, 8, 9], ∀ k ∈ [(0 : Int), 1, 2, 3, 4, 5, 6, 7, 8, 9], mayS l k = (mv (stOfL l) k.toNat).isSome ∧ (mv (stOfL l) k.toNat).all (fun s => s == stOfL k) = true := by decide +kernel
  have h1 : l ∈ [(-1 : Int), 0, 1, 2, 3, 4, 5, 6, 7, 8, 9] := by simp; omega
  have h2 : k ∈ [(0 : Int), 1, 2, 3, 4, 5, 6, 7, 8, 9] := by simp; omega
  obtain ⟨h3, h4⟩ := hall l h1 k h2
  refine ⟨h3, fun s hs => ?_⟩
  rw [hs] at h4
  simpa using h4
/-- the states are those behind the last kinds -/
def Agree (F : Int → Nat) (pre : List Ev) : Prop := ∀ t, F t = stOfL (lastOf pre t)
theorem Agree.start : Agree (fun _ => 0) [] := fun _ => rfl
theorem Agree.step {F : Int → Nat} {pre : List Ev} {e : Ev} {s : Nat} (h : Agree F pre) (hpre : ∀ e ∈ pre, 0 ≤ e.k ∧ e.k < 10) (he : 0 ≤ e.k ∧ e.k < 10) (hs : mv (F e.t) e.k.toNat = some s) : Agree (upd F e.t s) (pre ++ [e]) := by
  intro t
  rw [lastOf_snoc]
  unfold upd
  by_cases ht : t = e.t
  · subst ht
    rw [if_pos rfl, if_pos rfl]
    rw [h e.t] at hs
    exact (may_mv (lastOf_range hpre e.t) he).2 s hs
  · rw [if_neg ht, if_neg (fun hc => ht hc.symm)]
    exact h t
theorem flw_first : ∀ (r pre : List Ev) (F : Int → Nat), Agree F pre → (∀ e ∈ pre, 0 ≤ e.k ∧ e.k < 10) → (∀ e ∈ r, 0 ≤ e.k ∧ e.k < 10) →
    (flw F pre.length r).2.1 = firstG pre r ∧ ((flw F pre.length r).2.2 = decide (firstG pre r = (pre ++ r).length)) ∧ firstG pre r ≤ (pre ++ r).length ∧ ((flw F pre.length r).2.2 = true → Agree (flw F pre.length r).1 (pre ++ r)) := by
  intro r
  induction r with
  | nil =>
    intro pre F hA _ _
    simp only [flw, firstG, List.append_nil]
    exact ⟨trivial, by simp, Nat.le_refl _, fun _ => hA⟩
  | cons e r ih =>
    intro pre F hA hpre hr
    have he := hr e (List.mem_cons_self ..)
    have hm := may_mv (lastOf_range hpre e.t) he
    rw [← hA e.t] at hm
    unfold firstG
    cases hmv : mv (F e.t) e.k.toNat with
    | none =>
      rw [hmv] at hm
      rw [flw_none hmv, if_neg (by rw [hm.1]; simp)]
      refine ⟨rfl, ?_, by simp, fun hc => by simp at hc⟩
      symm
      simp
    | some s =>
      rw [hmv] at hm
      rw [flw_some hmv, if_pos (by rw [hm.1]; rfl)]
      have := ih (pre ++ [e]) (upd F e.t s) (hA.step hpre he hmv) (fun x hx => by
        rcases List.mem_append.1 hx with hx | hx
        · exact hpre x hx
        · rw [List.mem_singleton.1 hx]; exact he) (fun x hx => hr x (List.mem_cons_of_mem _ hx))
      rw [List.length_append, List.length_singleton] at this
      simpa [List.append_assoc] using this
theorem check_first {h : List Ev} (hr : right h = true) : checkS h = if firstS h = h.length then (h.length, 0) else (firstS h, 6) := by
  have hk := (right_evs hr).2
  obtain ⟨h1, h2, _⟩ := flw_first h [] _ Agree.start (fun _ hc => by cases hc) (fun e he => (hk e he).1)
  unfold checkS firstS flw0
  rw [if_pos hr]
  simp only [List.length_nil, List.nil_append] at h1 h2
  rw [h2, h1]
  by_cases he : firstG [] h = h.length
  · simp [he]
  · simp [he]
theorem check_agree {h : List Ev} (hc : (checkS h).2 = 0) : right h = true ∧ Agree (flw0 h).1 h ∧ (flw0 h).2.2 = true := by
  cases hr : right h with
  | false => unfold checkS at hc; rw [hr] at hc; simp at hc
  | true =>
    have hk := (right_evs hr).2
    obtain ⟨h1, h2, _, h4⟩ := flw_first h [] _ Agree.start (fun _ hc => by cases hc) (fun e he => (hk e he).1)
    unfold checkS at hc
    rw [if_pos hr] at hc
    have h5 : (flw0 h).2.2 = true := by
      cases h6 : (flw0 h).2.2 with
      | true => rfl
      | false => rw [h6] at hc; simp at hc
    exact ⟨rfl, by simpa [flw0] using h4 h5, h5⟩
end Go.Proofs.YtmnblljenobofaaDoor.QPlain
/- Plain words of transactions: no program in sight. -/
namespace Go.Proofs.YtmnblljenobofaaDoor.WPlain
end Go.Proofs.YtmnblljenobofaaDoor.WPlain
namespace Go.Proofs.YtmnblljenobofaaDoor.QPlain
end Go.Proofs.YtmnblljenobofaaDoor.QPlain
namespace Go.Proofs.YtmnblljenobofaaDoor.RPlain
open WPlain QPlain

structure Rwo where
  w : Bool
  v : Int
  x : Int
  deriving DecidableEq
structure Tx where
  n : Int
  f : Int
  l : Int
  s : Int
  o : List Rwo
  deriving DecidableEq
/-- a transaction's last event -/
def askedOf (h : List Ev) (t : Int) : Ev := h.foldl (fun o e => if e.t = t then e else o) ⟨0, 0, 0, 0⟩
/-- what an event adds to the reads and writes, behind a transaction's last one -/
def opStep (a e : Ev) : List Rwo := if e.k = 3 then [⟨false, a.v, e.x⟩] else if e.k = 5 then [⟨true, a.v, a.x⟩] else []
def opsOf (h : List Ev) (t : Int) : List Rwo := (List.range h.length).flatMap fun i => match h[i]? with
  | some e => if e.t = t then opStep (askedOf (h.take i) t) e else []
  | none => []
/-- the place of the first event; of the last one -/
def fstOf (h : List Ev) (t : Int) : Int := match h.findIdx? (fun e => e.t == t) with | some i => (i : Int) | none => -1
def lstOf (h : List Ev) (t : Int) : Int := (List.range h.length).foldl (fun o i => match h[i]? with | some e => if e.t = t then (i : Int) else o | none => o) 0
def stateS (k : Int) : Int := if k = 7 then 2 else if k = 9 then 3 else if k = 6 then 1 else 0
def txOf (h : List Ev) (t : Int) : Tx := ⟨t, fstOf h t, lstOf h t, stateS (lastOf h t), opsOf h t⟩
def tableS (h : List Ev) : List Tx := (namesOf h).map (txOf h)

theorem getElem?_snoc_lt {h : List Ev} {e : Ev} {i : Nat} (hi : i < h.length) : (h ++ [e])[i]? = h[i]? := List.getElem?_append_left hi
theorem askedOf_snoc (h : List Ev) (e : Ev) (t : Int) : askedOf (h ++ [e]) t = if e.t = t then e else askedOf h t := by simp [askedOf]
theorem opsOf_snoc (h : List Ev) (e : Ev) (t : Int) : opsOf (h ++ [e]) t = opsOf h t ++ (if e.t = t then opStep (askedOf h t) e else []) := by
  unfold opsOf
  rw [List.length_append, List.length_singleton, List.range_succ, List.flatMap_append]
  congr 1
  · rw [List.flatMap_def, List.flatMap_def]
    congr 1
    refine List.map_congr_left fun i hi => ?_
    have hi' : i < h.length := List.mem_range.1 hi
    rw [getElem?_snoc_lt hi', List.take_append_of_le_length (by omega)]
  · rw [List.flatMap_singleton, List.getElem?_append_right (Nat.le_refl _), Nat.sub_self, List.take_left' rfl]
    rfl
theorem lstOf_snoc (h : List Ev) (e : Ev) (t : Int) : lstOf (h ++ [e]) t = if e.t = t then (h.length : Int) else lstOf h t := by
  unfold lstOf
  rw [List.length_append, List.length_singleton, List.range_succ, List.foldl_append]
  simp only [List.foldl_cons, List.foldl_nil]
  rw [List.getElem?_append_right (Nat.le_refl _), Nat.sub_self]
  simp only [List.getElem?_cons_zero]
  split
  · rfl
  · have hg : ∀ (l : List Nat) (o : Int), (∀ i ∈ l, i < h.length) → l.foldl (fun o i => match (h ++ [e])[i]? with | some e => if e.t = t then (i : Int) else o | none => o) o = l.foldl (fun o i => match h[i]? with | some e => if e.t = t then (i : Int) else o | none => o) o := by
      intro l
      induction l with
      | nil => intro o _; rfl
      | cons i r ih =>
        intro o hl
        simp only [List.foldl_cons]
        rw [getElem?_snoc_lt (hl i (List.mem_cons_self ..))]
        exact ih _ (fun j hj => hl j (List.mem_cons_of_mem _ hj))
    exact hg _ _ (fun i hi => List.mem_range.1 hi)
theorem fstOf_snoc (h : List Ev) (e : Ev) (t : Int) : fstOf (h ++ [e]) t = if fstOf h t = -1 then (if e.t = t then (h.length : Int) else -1) else fstOf h t := by
  unfold fstOf
  rw [List.findIdx?_append]
  cases h1 : h.findIdx? (fun e => e.t == t) with
  | some i =>
    simp
  | none =>
    simp [List.findIdx?_cons]
    split <;> simp_all
theorem mem_names_snoc (h : List Ev) (e : Ev) (t : Int) : t ∈ namesOf (h ++ [e]) ↔ t ∈ namesOf h ∨ t = e.t := by
  rw [namesOf_snoc]
  unfold addName
  split
  · rename_i hc
    constructor
    · exact fun hm => .inl hm
    · rintro (hm | rfl)
      · exact hm
      · simpa using hc
  · simp
theorem rev_ind {p : List Ev → Prop} (h0 : p []) (h1 : ∀ h e, p h → p (h ++ [e])) (h : List Ev) : p h := by
  rw [← List.reverse_reverse h]
  induction h.reverse with
  | nil => exact h0
  | cons e r ih => rw [List.reverse_cons]; exact h1 _ _ ih
theorem mem_names (h : List Ev) (t : Int) : t ∈ namesOf h ↔ ∃ e ∈ h, e.t = t := by
  refine rev_ind (p := fun h => t ∈ namesOf h ↔ ∃ e ∈ h, e.t = t) ?_ ?_ h
  · simp [namesOf]
  · intro h e ih
    rw [mem_names_snoc, ih]
    constructor
    · rintro (⟨x, hx, rfl⟩ | rfl)
      · exact ⟨x, List.mem_append_left _ hx, rfl⟩
      · exact ⟨e, by simp, rfl⟩
    · rintro ⟨x, hx, rfl⟩
      rcases List.mem_append.1 hx with hx | hx
      · exact .inl ⟨x, hx, rfl⟩
      · rw [List.mem_singleton.1 hx]; exact .inr rfl
theorem fst_names (h : List Ev) (t : Int) : fstOf h t = -1 ↔ t ∉ namesOf h := by
  rw [mem_names]
  unfold fstOf
  cases h1 : h.findIdx? (fun e => e.t == t) with
  | none =>
    rw [List.findIdx?_eq_none_iff] at h1
    simp
    intro e he hc
    have := h1 e he
    simp [hc] at this
  | some i =>
    obtain ⟨hi, hp, _⟩ := List.findIdx?_eq_some_iff_getElem.1 h1
    simp
    exact ⟨h[i], List.getElem_mem hi, by simpa using hp⟩
end Go.Proofs.YtmnblljenobofaaDoor.RPlain
/- Plain words: memories, and rows that read what they may. -/
namespace Go.Proofs.YtmnblljenobofaaDoor.WPlain
end Go.Proofs.YtmnblljenobofaaDoor.WPlain
namespace Go.Proofs.YtmnblljenobofaaDoor.QPlain
end Go.Proofs.YtmnblljenobofaaDoor.QPlain
namespace Go.Proofs.YtmnblljenobofaaDoor.RPlain
open WPlain QPlain

def putM (M : Int → Int) (v x : Int) : Int → Int := fun u => if u = v then x else M u
def withM (M : Int → Int) (ops : List Rwo) : Int → Int := ops.foldl (fun M o => if o.w = true then putM M o.v o.x else M) M
/-- the place of the first read that is not of what it may -/
def ownS : (Int → Int) → List Rwo → Nat
  | _, [] => 0
  | M, o :: r => if o.w = true then 1 + ownS (putM M o.v o.x) r else if M o.v = o.x then 1 + ownS M r else 0
def opsAt (l : List Tx) (i : Nat) : List Rwo := match l[i]? with | some X => X.o | none => []
def stepM (l : List Tx) (c : Nat) (M : Int → Int) (i : Nat) : Int → Int := if c.testBit i = true then withM M (opsAt l i) else M
def behindS (l : List Tx) (c : Nat) (M : Int → Int) (row : List Nat) : Int → Int := row.foldl (stepM l c) M
def legalG (l : List Tx) (c : Nat) : (Int → Int) → List Nat → Nat
  | _, [] => 0
  | M, i :: r => if ownS M (opsAt l i) = (opsAt l i).length then 1 + legalG l c (stepM l c M i) r else 0
def zeroM : Int → Int := fun _ => 0
def legalS (l : List Tx) (c : Nat) (row : List Nat) : Nat := legalG l c zeroM row

theorem withM_nil (M : Int → Int) : withM M [] = M := rfl
theorem withM_cons (M : Int → Int) (o : Rwo) (r : List Rwo) : withM M (o :: r) = withM (if o.w = true then putM M o.v o.x else M) r := rfl
theorem withM_app (M : Int → Int) (a b : List Rwo) : withM M (a ++ b) = withM (withM M a) b := List.foldl_append ..
theorem behind_cons (l : List Tx) (c : Nat) (M : Int → Int) (i : Nat) (r : List Nat) : behindS l c M (i :: r) = behindS l c (stepM l c M i) r := rfl
theorem behind_app (l : List Tx) (c : Nat) (M : Int → Int) (a b : List Nat) : behindS l c M (a ++ b) = behindS l c (behindS l c M a) b := List.foldl_append ..
theorem own_le : ∀ (ops : List Rwo) (M : Int → Int), ownS M ops ≤ ops.length := by
  intro ops
  induction ops with
  | nil => intro M; exact Nat.le_refl _
  | cons o r ih =>
    intro M
    rw [ownS, List.length_cons]
    split
    · have := ih (putM M o.v o.x); omega
    · split
      · have := ih M; omega
      · omega
/-- read by read -/
def readOk (M : Int → Int) (ops : List Rwo) (i : Nat) : Prop := match ops[i]? with | some o => o.w = true ∨ withM M (ops.take i) o.v = o.x | none => True
theorem own_reads : ∀ (ops : List Rwo) (M : Int → Int), (∀ j, j < ownS M ops → readOk M ops j) ∧ (ownS M ops < ops.length → ¬ readOk M ops (ownS M ops)) := by
  intro ops
  induction ops with
  | nil => intro M; exact ⟨fun j hj => absurd hj (Nat.not_lt_zero _), fun h => absurd h (Nat.lt_irrefl _)⟩
  | cons o r ih =>
    intro M
    have hsucc : ∀ M', (if o.w = true then putM M o.v o.x else M) = M' → ∀ j, readOk M (o :: r) (j + 1) ↔ readOk M' r j := fun M' hM j => by
      unfold readOk
      rw [List.getElem?_cons_succ, List.take_succ_cons, withM_cons, hM]
    rw [ownS]
    by_cases hw : o.w = true
    · rw [if_pos hw]
      have h1 := ih (putM M o.v o.x)
      have h2 := hsucc _ (if_pos hw)
      refine ⟨fun j hj => ?_, fun hlt => ?_⟩
      · cases j with
        | zero => exact .inl hw
        | succ j => exact (h2 j).2 (h1.1 j (by omega))
      · rw [Nat.add_comm, h2]
        rw [List.length_cons] at hlt
        exact h1.2 (by omega)
    · rw [if_neg hw]
      by_cases hr : M o.v = o.x
      · rw [if_pos hr]
        have h1 := ih M
        have h2 := hsucc _ (if_neg hw)
        refine ⟨fun j hj => ?_, fun hlt => ?_⟩
        · cases j with
          | zero => exact .inr hr
          | succ j => exact (h2 j).2 (h1.1 j (by omega))
        · rw [Nat.add_comm, h2]
          rw [List.length_cons] at hlt
          exact h1.2 (by omega)
      · rw [if_neg hr]
        refine ⟨fun j hj => absurd hj (Nat.not_lt_zero _), fun _ h => ?_⟩
        rcases h with h | h
        · exact hw h
        · exact hr h
theorem own_is {M : Int → Int} {ops : List Rwo} {k : Nat} (hk : k ≤ ops.length) (h1 : ∀ j, j < k → readOk M ops j) (h2 : k < ops.length → ¬ readOk M ops k) : ownS M ops = k := by
  obtain ⟨g1, g2⟩ := own_reads ops M
  have hle := own_le ops M
  rcases Nat.lt_trichotomy (ownS M ops) k with h | h | h
  · exact absurd (h1 _ h) (g2 (by omega))
  · exact h
  · exact absurd (g1 _ h) (h2 (by omega))
theorem legal_le (l : List Tx) (c : Nat) : ∀ (row : List Nat) (M : Int → Int), legalG l c M row ≤ row.length := by
  intro row
  induction row with
  | nil => intro M; exact Nat.le_refl _
  | cons i r ih =>
    intro M
    rw [legalG, List.length_cons]
    split
    · have := ih (stepM l c M i); omega
    · omega
/-- a shorter row is legal as far as it goes -/
theorem legal_take (l : List Tx) (c : Nat) : ∀ (row : List Nat) (k : Nat) (M : Int → Int), legalG l c M (row.take k) = min (legalG l c M row) k := by
  intro row
  induction row with
  | nil => intro k M; simp [legalG]
  | cons i r ih =>
    intro k M
    cases k with
    | zero => simp [legalG]
    | succ k =>
      rw [List.take_succ_cons, legalG, legalG, ih k]
      split
      · omega
      · omega
theorem legal_app (l : List Tx) (c : Nat) : ∀ (a b : List Nat) (M : Int → Int), legalG l c M (a ++ b) = if legalG l c M a = a.length then a.length + legalG l c (behindS l c M a) b else legalG l c M a := by
  intro a
  induction a with
  | nil => intro b M; simp [legalG, behindS]
  | cons i r ih =>
    intro b M
    rw [List.cons_append, legalG, legalG, ih, behind_cons, List.length_cons]
    have h1 := legal_le l c r (stepM l c M i)
    by_cases ho : ownS M (opsAt l i) = (opsAt l i).length
    · rw [if_pos ho, if_pos ho]
      by_cases hr : legalG l c (stepM l c M i) r = r.length
      · rw [if_pos hr, if_pos (by omega)]; omega
      · rw [if_neg hr, if_neg (by omega)]
    · rw [if_neg ho, if_neg ho, if_neg (by omega)]
theorem legal_all (l : List Tx) (c : Nat) (i : Nat) (r : List Nat) (M : Int → Int) : legalG l c M (i :: r) = (i :: r).length ↔ ownS M (opsAt l i) = (opsAt l i).length ∧ legalG l c (stepM l c M i) r = r.length := by
  have h1 := legal_le l c r (stepM l c M i)
  rw [legalG, List.length_cons]
  by_cases ho : ownS M (opsAt l i) = (opsAt l i).length
  · rw [if_pos ho]; omega
  · rw [if_neg ho]; omega
def apart (l : List Tx) (a b : Nat) : Prop := ∀ o ∈ opsAt l a, ∀ p ∈ opsAt l b, p.v ≠ o.v
theorem apart.symm {l : List Tx} {a b : Nat} (h : apart l a b) : apart l b a := fun o ho p hp hc => h p hp o ho hc.symm
end Go.Proofs.YtmnblljenobofaaDoor.RPlain
