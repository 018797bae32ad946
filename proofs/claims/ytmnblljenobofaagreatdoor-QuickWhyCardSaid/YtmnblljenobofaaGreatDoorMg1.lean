/- Merged: PlainB, TxtA, PrpA, PrpF, PrpH, TabA, LegA, TabB, TabP, Kit. -/
import Derived.Below
import Derived.Lib.Strings
import Derived.Lib.ItoaLen
import Derived.Maps.OwnSet
import Derived.Sort.KeysCollected
import Derived.WalkKit
import Derived.WalkLawsBesides
import Derived.WalkSpells
import Derived.Lib.Hide
import Derived.Deep.RegionLaw
/- Plain numbers' texts: no program in sight. -/
namespace Go.Proofs.YtmnblljenobofaaGreatDoor.WPlain

def vstep (n : Int) (c : UInt8) : Int := n * 10 + ((c.toNat : Int) - 48)
def val (l : List UInt8) : Int := l.foldl vstep 0
def inR (n : Int) : Bool := decide (-2147483648 ≤ n) && decide (n ≤ 2147483647)
/-- a rule of growing lists -/
theorem snoc_ind {P : List UInt8 → Prop} (h0 : P []) (h1 : ∀ l c, P l → P (l ++ [c])) (l : List UInt8) : P l := by
  have : ∀ n, ∀ l : List UInt8, l.length = n → P l := by
    intro n
    induction n with
    | zero => intro l hl; rw [List.length_eq_zero_iff.1 hl]; exact h0
    | succ n ih =>
      intro l hl
      have hne : l ≠ [] := by intro h; rw [h] at hl; simp at hl
      rw [← List.dropLast_concat_getLast hne]
      exact h1 _ _ (ih _ (by rw [List.length_dropLast]; omega))
  exact this _ l rfl

end Go.Proofs.YtmnblljenobofaaGreatDoor.WPlain
/- Plain events and lines: no program in sight. -/
namespace Go.Proofs.YtmnblljenobofaaGreatDoor.WPlain

/-- an event: kind, transaction, variable, value -/
structure Ev where
  k : Int
  t : Int
  v : Int
  x : Int
  deriving DecidableEq

/-- the kinds' words -/
def kwords : List (List UInt8) := [[98, 101, 103, 105, 110], [98, 101, 103, 117, 110], [114, 101, 97, 100], [103, 111, 116], [119, 114, 105, 116, 101], [119, 114, 111, 116, 101], [99, 111, 109, 109, 105, 116], [99, 111, 109, 109, 105, 116, 116, 101, 100], [99, 97, 110, 99, 101, 108], [97, 98, 111, 114, 116, 101, 100]]
def hasV (k : Nat) : Bool := k == 2 || k == 4
def hasX (k : Nat) : Bool := k == 3 || k == 4

def inB (n lo hi : Int) : Bool := decide (lo ≤ n) && decide (n ≤ hi)
def addName (a : List Int) (n : Int) : List Int := if a.contains n = true then a else a ++ [n]
/-- the transactions' names, once each -/
def namesOf (h : List Ev) : List Int := h.foldl (fun a e => addName a e.t) []
/-- may an event be? -/
def evOk (e : Ev) : Bool := inB e.k 0 9 && ((hasV e.k.toNat || e.v == 0) && (hasX e.k.toNat || e.x == 0)) && (inB e.t 0 9999 && inB e.v 0 7 && inB e.x (-2147483648) 2147483647)
def right (h : List Ev) : Bool := decide (h.length ≤ 60) && h.all evOk && decide ((namesOf h).length ≤ 6)
theorem namesOf_snoc (h : List Ev) (e : Ev) : namesOf (h ++ [e]) = addName (namesOf h) e.t := by simp [namesOf]
theorem addName_len (a : List Int) (n : Int) : (addName a n).length ≤ a.length + 1 := by unfold addName; split <;> simp
theorem namesOf_len (h : List Ev) : (namesOf h).length ≤ h.length := by
  have : ∀ (h : List Ev) (a : List Int), (h.foldl (fun a e => addName a e.t) a).length ≤ a.length + h.length := by
    intro h
    induction h with
    | nil => intro a; simp
    | cons e r ih => intro a; have h1 := ih (addName a e.t); have h2 := addName_len a e.t; simp only [List.foldl_cons, List.length_cons]; omega
  have h0 := this h []
  simpa [namesOf] using h0
end Go.Proofs.YtmnblljenobofaaGreatDoor.WPlain
/- Plain words of events that may be there: no program in sight. -/
namespace Go.Proofs.YtmnblljenobofaaGreatDoor.WPlain
end Go.Proofs.YtmnblljenobofaaGreatDoor.WPlain
namespace Go.Proofs.YtmnblljenobofaaGreatDoor.QPlain
open WPlain

/-- the kinds that may come next in each state, and the state behind each -/
def mvs : List (List (Nat × Nat)) := [[(0, 1)], [(1, 2), (9, 7)], [(2, 3), (4, 4), (6, 5), (8, 6)], [(3, 2), (9, 7)], [(5, 2), (9, 7)], [(7, 7), (9, 7)], [(9, 7)], []]
def mv (s k : Nat) : Option Nat := (mvs.getD s []).lookup k
/-- .. as a map reads -/
def rowD (s : Nat) : DataW Unit := (mvs.getD s []).foldl (fun m p => m.put (.int .i64 (p.1 : Int)) (.lit (.int .i64 (p.2 : Int)))) (.map [])
theorem eight {s : Nat} (h : s < 8) : s = 0 ∨ s = 1 ∨ s = 2 ∨ s = 3 ∨ s = 4 ∨ s = 5 ∨ s = 6 ∨ s = 7 := by omega
theorem tenk {k : Nat} (h : k < 10) : k = 0 ∨ k = 1 ∨ k = 2 ∨ k = 3 ∨ k = 4 ∨ k = 5 ∨ k = 6 ∨ k = 7 ∨ k = 8 ∨ k = 9 := by omega
theorem row_at {s k : Nat} (hs : s < 8) (hk : k < 10) (z : DataW Unit) : (rowD s).atKey (.int .i64 (k : Int)) z = (match mv s k with | some n => .lit (.int .i64 (n : Int)) | none => z) := by
  rcases eight hs with rfl | rfl | rfl | rfl | rfl | rfl | rfl | rfl <;> rcases tenk hk with rfl | rfl | rfl | rfl | rfl | rfl | rfl | rfl | rfl | rfl <;> rfl
theorem row_has {s k : Nat} (hs : s < 8) (hk : k < 10) : Maps.has (rowD s) (.int .i64 (k : Int)) = (mv s k).isSome := by
  rcases eight hs with rfl | rfl | rfl | rfl | rfl | rfl | rfl | rfl <;> rcases tenk hk with rfl | rfl | rfl | rfl | rfl | rfl | rfl | rfl | rfl | rfl <;> rfl
theorem mv_lt {s k n : Nat} (hs : s < 8) (hk : k < 10) (h : mv s k = some n) : n < 8 := by
  have hall : ∀ s, s < 8 → ∀ k, k < 10 → (mv s k).all (fun n => decide (n < 8)) = true := by decide +kernel
  have := hall s hs k hk
  rw [h] at this
  simpa using this
/-- the states behind one more event; behind events, or the place of the first that may not be there -/
def upd (F : Int → Nat) (t : Int) (s : Nat) : Int → Nat := fun u => if u = t then s else F u
def flw (F : Int → Nat) (i : Nat) : List Ev → (Int → Nat) × Nat × Bool
  | [] => (F, i, true)
  | e :: r => match mv (F e.t) e.k.toNat with
    | none => (F, i, false)
    | some s => flw (upd F e.t s) (i + 1) r
def flw0 (h : List Ev) : (Int → Nat) × Nat × Bool := flw (fun _ => 0) 0 h
/-- how many events; or the error, and the place -/
def checkS (h : List Ev) : Nat × Nat := if right h = true then (if (flw0 h).2.2 = true then (h.length, 0) else ((flw0 h).2.1, 6)) else (0, 1)
theorem flw_none {F : Int → Nat} {i : Nat} {e : Ev} {r : List Ev} (h : mv (F e.t) e.k.toNat = none) : flw F i (e :: r) = (F, i, false) := by unfold flw; rw [h]
theorem flw_some {F : Int → Nat} {i : Nat} {e : Ev} {r : List Ev} {s : Nat} (h : mv (F e.t) e.k.toNat = some s) : flw F i (e :: r) = flw (upd F e.t s) (i + 1) r := by rw [flw, h]
theorem right_evs {h : List Ev} (hr : right h = true) : h.length ≤ 60 ∧ ∀ e ∈ h, (0 ≤ e.k ∧ e.k < 10) ∧ (0 ≤ e.t ∧ e.t ≤ 9999) := by
  simp only [right, Bool.and_eq_true, decide_eq_true_eq, List.all_eq_true] at hr
  refine ⟨hr.1.1, fun e he => ?_⟩
  have := hr.1.2 e he
  simp only [evOk, inB, Bool.and_eq_true, decide_eq_true_eq] at this
  omega
end Go.Proofs.YtmnblljenobofaaGreatDoor.QPlain
/- Plain words: the kinds that may come next, collected and sorted. -/
namespace Go.Proofs.YtmnblljenobofaaGreatDoor.WPlain
end Go.Proofs.YtmnblljenobofaaGreatDoor.WPlain
namespace Go.Proofs.YtmnblljenobofaaGreatDoor.QPlain
open WPlain

/-- the kinds met so far -/
def Coll (s : Nat) (left : Lit → Bool) (ss : List Int) : Prop := ss.Nodup ∧ ∀ x : Int, x ∈ ss ↔ (Maps.has (rowD s) (.int .i64 x) = true ∧ left (.int .i64 x) = false)
theorem Coll.start (s : Nat) : Coll s (Maps.has (rowD s)) [] := ⟨List.nodup_nil, fun x => by cases Maps.has (rowD s) (.int .i64 x) <;> simp⟩
theorem Coll.step {s : Nat} {left : Lit → Bool} {ss : List Int} (h : Coll s left ss) {x : Int} {y : DataW Unit} (hlk : left (.int .i64 x) = true) (hat : ∀ zd, (rowD s).atKey (.int .i64 x) zd = y) :
    Coll s (fun z => left z && !z.sameKey (.int .i64 x)) (ss ++ [x]) := by
  have hhas : Maps.has (rowD s) (.int .i64 x) = true := Maps.has_true_of_atKey hat
  have hnew : x ∉ ss := fun hx => by have := ((h.2 x).1 hx).2; rw [hlk] at this; cases this
  refine ⟨List.nodup_append.2 ⟨h.1, by simp, fun a ha b hb => by simp at hb; subst hb; exact fun e => hnew (e ▸ ha)⟩, fun y => ?_⟩
  by_cases hy : y = x
  · subst hy; simp [hhas, Lit.sameKey]
  · simp [h.2 y, hy, Lit.sameKey]
end Go.Proofs.YtmnblljenobofaaGreatDoor.QPlain
/- Plain words: the document's answer, from the last event of a transaction; and that it is the states' answer. -/
namespace Go.Proofs.YtmnblljenobofaaGreatDoor.WPlain
end Go.Proofs.YtmnblljenobofaaGreatDoor.WPlain
namespace Go.Proofs.YtmnblljenobofaaGreatDoor.QPlain
open WPlain

/-- the kind of a transaction's last event; -1: it has none -/
def lastOf (h : List Ev) (t : Int) : Int := h.foldl (fun o e => if e.t = t then e.k else o) (-1)
/-- may a kind come behind another one? -/
def mayS (l k : Int) : Bool :=
  if l = -1 then k == 0 else if l = 0 then (k == 1 || k == 9) else if l = 1 ∨ l = 3 ∨ l = 5 then (k == 2 || k == 4 || k == 6 || k == 8)
  else if l = 2 then (k == 3 || k == 9) else if l = 4 then (k == 5 || k == 9) else if l = 6 then (k == 7 || k == 9) else if l = 8 then k == 9 else false
/-- the place of the first event that may not be there, behind others -/
def firstG (pre : List Ev) : List Ev → Nat
  | [] => pre.length
  | e :: r => if mayS (lastOf pre e.t) e.k = true then firstG (pre ++ [e]) r else pre.length
def firstS (h : List Ev) : Nat := firstG [] h
/-- the state behind a kind -/
def stOfL (l : Int) : Nat := if l = -1 then 0 else if l = 0 then 1 else if l = 1 ∨ l = 3 ∨ l = 5 then 2 else if l = 2 then 3 else if l = 4 then 4 else if l = 6 then 5 else if l = 8 then 6 else 7
theorem lastOf_snoc (h : List Ev) (e : Ev) (t : Int) : lastOf (h ++ [e]) t = if e.t = t then e.k else lastOf h t := by simp [lastOf]
theorem lastOf_range {h : List Ev} (hh : ∀ e ∈ h, 0 ≤ e.k ∧ e.k < 10) (t : Int) : -1 ≤ lastOf h t ∧ lastOf h t < 10 := by
  have hg : ∀ (l : List Ev) (o : Int), (∀ e ∈ l, 0 ≤ e.k ∧ e.k < 10) → -1 ≤ o ∧ o < 10 → -1 ≤ l.foldl (fun o e => if e.t = t then e.k else o) o ∧ l.foldl (fun o e => if e.t = t then e.k else o) o < 10 := by
    intro l
    induction l with
    | nil => intro o _ ho; exact ho
    | cons e r ih =>
      intro o hl ho
      simp only [List.foldl_cons]
      refine ih _ (fun x hx => hl x (List.mem_cons_of_mem _ hx)) ?_
      have := hl e (List.mem_cons_self ..)
      split <;> omega
  exact hg h (-1) hh (by omega)
theorem lasts {l : Int} (h : -1 ≤ l ∧ l < 10) : l = -1 ∨ l = 0 ∨ l = 1 ∨ l = 2 ∨ l = 3 ∨ l = 4 ∨ l = 5 ∨ l = 6 ∨ l = 7 ∨ l = 8 ∨ l = 9 := by omega
theorem tenI {k : Int} (h : 0 ≤ k ∧ k < 10) : k = 0 ∨ k = 1 ∨ k = 2 ∨ k = 3 ∨ k = 4 ∨ k = 5 ∨ k = 6 ∨ k = 7 ∨ k = 8 ∨ k = 9 := by omega
theorem may_mv {l k : Int} (hl : -1 ≤ l ∧ l < 10) (hk : 0 ≤ k ∧ k < 10) : mayS l k = (mv (stOfL l) k.toNat).isSome ∧ ∀ s, mv (stOfL l) k.toNat = some s → s = stOfL k := by
  have hall : ∀ l ∈ [(-1 : Int), 0, 1, 2, 3, 4, 5, 6, 7, 8, 9], ∀ k ∈ [(0 : Int), 1, 2, 3, 4, 5, 6, 7, 8, 9], mayS l k = (mv (stOfL l) k.toNat).isSome ∧ (mv (stOfL l) k.toNat).all (fun s => s == stOfL k) = true := by decide +kernel
  have h1 : l ∈ [(-1 : Int), 0, 1, 2, 3, 4, 5, 6, 7, 8, 9] := by simp; omega
  have h2 : k ∈ [(0 : Int), 1, 2, 3, 4, 5, 6, 7, 8, 9] := by simp; omega
  obtain ⟨h3, h4⟩ := hall l h1 k h2
  refine ⟨h3, fun s hs => ?_⟩
  rw [hs] at h4
  simpa using h4
/-- the states are those behind the last kinds -/
def Agree (F : Int → Nat) (pre : List Ev) : Prop := ∀ t, F t = stOfL (lastOf pre t)
theorem Agree.start : Agree (fun _ => 0) [] := fun _ => rfl
theorem Agree.step {F : Int → Nat} {pre : List Ev} {e : Ev} {s : Nat} (h : Agree F pre) (hpre : ∀ e ∈ pre, 0 ≤ e.k ∧ e.k < 10) (he : 0 ≤ e.k ∧ e.k < 10) (hs : mv (F e.t) e.k.toNat = some s) : Agree (upd F e.t s) (pre ++ [e]) := by
  intro t
  rw [lastOf_snoc]
  unfold upd
  by_cases ht : t = e.t
  · subst ht
    rw [if_pos rfl, if_pos rfl]
    rw [h e.t] at hs
    exact (may_mv (lastOf_range hpre e.t) he).2 s hs
  · rw [if_neg ht, if_neg (fun hc => ht hc.symm)]
    exact h t
theorem flw_first : ∀ (r pre : List Ev) (F : Int → Nat), Agree F pre → (∀ e ∈ pre, 0 ≤ e.k ∧ e.k < 10) → (∀ e ∈ r, 0 ≤ e.k ∧ e.k < 10) →
    (flw F pre.length r).2.1 = firstG pre r ∧ ((flw F pre.length r).2.2 = decide (firstG pre r = (pre ++ r).length)) ∧ firstG pre r ≤ (pre ++ r).length ∧ ((flw F pre.length r).2.2 = true → Agree (flw F pre.length r).1 (pre ++ r)) := by
  intro r
  induction r with
  | nil =>
    intro pre F hA _ _
    simp only [flw, firstG, List.append_nil]
    exact ⟨trivial, by simp, Nat.le_refl _, fun _ => hA⟩
  | cons e r ih =>
    intro pre F hA hpre hr
    have he := hr e (List.mem_cons_self ..)
    have hm := may_mv (lastOf_range hpre e.t) he
    rw [← hA e.t] at hm
    unfold firstG
    cases hmv : mv (F e.t) e.k.toNat with
    | none =>
      rw [hmv] at hm
      rw [flw_none hmv, if_neg (by rw [hm.1]; simp)]
      refine ⟨rfl, ?_, by simp, fun hc => by simp at hc⟩
      symm
      simp
    | some s =>
      rw [hmv] at hm
      rw [flw_some hmv, if_pos (by rw [hm.1]; rfl)]
      have := ih (pre ++ [e]) (upd F e.t s) (hA.step hpre he hmv) (fun x hx => by
        rcases List.mem_append.1 hx with hx | hx
        · exact hpre x hx
        · rw [List.mem_singleton.1 hx]; exact he) (fun x hx => hr x (List.mem_cons_of_mem _ hx))
      rw [List.length_append, List.length_singleton] at this
      simpa [List.append_assoc] using this
theorem check_first {h : List Ev} (hr : right h = true) : checkS h = if firstS h = h.length then (h.length, 0) else (firstS h, 6) := by
  have hk := (right_evs hr).2
  obtain ⟨h1, h2, _⟩ := flw_first h [] _ Agree.start (fun _ hc => by cases hc) (fun e he => (hk e he).1)
  unfold checkS firstS flw0
  rw [if_pos hr]
  simp only [List.length_nil, List.nil_append] at h1 h2
  rw [h2, h1]
  by_cases he : firstG [] h = h.length
  · simp [he]
  · simp [he]
theorem first_le {h : List Ev} (hr : right h = true) : firstS h ≤ h.length := by
  have hk := (right_evs hr).2
  unfold firstS
  simpa using (flw_first h [] _ Agree.start (fun _ hc => by cases hc) (fun e he => (hk e he).1)).2.2.1
theorem check_agree {h : List Ev} (hc : (checkS h).2 = 0) : right h = true ∧ Agree (flw0 h).1 h ∧ (flw0 h).2.2 = true := by
  cases hr : right h with
  | false => unfold checkS at hc; rw [hr] at hc; simp at hc
  | true =>
    have hk := (right_evs hr).2
    obtain ⟨h1, h2, _, h4⟩ := flw_first h [] _ Agree.start (fun _ hc => by cases hc) (fun e he => (hk e he).1)
    unfold checkS at hc
    rw [if_pos hr] at hc
    have h5 : (flw0 h).2.2 = true := by
      cases h6 : (flw0 h).2.2 with
      | true => rfl
      | false => rw [h6] at hc; simp at hc
    exact ⟨rfl, by simpa [flw0] using h4 h5, h5⟩
end Go.Proofs.YtmnblljenobofaaGreatDoor.QPlain
/- Plain words of transactions: no program in sight. -/
namespace Go.Proofs.YtmnblljenobofaaGreatDoor.WPlain
end Go.Proofs.YtmnblljenobofaaGreatDoor.WPlain
namespace Go.Proofs.YtmnblljenobofaaGreatDoor.QPlain
end Go.Proofs.YtmnblljenobofaaGreatDoor.QPlain
namespace Go.Proofs.YtmnblljenobofaaGreatDoor.RPlain
open WPlain QPlain

structure Rwo where
  w : Bool
  v : Int
  x : Int
  deriving DecidableEq
structure Tx where
  n : Int
  f : Int
  l : Int
  s : Int
  o : List Rwo
  deriving DecidableEq
/-- a transaction's last event -/
def askedOf (h : List Ev) (t : Int) : Ev := h.foldl (fun o e => if e.t = t then e else o) ⟨0, 0, 0, 0⟩
/-- what an event adds to the reads and writes, behind a transaction's last one -/
def opStep (a e : Ev) : List Rwo := if e.k = 3 then [⟨false, a.v, e.x⟩] else if e.k = 5 then [⟨true, a.v, a.x⟩] else []
def opsOf (h : List Ev) (t : Int) : List Rwo := (List.range h.length).flatMap fun i => match h[i]? with
  | some e => if e.t = t then opStep (askedOf (h.take i) t) e else []
  | none => []
/-- the place of the first event; of the last one -/
def fstOf (h : List Ev) (t : Int) : Int := match h.findIdx? (fun e => e.t == t) with | some i => (i : Int) | none => -1
def lstOf (h : List Ev) (t : Int) : Int := (List.range h.length).foldl (fun o i => match h[i]? with | some e => if e.t = t then (i : Int) else o | none => o) 0
def stateS (k : Int) : Int := if k = 7 then 2 else if k = 9 then 3 else if k = 6 then 1 else 0
def txOf (h : List Ev) (t : Int) : Tx := ⟨t, fstOf h t, lstOf h t, stateS (lastOf h t), opsOf h t⟩
def tableS (h : List Ev) : List Tx := (namesOf h).map (txOf h)

theorem getElem?_snoc_lt {h : List Ev} {e : Ev} {i : Nat} (hi : i < h.length) : (h ++ [e])[i]? = h[i]? := List.getElem?_append_left hi
theorem askedOf_snoc (h : List Ev) (e : Ev) (t : Int) : askedOf (h ++ [e]) t = if e.t = t then e else askedOf h t := by simp [askedOf]
theorem opsOf_snoc (h : List Ev) (e : Ev) (t : Int) : opsOf (h ++ [e]) t = opsOf h t ++ (if e.t = t then opStep (askedOf h t) e else []) := by
  unfold opsOf
  rw [List.length_append, List.length_singleton, List.range_succ, List.flatMap_append]
  congr 1
  · rw [List.flatMap_def, List.flatMap_def]
    congr 1
    refine List.map_congr_left fun i hi => ?_
    have hi' : i < h.length := List.mem_range.1 hi
    rw [getElem?_snoc_lt hi', List.take_append_of_le_length (by omega)]
  · rw [List.flatMap_singleton, List.getElem?_append_right (Nat.le_refl _), Nat.sub_self, List.take_left' rfl]
    rfl
theorem lstOf_snoc (h : List Ev) (e : Ev) (t : Int) : lstOf (h ++ [e]) t = if e.t = t then (h.length : Int) else lstOf h t := by
  unfold lstOf
  rw [List.length_append, List.length_singleton, List.range_succ, List.foldl_append]
  simp only [List.foldl_cons, List.foldl_nil]
  rw [List.getElem?_append_right (Nat.le_refl _), Nat.sub_self]
  simp only [List.getElem?_cons_zero]
  split
  · rfl
  · have hg : ∀ (l : List Nat) (o : Int), (∀ i ∈ l, i < h.length) → l.foldl (fun o i => match (h ++ [e])[i]? with | some e => if e.t = t then (i : Int) else o | none => o) o = l.foldl (fun o i => match h[i]? with | some e => if e.t = t then (i : Int) else o | none => o) o := by
      intro l
      induction l with
      | nil => intro o _; rfl
      | cons i r ih =>
        intro o hl
        simp only [List.foldl_cons]
        rw [getElem?_snoc_lt (hl i (List.mem_cons_self ..))]
        exact ih _ (fun j hj => hl j (List.mem_cons_of_mem _ hj))
    exact hg _ _ (fun i hi => List.mem_range.1 hi)
theorem fstOf_snoc (h : List Ev) (e : Ev) (t : Int) : fstOf (h ++ [e]) t = if fstOf h t = -1 then (if e.t = t then (h.length : Int) else -1) else fstOf h t := by
  unfold fstOf
  rw [List.findIdx?_append]
  cases h1 : h.findIdx? (fun e => e.t == t) with
  | some i =>
    simp
  | none =>
    simp [List.findIdx?_cons]
    split <;> simp_all
theorem mem_names_snoc (h : List Ev) (e : Ev) (t : Int) : t ∈ namesOf (h ++ [e]) ↔ t ∈ namesOf h ∨ t = e.t := by
  rw [namesOf_snoc]
  unfold addName
  split
  · rename_i hc
    constructor
    · exact fun hm => .inl hm
    · rintro (hm | rfl)
      · exact hm
      · simpa using hc
  · simp
theorem rev_ind {p : List Ev → Prop} (h0 : p []) (h1 : ∀ h e, p h → p (h ++ [e])) (h : List Ev) : p h := by
  rw [← List.reverse_reverse h]
  induction h.reverse with
  | nil => exact h0
  | cons e r ih => rw [List.reverse_cons]; exact h1 _ _ ih
theorem mem_names (h : List Ev) (t : Int) : t ∈ namesOf h ↔ ∃ e ∈ h, e.t = t := by
  refine rev_ind (p := fun h => t ∈ namesOf h ↔ ∃ e ∈ h, e.t = t) ?_ ?_ h
  · simp [namesOf]
  · intro h e ih
    rw [mem_names_snoc, ih]
    constructor
    · rintro (⟨x, hx, rfl⟩ | rfl)
      · exact ⟨x, List.mem_append_left _ hx, rfl⟩
      · exact ⟨e, by simp, rfl⟩
    · rintro ⟨x, hx, rfl⟩
      rcases List.mem_append.1 hx with hx | hx
      · exact .inl ⟨x, hx, rfl⟩
      · rw [List.mem_singleton.1 hx]; exact .inr rfl
theorem fst_names (h : List Ev) (t : Int) : fstOf h t = -1 ↔ t ∉ namesOf h := by
  rw [mem_names]
  unfold fstOf
  cases h1 : h.findIdx? (fun e => e.t == t) with
  | none =>
    rw [List.findIdx?_eq_none_iff] at h1
    simp
    intro e he hc
    have := h1 e he
    simp [hc] at this
  | some i =>
    obtain ⟨hi, hp, _⟩ := List.findIdx?_eq_some_iff_getElem.1 h1
    simp
    exact ⟨h[i], List.getElem_mem hi, by simpa using hp⟩
end Go.Proofs.YtmnblljenobofaaGreatDoor.RPlain
/- Plain words: memories, and rows that read what they may. -/
namespace Go.Proofs.YtmnblljenobofaaGreatDoor.WPlain
end Go.Proofs.YtmnblljenobofaaGreatDoor.WPlain
namespace Go.Proofs.YtmnblljenobofaaGreatDoor.QPlain
end Go.Proofs.YtmnblljenobofaaGreatDoor.QPlain
namespace Go.Proofs.YtmnblljenobofaaGreatDoor.RPlain
open WPlain QPlain

def putM (M : Int → Int) (v x : Int) : Int → Int := fun u => if u = v then x else M u
def withM (M : Int → Int) (ops : List Rwo) : Int → Int := ops.foldl (fun M o => if o.w = true then putM M o.v o.x else M) M
def opsAt (l : List Tx) (i : Nat) : List Rwo := match l[i]? with | some X => X.o | none => []
def zeroM : Int → Int := fun _ => 0
theorem withM_nil (M : Int → Int) : withM M [] = M := rfl
theorem withM_cons (M : Int → Int) (o : Rwo) (r : List Rwo) : withM M (o :: r) = withM (if o.w = true then putM M o.v o.x else M) r := rfl
theorem withM_app (M : Int → Int) (a b : List Rwo) : withM M (a ++ b) = withM (withM M a) b := List.foldl_append ..
def apart (l : List Tx) (a b : Nat) : Prop := ∀ o ∈ opsAt l a, ∀ p ∈ opsAt l b, p.v ≠ o.v
theorem apart.symm {l : List Tx} {a b : Nat} (h : apart l a b) : apart l b a := fun o ho p hp hc => h p hp o ho hc.symm
end Go.Proofs.YtmnblljenobofaaGreatDoor.RPlain
/- Plain words: transactions up to a place; alone. -/
namespace Go.Proofs.YtmnblljenobofaaGreatDoor.WPlain
end Go.Proofs.YtmnblljenobofaaGreatDoor.WPlain
namespace Go.Proofs.YtmnblljenobofaaGreatDoor.QPlain
end Go.Proofs.YtmnblljenobofaaGreatDoor.QPlain
namespace Go.Proofs.YtmnblljenobofaaGreatDoor.RPlain
open WPlain QPlain

theorem fst_range {h : List Ev} {t : Int} (ht : t ∈ namesOf h) : 0 ≤ fstOf h t ∧ fstOf h t < h.length := by
  have hne := (not_congr (fst_names h t)).2 (fun hc => hc ht)
  unfold fstOf at *
  cases h1 : h.findIdx? (fun e => e.t == t) with
  | none => rw [h1] at hne; simp at hne
  | some i =>
    obtain ⟨hi, _⟩ := List.findIdx?_eq_some_iff_getElem.1 h1
    simp
    omega
theorem fst_keep {h : List Ev} {t : Int} (e : Ev) (ht : t ∈ namesOf h) : fstOf (h ++ [e]) t = fstOf h t := by
  rw [fstOf_snoc, if_neg (fun hc => ((fst_names h t).1 hc) ht)]
theorem fst_new {h : List Ev} {e : Ev} (ht : e.t ∉ namesOf h) : fstOf (h ++ [e]) e.t = (h.length : Int) := by
  rw [fstOf_snoc, if_pos ((fst_names h e.t).2 ht), if_pos rfl]
theorem fst_lst (h : List Ev) (t : Int) (ht : t ∈ namesOf h) : fstOf h t ≤ lstOf h t ∧ lstOf h t < h.length := by
  revert ht
  refine rev_ind (p := fun h => t ∈ namesOf h → fstOf h t ≤ lstOf h t ∧ lstOf h t < h.length) ?_ ?_ h
  · simp [namesOf]
  · intro h e ih ht
    rw [lstOf_snoc, List.length_append, List.length_singleton]
    by_cases he : e.t = t
    · rw [if_pos he]
      by_cases hm : t ∈ namesOf h
      · rw [fst_keep e hm]
        have := (fst_range hm).2
        omega
      · subst he
        rw [fst_new hm]
        omega
    · rw [if_neg he]
      rcases (mem_names_snoc h e t).1 ht with hm | hm
      · rw [fst_keep e hm]
        have := ih hm
        omega
      · exact absurd hm.symm he
/-- is it an answer of a transaction, with a read or a write? -/
def answers (t : Int) (e : Ev) : Bool := e.t == t && (e.k == 3 || e.k == 5)
theorem ops_len (h : List Ev) (t : Int) : (opsOf h t).length = (h.filter (answers t)).length := by
  refine rev_ind (p := fun h => (opsOf h t).length = (h.filter (answers t)).length) ?_ ?_ h
  · simp [opsOf]
  · intro h e ih
    rw [opsOf_snoc, List.length_append, ih, List.filter_append, List.length_append]
    congr 1
    unfold answers opStep
    by_cases he : e.t = t
    · rw [if_pos he]
      by_cases h3 : e.k = 3
      · simp [h3, he]
      · by_cases h5 : e.k = 5
        · simp [h5, he]
        · simp [h3, h5, he]
    · rw [if_neg he]
      simp [he]
theorem tableS_len (h : List Ev) : (tableS h).length = (namesOf h).length := by simp [tableS]
theorem tableS_get {h : List Ev} {i : Nat} (hi : i < (namesOf h).length) : (tableS h)[i]'(by rw [tableS_len]; exact hi) = txOf h ((namesOf h)[i]) := by simp [tableS]
/-- one event more -/
theorem ops_none {h : List Ev} {t : Int} (ht : t ∉ namesOf h) : opsOf h t = [] := by
  have h1 := ops_len h t
  have h2 : h.filter (answers t) = [] := by
    rw [List.filter_eq_nil_iff]
    intro e he hc
    unfold answers at hc
    simp only [Bool.and_eq_true, beq_iff_eq] at hc
    exact ht ((mem_names h t).2 ⟨e, he, hc.1⟩)
  rw [h2] at h1
  exact List.length_eq_zero_iff.1 h1
theorem txOf_other (h : List Ev) (e : Ev) {t : Int} (ht : t ∈ namesOf h) (hne : e.t ≠ t) : txOf (h ++ [e]) t = txOf h t := by
  unfold txOf
  rw [fst_keep e ht, lstOf_snoc, if_neg hne, lastOf_snoc, if_neg hne, opsOf_snoc, if_neg hne, List.append_nil]
theorem txOf_mine (h : List Ev) (e : Ev) (ht : e.t ∈ namesOf h) : txOf (h ++ [e]) e.t = ⟨e.t, fstOf h e.t, h.length, stateS e.k, opsOf h e.t ++ opStep (askedOf h e.t) e⟩ := by
  unfold txOf
  rw [fst_keep e ht, lstOf_snoc, if_pos rfl, lastOf_snoc, if_pos rfl, opsOf_snoc, if_pos rfl]
theorem txOf_first (h : List Ev) (e : Ev) (ht : e.t ∉ namesOf h) : txOf (h ++ [e]) e.t = ⟨e.t, h.length, h.length, stateS e.k, opStep (askedOf h e.t) e⟩ := by
  unfold txOf
  rw [fst_new ht, lstOf_snoc, if_pos rfl, lastOf_snoc, if_pos rfl, opsOf_snoc, if_pos rfl, ops_none ht, List.nil_append]
end Go.Proofs.YtmnblljenobofaaGreatDoor.RPlain
/- Plain words: what well-formed events tell of their transactions. -/
namespace Go.Proofs.YtmnblljenobofaaGreatDoor.WPlain
end Go.Proofs.YtmnblljenobofaaGreatDoor.WPlain
namespace Go.Proofs.YtmnblljenobofaaGreatDoor.QPlain
end Go.Proofs.YtmnblljenobofaaGreatDoor.QPlain
namespace Go.Proofs.YtmnblljenobofaaGreatDoor.RPlain
open WPlain QPlain

theorem asked_at (g : List Ev) (t : Int) (ht : t ∈ namesOf g) : ∃ l : Nat, lstOf g t = (l : Int) ∧ ∃ hl : l < g.length, g[l] = askedOf g t := by
  revert ht
  refine rev_ind (p := fun g => t ∈ namesOf g → ∃ l : Nat, lstOf g t = (l : Int) ∧ ∃ hl : l < g.length, g[l] = askedOf g t) ?_ ?_ g
  · simp [namesOf]
  · intro g e ih ht
    rw [lstOf_snoc, askedOf_snoc]
    by_cases he : e.t = t
    · rw [if_pos he, if_pos he]
      exact ⟨g.length, rfl, by simp, by simp⟩
    · rw [if_neg he, if_neg he]
      rcases (mem_names_snoc g e t).1 ht with hm | hm
      · obtain ⟨l, h1, h2, h3⟩ := ih hm
        exact ⟨l, h1, by rw [List.length_append]; omega, by rw [List.getElem_append_left h2]; exact h3⟩
      · exact absurd hm.symm he
theorem last_none (g : List Ev) (t : Int) (ht : t ∉ namesOf g) : lastOf g t = -1 := by
  revert ht
  refine rev_ind (p := fun g => t ∉ namesOf g → lastOf g t = -1) ?_ ?_ g
  · intro _; rfl
  · intro g e ih ht
    rw [mem_names_snoc, not_or] at ht
    rw [lastOf_snoc, if_neg (fun hc => ht.2 hc.symm)]
    exact ih ht.1
theorem firstG_may : ∀ (r pre : List Ev), firstG pre r = (pre ++ r).length → ∀ j (hj : j < r.length), mayS (lastOf (pre ++ r.take j) r[j].t) r[j].k = true := by
  intro r
  induction r with
  | nil => intro pre _ j hj; simp at hj
  | cons e r ih =>
    intro pre hf j hj
    by_cases hm : mayS (lastOf pre e.t) e.k = true
    · have h1 : firstG pre (e :: r) = firstG (pre ++ [e]) r := by unfold firstG; rw [if_pos hm]; cases r <;> rfl
      rw [h1] at hf
      cases j with
      | zero => simpa using hm
      | succ j =>
        have := ih (pre ++ [e]) (by simpa using hf) j (by simpa using hj)
        simpa using this
    · have h1 : firstG pre (e :: r) = pre.length := by unfold firstG; rw [if_neg hm]
      rw [h1] at hf
      simp at hf
theorem check_may {h : List Ev} (hc : (checkS h).2 = 0) (j : Nat) (hj : j < h.length) : mayS (lastOf (h.take j) h[j].t) h[j].k = true := by
  have hr := (check_agree hc).1
  have hf := check_first hr
  have h1 : firstS h = h.length := by
    by_cases he : firstS h = h.length
    · exact he
    · rw [if_neg he] at hf
      rw [hf] at hc
      simp at hc
  unfold firstS at h1
  simpa using firstG_may h [] (by simpa using h1) j hj
/-- the first event of a transaction begins it -/
theorem check_begin {h : List Ev} (hc : (checkS h).2 = 0) (j : Nat) (hj : j < h.length) (ht : h[j].t ∉ namesOf (h.take j)) : h[j].k = 0 := by
  have := check_may hc j hj
  rw [last_none _ _ ht] at this
  simpa [mayS] using this
theorem opStep_zero (a e : Ev) (h : e.k = 0) : opStep a e = [] := by unfold opStep; rw [if_neg (by omega), if_neg (by omega)]
theorem ops_le (h : List Ev) (t : Int) : (opsOf h t).length ≤ h.length := by rw [ops_len]; exact List.length_filter_le _ _
theorem names_old {g : List Ev} {e : Ev} (hm : e.t ∈ namesOf g) : namesOf (g ++ [e]) = namesOf g := by
  rw [namesOf_snoc]
  unfold addName
  rw [if_pos (by simpa using hm)]
theorem names_new {g : List Ev} {e : Ev} (hm : e.t ∉ namesOf g) : namesOf (g ++ [e]) = namesOf g ++ [e.t] := by
  rw [namesOf_snoc]
  unfold addName
  rw [if_neg (by simpa using hm)]
theorem tx_old {g : List Ev} {e : Ev} (hm : e.t ∈ namesOf g) : ∀ u ∈ namesOf g, txOf (g ++ [e]) u = if u = e.t then ⟨e.t, fstOf g e.t, g.length, stateS e.k, opsOf g e.t ++ opStep (askedOf g e.t) e⟩ else txOf g u := by
  intro u hu
  by_cases he : u = e.t
  · rw [if_pos he, he, txOf_mine g e hm]
  · rw [if_neg he]
    exact txOf_other g e hu (fun hc => he hc.symm)
theorem tx_new {g : List Ev} {e : Ev} (hm : e.t ∉ namesOf g) (h0 : e.k = 0) : ∀ u ∈ namesOf g ++ [e.t], txOf (g ++ [e]) u = if u = e.t then ⟨e.t, g.length, g.length, stateS e.k, []⟩ else txOf g u := by
  intro u hu
  by_cases he : u = e.t
  · rw [if_pos he, he, txOf_first g e hm, opStep_zero _ _ h0]
  · rw [if_neg he]
    rcases List.mem_append.1 hu with hu | hu
    · exact txOf_other g e hu (fun hc => he hc.symm)
    · exact absurd (List.mem_singleton.1 hu) he
end Go.Proofs.YtmnblljenobofaaGreatDoor.RPlain
/- Small laws of memory, of no program: a block known whole; a row of the call's own beside it; an append as a step of a region that draws. -/
namespace Go.Proofs.YtmnblljenobofaaGreatDoor
open Go.RowKit

/-- Block b holds the cells cs. -/
def At (w : World) (b : Nat) (cs : Array Value) (t : TypeId) : Prop := w.heap[b]? = some (.cells cs t (0, 0))
theorem At.lt {w : World} {b : Nat} {cs : Array Value} {t : TypeId} (h : At w b cs t) : b < w.heap.size := (Array.getElem?_eq_some_iff.1 h).1
theorem At.cell {w : World} {b : Nat} {cs : Array Value} {t : TypeId} (h : At w b cs t) {i : Nat} {v : Value} (hi : cs[i]? = some v) : w.cell? ⟨b, i, none⟩ = some v := by
  unfold At at h; simp [World.cell?, h, hi]
theorem At.free {w : World} {b : Nat} {cs : Array Value} {t : TypeId} (h : At w b cs t) (i : Nat) : w.frozen? ⟨b, i, none⟩ = false := by
  unfold At at h; simp [World.frozen?, h]
theorem At.new (w : World) (cs : Array Value) (t : TypeId) : At (w.alloc (.cells cs t)) w.heap.size cs t := heap_alloc_new w _
theorem At.alloc {w : World} {b : Nat} {cs : Array Value} {t : TypeId} (h : At w b cs t) (o : Obj) : At (w.alloc o) b cs t := by
  have := h.lt; unfold At at *; rw [Below.heap_alloc w o b this]; exact h
theorem At.drew {w : World} {b : Nat} {cs : Array Value} {t : TypeId} (h : At w b cs t) : At w.drew b cs t := h
theorem At.grown {w w' : World} {b : Nat} {cs : Array Value} {t : TypeId} {row : Option Nat} (h : At w b cs t) (hg : w.grownBy w' row) (hne : some b ≠ row) : At w' b cs t := by
  have := h.lt; unfold At at *; rw [hg.block b this hne]; exact h
theorem At.below {B : Nat} {w w' : World} {b : Nat} {cs : Array Value} {t : TypeId} (h : At w b cs t) (hb : Below B w w') (hlt : b < B) : At w' b cs t := by
  unfold At at *; rw [hb.block b hlt]; exact h
theorem At.set {w : World} {b : Nat} {cs : Array Value} {t : TypeId} (h : At w b cs t) (i : Nat) (u : Value) : At (w.setCell ⟨b, i, none⟩ u) b (cs.setIfInBounds i u) t := by
  have hlt := h.lt
  unfold At at *
  have h' : w.heap[b] = .cells cs t (0, 0) := by simpa [Array.getElem?_eq_getElem hlt] using h
  show (w.heap.modify b _)[b]? = _
  rw [Array.getElem?_eq_getElem (by simpa using hlt), Array.getElem_modify_self, h']; rfl
theorem At.other {w : World} {b : Nat} {cs : Array Value} {t : TypeId} (h : At w b cs t) {a : Addr} (hne : b ≠ a.block) (u : Value) : At (w.setCell a u) b cs t := by
  unfold At at *; rw [Below.heap_setCell w a u b hne]; exact h

theorem row_apart {w : World} {b1 b2 : Nat} {e1 e2 : TypeId} {s1 s2 : Nat} {v1 v2 : Value} {n1 n2 : Nat} {x1 x2 : List Value}
    (h1 : w.ownsRow b1 e1 s1 v1 n1 x1) (h2 : w.ownsRow b2 e2 s2 v2 n2 x2) (hne : e1 ≠ e2) : v1.ownBlock = none ∨ v1.ownBlock ≠ v2.ownBlock := by
  rcases h1.2 with ⟨rfl, _⟩ | ⟨g1, c1, cur1, rfl, _, hg1, _⟩
  · exact .inl rfl
  · rcases h2.2 with ⟨rfl, _⟩ | ⟨g2, c2, cur2, rfl, _, hg2, _⟩
    · exact .inr (by simp [Value.ownBlock])
    · refine .inr ?_
      intro h
      simp only [Value.ownBlock, Option.some.injEq] at h
      subst h
      rw [hg1] at hg2
      simp at hg2
      exact hne hg2.2
/-- a block of another type is none of the row's own -/
theorem row_not {w : World} {b1 : Nat} {e1 : TypeId} {s1 : Nat} {v1 : Value} {n1 : Nat} {x1 : List Value}
    (h1 : w.ownsRow b1 e1 s1 v1 n1 x1) {b : Nat} {cs : Array Value} {t : TypeId} (h2 : At w b cs t) (hne : e1 ≠ t) : v1.ownBlock ≠ some b := by
  rcases h1.2 with ⟨rfl, _⟩ | ⟨g1, c1, cur1, rfl, _, hg1, _⟩
  · simp [Value.ownBlock]
  · intro h
    simp only [Value.ownBlock, Option.some.injEq] at h
    subst h
    unfold At at h2
    rw [hg1] at h2
    simp at h2
    exact hne h2.2

theorem row_slice {w : World} {b1 : Nat} {e1 : TypeId} {s1 : Nat} {v1 : Value} {n1 : Nat} {x1 : List Value} (h1 : w.ownsRow b1 e1 s1 v1 n1 x1) : ∃ a c, v1 = .slice a n1 c := by
  rcases h1.2 with ⟨rfl, rfl⟩ | ⟨g1, c1, cur1, rfl, _⟩
  · exact ⟨_, _, rfl⟩
  · exact ⟨_, _, rfl⟩

theorem cell_one_at (w : World) (o : Value) (t : TypeId) : ∀ j u, [o][j]? = some u → (w.alloc (.cells #[o] t)).cell? ((⟨w.heap.size, 0, none⟩ : Addr).add j) = some u := by
  intro j u hj
  match j, hj with
  | 0, hj => simp at hj; subst hj; simp [Addr.add]

theorem one_int (k : IntKind) (x : Int) : ∀ u ∈ [Value.int k x], u.oneCell' = true := by intro u hu; simp at hu; subst hu; rfl
/-- a slice value reads as a list of one-cell values -/
def Rd (w : World) (v : Value) (xs : List Value) : Prop :=
  (xs = [] ∧ ∃ a c, v = .slice a 0 c) ∨ (0 < xs.length ∧ ∃ b o c, v = .slice (some ⟨b, o, none⟩) xs.length c ∧ ∀ i u, xs[i]? = some u → w.cell? ⟨b, o + i, none⟩ = some u)
theorem Rd.of_row {w : World} {B : Nat} {e : TypeId} {v : Value} {n : Nat} {xs : List Value} (h : w.ownsRow B e 1 v n xs) : Rd w v xs := by
  have hl : xs.length = n := by have := h.1; omega
  rcases h.2 with ⟨rfl, rfl⟩ | ⟨g, cap, cur, rfl, hb, hg, hn, hm, hs, ht⟩
  · exact .inl ⟨List.length_eq_zero_iff.1 hl, _, _, rfl⟩
  · by_cases h0 : 0 < xs.length
    · refine .inr ⟨h0, g, 0, cap, by rw [hl], ?_⟩
      intro i u hu
      have := h.cells (g := g) rfl i u hu
      have hadd : (⟨g, 0, none⟩ : Addr).add i = ⟨g, 0 + i, none⟩ := by unfold Addr.add; split <;> simp_all
      rw [hadd] at this
      exact this
    · have : xs = [] := List.length_eq_zero_iff.1 (by omega)
      subst this
      simp at hl
      subst hl
      exact .inl ⟨rfl, _, _, rfl⟩
theorem Rd.below {w w' : World} {B : Nat} {v : Value} {xs : List Value} (h : Rd w v xs) (hb : Below B w w') (hB : w.heap.size ≤ B) : Rd w' v xs := by
  rcases h with h | ⟨h0, b, o, c, rfl, hc⟩
  · exact .inl h
  · refine .inr ⟨h0, b, o, c, rfl, fun i u hu => ?_⟩
    have h1 := hc i u hu
    exact (hb.cell (p := ⟨b, o + i, none⟩) (Nat.lt_of_lt_of_le (World.block_lt_of_cell? w _ h1) hB)).trans h1
theorem Rd.len {w : World} {v : Value} {xs : List Value} (h : Rd w v xs) : ∃ a c, v = .slice a xs.length c := by
  rcases h with ⟨rfl, a, c, rfl⟩ | ⟨h0, b, o, c, rfl, hc⟩
  · exact ⟨_, _, rfl⟩
  · exact ⟨_, _, rfl⟩

theorem ret_bool {a b : Bool} (h : a = b) : Ending.returned (.bool a) = .returned (.bool b) := by rw [h]
theorem ret_int {k : IntKind} {a b : Int} (h : a = b) : Ending.returned (.int k a) = .returned (.int k b) := by rw [h]

end Go.Proofs.YtmnblljenobofaaGreatDoor
