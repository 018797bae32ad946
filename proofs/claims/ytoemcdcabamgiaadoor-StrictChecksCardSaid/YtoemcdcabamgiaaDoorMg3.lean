/- Merged: PrpD, PrpE, PrpF, PrpH, PrpM. -/
import Derived.Test.YtoemcdcabamgiaaDoorMg2
import Derived.Test.YtoemcdcabamgiaaDoorTxtH
import Derived.Test.YtoemcdcabamgiaaDoorMg1
import Derived.Sort.KeysCollected
/- The walk of follow. -/
namespace Go.Proofs.YtoemcdcabamgiaaDoor.WPlain
end Go.Proofs.YtoemcdcabamgiaaDoor.WPlain
namespace Go.Proofs.YtoemcdcabamgiaaDoor.QPlain
end Go.Proofs.YtoemcdcabamgiaaDoor.QPlain
namespace Go.Proofs.YtoemcdcabamgiaaDoor
open Go.RowKit WPlain QPlain
open Go.Maps (Keyed)

/-- block S of the call's own is a map that reads as the states F -/
def States (B : Nat) (w : World) (S n : Nat) (F : Int → Nat) : Prop :=
  B ≤ S ∧ ∃ D : DataW Unit, w.ownsMap Tryd.prog 3 (plainElem Tryd.prog 128) S n D ∧ ∀ t : Int, (Lit.int .i64 t).wf = true → D.atKey (.int .i64 t) (.lit (.int .i64 0)) = .lit (.int .i64 (F t : Int))
theorem States.below {B C : Nat} {w w' : World} {S n : Nat} {F : Int → Nat} (h : States B w S n F) (hb : Below C w w') (hC : w.heap.size ≤ C) : States B w' S n F := by
  obtain ⟨hB, D, ho, hs⟩ := h
  exact ⟨hB, D, ownsMap_below ho hb (Nat.lt_of_lt_of_le ho.lt hC), hs⟩
theorem States.made (w : World) {B : Nat} (hB : B ≤ w.heap.size) : States B (w.alloc (.map #[] 0)) w.heap.size 0 (fun _ => 0) :=
  ⟨hB, .map [], World.ownsMap_made w _ _ _, fun _ _ => rfl⟩
theorem States.look {B : Nat} {w : World} {S n : Nat} {F : Int → Nat} (h : States B w S n F) {t : Int} (ht : (Lit.int .i64 t).wf = true) :
    (Instr.lookup 103 (.map (some S)) (.int .i64 t) false).run Tryd.prog w = .ok (.int .i64 (F t : Int)) w := by
  obtain ⟨hB, D, ho, hs⟩ := h
  obtain ⟨c, hr, hc, _⟩ := ho.lookup_int intK Tryd.underlying103 Tryd.underlying128 (zeroState w) (key_int ht)
  rw [hs t ht] at hc
  simp only [DataW.lit.injEq, Lit.int.injEq, true_and] at hc
  rw [hr, ← hc]
theorem States.put {B : Nat} {w : World} {S n : Nat} {F : Int → Nat} (h : States B w S n F) {t : Int} (ht : (Lit.int .i64 t).wf = true) {s : Nat} (hs8 : s < 8) (hn : n ≤ 65536) :
    ∃ w', (Instr.mapUpdate 103 (.map (some S)) (.int .i64 t) (.int .i64 (s : Int))).run Tryd.prog w = .ok () w' ∧ States B w' S (n + 1) (upd F t s) ∧ w.grownBy w' (some S) := by
  obtain ⟨hB, D, ho, hs⟩ := h
  have hw : (Lit.int .i64 (s : Int)).wf = true := by rcases eight hs8 with rfl | rfl | rfl | rfl | rfl | rfl | rfl | rfl <;> decide
  obtain ⟨w', hr, ho', hg⟩ := ho.update intK Tryd.underlying103 (by unfold maxLen; omega) (key_int ht) (elem_state hw)
  refine ⟨w', hr, ⟨hB, _, ho', fun u hu => ?_⟩, hg⟩
  unfold upd
  by_cases he : u = t
  · subst he
    rw [if_pos rfl]
    exact Maps.atKey_put_same ho.isMap (intK.key (key_int hu)) _ _
  · rw [if_neg he, Maps.atKey_put_other (fun hc => he (by simpa using hc))]
    exact hs u hu
theorem Mov.look {B U : Nat} {w : World} {b : Nat} (h : Mov B U w b) {s : Nat} (h8 : s < 8) :
    ∃ bs, (Instr.lookup 126 (.map (some b)) (.int .i64 (s : Int)) false).run Tryd.prog w = .ok (.map (some bs)) w ∧ B ≤ bs ∧ ∃ m, w.ownsMap Tryd.prog 3 (plainElem Tryd.prog 128) bs m (rowD s) := by
  obtain ⟨hB, _, n, D, ho, hs⟩ := h
  obtain ⟨bs, m, h1, _, h2, h3⟩ := hs s h8
  have hw : (Lit.int .i64 (s : Int)).wf = true := by rcases eight h8 with rfl | rfl | rfl | rfl | rfl | rfl | rfl | rfl <;> decide
  obtain ⟨v, ps, hr, hv⟩ := ho.lookup stateK Tryd.underlying126 (zeroMap w) (zd := .lit (.int .i64 (-1))) (zp := []) rfl (key_state hw)
  rw [h2] at hv
  obtain rfl := mapE_inv hv
  exact ⟨bs, hr, h1, m, h3⟩
theorem row_look {w : World} {bs m s k : Nat} (h : w.ownsMap Tryd.prog 3 (plainElem Tryd.prog 128) bs m (rowD s)) (h8 : s < 8) (hk : k < 10) :
    (Instr.lookup 103 (.map (some bs)) (.int .i64 (k : Int)) true).run Tryd.prog w = .ok (.tuple #[.int .i64 (((mv s k).getD 0 : Nat) : Int), .bool (mv s k).isSome]) w := by
  have hw : (Lit.int .i64 (k : Int)).wf = true := by rcases tenk hk with rfl | rfl | rfl | rfl | rfl | rfl | rfl | rfl | rfl | rfl <;> decide
  obtain ⟨v, ps, hr, hv⟩ := h.look_ok intK Tryd.underlying103 (zeroState w) (plainElem_int Tryd.underlying128 (by decide)) (key_int hw)
  rw [row_has h8 hk] at hr
  rw [row_at h8 hk] at hv
  rw [hr]
  have hz : ∀ (v : Value) (n : Nat) (ps : List MemPlace), plainElem (H := Unit) Tryd.prog 128 v = some (.lit (.int .i64 (n : Int)), ps) → v = .int .i64 (n : Int) := by
    intro v n ps hv
    obtain ⟨a, rfl, he, _⟩ := plainElem_int_inv Tryd.underlying128 hv
    simp only [Prod.mk.injEq, DataW.lit.injEq, Lit.int.injEq, true_and] at he
    rw [he.1]
  cases hm : mv s k with
  | none => rw [hm] at hv; rw [hz v 0 ps (by simpa using hv)]; rfl
  | some n => rw [hm] at hv; rw [hz v n ps (by simpa using hv)]; rfl
/-- what follow answers -/
def Fol (h : List Ev) (w : World) (e : Ending) (w' : World) : Prop :=
  Below w.heap.size w w' ∧ ((checkS h).2 ≠ 0 → e = .returned (.tuple #[.map none, .int .i64 ((checkS h).1 : Nat), .int .i64 ((checkS h).2 : Nat)])) ∧
    ((checkS h).2 = 0 → ∃ S n, e = .returned (.tuple #[.map (some S), .int .i64 ((checkS h).1 : Nat), .int .i64 0]) ∧ States w.heap.size w' S n (flw0 h).1 ∧ (∀ t, (flw0 h).1 t < 8))
set_option maxRecDepth 100000 in
set_option maxHeartbeats 2000000 in
theorem follow_any (v : Value) (h : List Ev) (w : World) (hK : HasK w) (hv : Evs w v h) (hl : h.length ≤ 65536) :
    Calls Tryd.prog 59 #[v] w (Fol h w) := by
  have HV := Lib.hid hv
  have HR := Lib.hid (right_any v h w hK hv hl)
  obtain ⟨a, c, rfl⟩ := hv.len
  unfold Fol checkS
  have hmm := @run_makeMap Tryd.prog
  clear hK hv
  cases hr : right h with
  | false =>
    rw [if_neg (by simp)]
    rw [hr] at HR
    go_enter Tryd.func59, Tryd.ntmps59
    go_wp2_with fail
    refine HR.out.mono ?_
    rintro e w1 ⟨rfl, hb1⟩
    go_wp2
    exact bodyPost_ret (v := .tuple #[.map none, .int .i64 0, .int .i64 1]) (by simp [results, Tryd.results59, go_sem]) rfl ⟨hb1, fun _ => rfl, fun hc => by simp at hc⟩
  | true =>
    rw [if_pos rfl]
    rw [hr] at HR
    obtain ⟨h60, hall⟩ := right_evs hr
    have HA := Lib.hid hall
    obtain ⟨Z, hZ⟩ : ∃ Z, flw0 h = Z := ⟨_, rfl⟩
    rw [hZ]
    have HZ := Lib.hid hZ
    obtain ⟨C, hC⟩ : ∃ C, (if Z.2.2 = true then (h.length, 0) else (Z.2.1, 6) : Nat × Nat) = C := ⟨_, rfl⟩
    rw [hC]
    have HC := Lib.hid hC
    clear hZ hr hall hC
    go_enter Tryd.func59, Tryd.ntmps59
    go_wp2_with fail
    refine HR.out.mono ?_
    rintro e w1 ⟨rfl, hb1⟩
    go_wp2_with fail
    refine (moves_any w1).mono ?_
    rintro e w2 ⟨b, rfl, hM, hb2⟩
    have hb3 := hb1.trans (hb2.mono hb1.size)
    have hM3 := hM.mono hb1.size
    have hS := States.made w2 hb3.size
    have hb4 := hb3.alloc hb3.size (.map #[] 0)
    have hM4 := hM3.below ((Below.refl w2.heap.size w2).alloc (Nat.le_refl _) (.map #[] 0)) (Nat.le_refl _)
    have HM := Lib.hid hM4
    have HS := Lib.hid hS
    have HB := Lib.hid hb4
    clear hb1 hM hb2 hb3 hM3 hS hb4 hM4
    go_wp2_with fail
    generalize w2.alloc (.map #[] 0) = w3 at *
    generalize w2.heap.size = S at *
    go_loopw [18] (fun z wr => ∃ (k : Nat) (F : Int → Nat), k ≤ h.length ∧ z = .int .i64 k ∧ Hid (flw F k (h.drop k) = Z) ∧ Hid (∀ t, F t < 8) ∧ Hid (States w.heap.size wr S k F) ∧ Hid (Mov w.heap.size S wr b) ∧ Hid (Below w.heap.size w wr)) (fun z _ => h.length - (intOf z).toNat)
    case atStart => exact ⟨0, fun _ => 0, Nat.zero_le _, rfl, HZ, fun _ => Nat.zero_lt_succ 7, HS, HM, HB⟩
    case round =>
      clear HS HM HB HZ HR
      obtain ⟨k, F, hk, rfl, HZ, HF, HS, HM, HB⟩ := hrel
      by_cases hlt : k < h.length
      · have hv2 := HV.out.below HB.out (Nat.le_refl _)
        have hz := HZ.out
        rw [List.drop_eq_getElem_cons hlt] at hz
        have hev := HA.out h[k] (List.getElem_mem hlt)
        rcases hv2 with ⟨e0, _⟩ | ⟨l0, b1, o, c', he, hbl, hc⟩
        · rw [e0] at hlt; simp at hlt
        · obtain ⟨rfl, rfl⟩ : a = some ⟨b1, o, none⟩ ∧ c = c' := by simpa using he
          clear he
          obtain ⟨c0, c1, c2, c3⟩ := hc k hlt
          clear hc
          generalize h[k] = ev at *
          obtain ⟨ek, et, evv, ex⟩ := ev
          dsimp only at hz hev c0 c1 c2 c3
          obtain ⟨kk, rfl⟩ : ∃ kk : Nat, ek = (kk : Int) := ⟨ek.toNat, by omega⟩
          have hk10 : kk < 10 := by omega
          have hwt : (Lit.int .i64 et).wf = true := wf64 (by omega) (by omega)
          have ba := (Below.refl wr.heap.size wr).alloc (Nat.le_refl _) (.cells #[.int .i64 (kk : Int), .int .i64 et, .int .i64 evv, .int .i64 ex] 45)
          have HS1 := Lib.hid (HS.out.below ba (Nat.le_refl _))
          have HM1 := Lib.hid (HM.out.below ba (Nat.le_refl _))
          have HB1 := Lib.hid (HB.out.alloc HB.out.size (.cells #[.int .i64 (kk : Int), .int .i64 et, .int .i64 evv, .int .i64 ex] 45))
          have hE := At.new wr #[.int .i64 (kk : Int), .int .i64 et, .int .i64 evv, .int .i64 ex] 45
          have q1 := HS1.out.look hwt
          obtain ⟨bs, q2, _, m, ho⟩ := HM1.out.look (HF.out et)
          have q3 := row_look ho (HF.out et) hk10
          have e0 := hE.cell (i := 0) (v := .int .i64 (kk : Int)) rfl
          have e1 := hE.cell (i := 1) (v := .int .i64 et) rfl
          have hkt : ((kk : Int)).toNat = kk := Int.toNat_natCast kk
          cases hm : mv (F et) kk with
          | none =>
            rw [hm] at q3
            rw [flw_none (by show mv (F et) ((kk : Int)).toNat = none; rw [hkt]; exact hm)] at hz
            have HC2 : Hid (C = (k, 6)) := by unfold Hid; have := HC.out; rw [← hz] at this; simpa using this.symm
            clear hz HZ hm ho hE ba hev hkt HC
            go_wp2
            exact bodyPost_ret (v := .tuple #[.map none, .int .i64 k, .int .i64 6]) (by simp [results, Tryd.results59, go_sem]) rfl ⟨HB1.out, fun _ => by rw [HC2.out]; rfl, fun hc => by rw [HC2.out] at hc; simp at hc⟩
          | some s =>
            rw [hm] at q3
            rw [flw_some (by show mv (F et) ((kk : Int)).toNat = some s; rw [hkt]; exact hm)] at hz
            have hs8 := mv_lt (HF.out et) hk10 hm
            obtain ⟨w5, q5, hS5, hg5⟩ := HS1.out.put hwt hs8 (by omega)
            have HS5 := Lib.hid hS5
            have HM5 := Lib.hid (HM1.out.grown hg5 (Nat.le_refl _))
            have HB5 := Lib.hid (grown_below HB1.out hg5 HB1.out.size hS5.1)
            have HZ5 := Lib.hid hz
            have HF5 : Hid (∀ t, upd F et s t < 8) := by
              intro t
              unfold upd
              split
              · exact hs8
              · exact HF.out t
            clear hz HZ hm ho hE ba hev hkt hS5 hg5 HS HM HB HS1 HM1 HB1
            go_wp2
            go_roundw
            case rel => exact ⟨k + 1, upd F et s, by omega, by go_num, HZ5, HF5, HS5, HM5, HB5⟩
            case measure => simp [intOf]; omega
      · obtain rfl : k = h.length := by omega
        have hz := HZ.out
        rw [List.drop_length] at hz
        have HC2 : Hid (C = (h.length, 0)) := by unfold Hid; have := HC.out; rw [← hz] at this; simpa [flw] using this.symm
        have HZ2 : Hid (Z.1 = F) := by unfold Hid; rw [← hz]; rfl
        clear hz HZ HC
        go_wp2
        refine bodyPost_ret (v := .tuple #[.map (some S), .int .i64 h.length, .int .i64 0]) (by simp [results, Tryd.results59, go_sem]) rfl ⟨HB.out, fun hc => absurd (by rw [HC2.out]) hc, fun _ => ⟨S, h.length, by rw [HC2.out], ?_, ?_⟩⟩
        · rw [HZ2.out]; exact HS.out
        · rw [HZ2.out]; exact HF.out
end Go.Proofs.YtoemcdcabamgiaaDoor
/- The walk of Check. -/
namespace Go.Proofs.YtoemcdcabamgiaaDoor.WPlain
end Go.Proofs.YtoemcdcabamgiaaDoor.WPlain
namespace Go.Proofs.YtoemcdcabamgiaaDoor.QPlain
end Go.Proofs.YtoemcdcabamgiaaDoor.QPlain
namespace Go.Proofs.YtoemcdcabamgiaaDoor
open Go.RowKit WPlain QPlain

theorem check_any (v : Value) (h : List Ev) (w : World) (hK : HasK w) (hv : Evs w v h) (hl : h.length ≤ 65536) :
    Calls Tryd.prog 30 #[v] w fun e w' => e = .returned (.tuple #[.int .i64 ((checkS h).1 : Nat), .int .i64 ((checkS h).2 : Nat)]) ∧ Below w.heap.size w w' := by
  have HF := Lib.hid (follow_any v h w hK hv hl)
  obtain ⟨a, c, rfl⟩ := hv.len
  clear hv hK
  unfold Fol at HF
  generalize checkS h = C at *
  generalize flw0 h = Z at *
  obtain ⟨n, er⟩ := C
  dsimp only at HF ⊢
  go_enter Tryd.func30, Tryd.ntmps30
  go_wp2_with fail
  refine HF.out.mono ?_
  rintro e w1 ⟨hb, h1, h2⟩
  by_cases h0 : er = 0
  · obtain ⟨S, m, rfl, _⟩ := h2 h0
    subst h0
    clear h1 h2
    go_wp2
    exact bodyPost_ret (v := .tuple #[.int .i64 n, .int .i64 0]) (by simp [results, Tryd.results30, go_sem]) rfl ⟨rfl, hb⟩
  · obtain rfl := h1 h0
    clear h1 h2
    go_wp2
    exact bodyPost_ret (v := .tuple #[.int .i64 n, .int .i64 er]) (by simp [results, Tryd.results30, go_sem]) rfl ⟨rfl, hb⟩
end Go.Proofs.YtoemcdcabamgiaaDoor
/- Plain words: the kinds that may come next, collected and sorted. -/
namespace Go.Proofs.YtoemcdcabamgiaaDoor.WPlain
end Go.Proofs.YtoemcdcabamgiaaDoor.WPlain
namespace Go.Proofs.YtoemcdcabamgiaaDoor.QPlain
open WPlain

/-- the kinds that may come next in a state, rising -/
def kindsS (s : Nat) : List Int := (mvs.getD s []).map fun p => (p.1 : Int)
/-- the kinds met so far -/
def Coll (s : Nat) (left : Lit → Bool) (ss : List Int) : Prop := ss.Nodup ∧ ∀ x : Int, x ∈ ss ↔ (Maps.has (rowD s) (.int .i64 x) = true ∧ left (.int .i64 x) = false)
theorem Coll.start (s : Nat) : Coll s (Maps.has (rowD s)) [] := ⟨List.nodup_nil, fun x => by cases Maps.has (rowD s) (.int .i64 x) <;> simp⟩
theorem Coll.step {s : Nat} {left : Lit → Bool} {ss : List Int} (h : Coll s left ss) {x : Int} {y : DataW Unit} (hlk : left (.int .i64 x) = true) (hat : ∀ zd, (rowD s).atKey (.int .i64 x) zd = y) :
    Coll s (fun z => left z && !z.sameKey (.int .i64 x)) (ss ++ [x]) := by
  have hhas : Maps.has (rowD s) (.int .i64 x) = true := Maps.has_true_of_atKey hat
  have hnew : x ∉ ss := fun hx => by have := ((h.2 x).1 hx).2; rw [hlk] at this; cases this
  refine ⟨List.nodup_append.2 ⟨h.1, by simp, fun a ha b hb => by simp at hb; subst hb; exact fun e => hnew (e ▸ ha)⟩, fun y => ?_⟩
  by_cases hy : y = x
  · subst hy; simp [hhas, Lit.sameKey]
  · simp [h.2 y, hy, Lit.sameKey]
theorem row_keys {s : Nat} (h8 : s < 8) : ∃ es, rowD s = .map es ∧ es.map (·.1) = (kindsS s).map (Lit.int .i64) := by
  rcases eight h8 with rfl | rfl | rfl | rfl | rfl | rfl | rfl | rfl <;> exact ⟨_, rfl, rfl⟩
theorem kinds_has {s : Nat} (h8 : s < 8) (x : Int) : x ∈ kindsS s ↔ Maps.has (rowD s) (.int .i64 x) = true := by
  obtain ⟨es, h1, h2⟩ := row_keys h8
  rw [h1, Maps.has_eq]
  have h3 : es.any (fun p => p.1.sameKey (.int .i64 x)) = (es.map (·.1)).any (fun l => l.sameKey (.int .i64 x)) := by rw [List.any_map]; rfl
  rw [h3, h2, List.any_map, List.any_eq_true]
  simp [Lit.sameKey]
end Go.Proofs.YtoemcdcabamgiaaDoor.QPlain
/- Plain words: the document's answer, from the last event of a transaction; and that it is the states' answer. -/
namespace Go.Proofs.YtoemcdcabamgiaaDoor.WPlain
end Go.Proofs.YtoemcdcabamgiaaDoor.WPlain
namespace Go.Proofs.YtoemcdcabamgiaaDoor.QPlain
open WPlain

/-- the kind of a transaction's last event; -1: it has none -/
def lastOf (h : List Ev) (t : Int) : Int := h.foldl (fun o e => if e.t = t then e.k else o) (-1)
/-- may a kind come behind another one? -/
def mayS (l k : Int) : Bool :=
  if l = -1 then k == 0 else if l = 0 then (k == 1 || k == 9) else if l = 1 ∨ l = 3 ∨ l = 5 then (k == 2 || k == 4 || k == 6 || k == 8)
  else if l = 2 then (k == 3 || k == 9) else if l = 4 then (k == 5 || k == 9) else if l = 6 then (k == 7 || k == 9) else if l = 8 then k == 9 else false
/-- the place of the first event that may not be there, behind others -/
def firstG (pre : List Ev) : List Ev → Nat
  | [] => pre.length
  | e :: r => if mayS (lastOf pre e.t) e.k = true then firstG (pre ++ [e]) r else pre.length
def firstS (h : List Ev) : Nat := firstG [] h
/-- the state behind a kind -/
def stOfL (l : Int) : Nat := if l = -1 then 0 else if l = 0 then 1 else if l = 1 ∨ l = 3 ∨ l = 5 then 2 else if l = 2 then 3 else if l = 4 then 4 else if l = 6 then 5 else if l = 8 then 6 else 7
theorem lastOf_snoc (h : List Ev) (e : Ev) (t : Int) : lastOf (h ++ [e]) t = if e.t = t then e.k else lastOf h t := by simp [lastOf]
theorem lastOf_range {h : List Ev} (hh : ∀ e ∈ h, 0 ≤ e.k ∧ e.k < 10) (t : Int) : -1 ≤ lastOf h t ∧ lastOf h t < 10 := by
  have hg : ∀ (l : List Ev) (o : Int), (∀ e ∈ l, 0 ≤ e.k ∧ e.k < 10) → -1 ≤ o ∧ o < 10 → -1 ≤ l.foldl (fun o e => if e.t = t then e.k else o) o ∧ l.foldl (fun o e => if e.t = t then e.k else o) o < 10 := by
    intro l
    induction l with
    | nil => intro o _ ho; exact ho
    | cons e r ih =>
      intro o hl ho
      simp only [List.foldl_cons]
      refine ih _ (fun x hx => hl x (List.mem_cons_of_mem _ hx)) ?_
      have := hl e (List.mem_cons_self ..)
      split <;> omega
  exact hg h (-1) hh (by omega)
theorem lasts {l : Int} (h : -1 ≤ l ∧ l < 10) : l = -1 ∨ l = 0 ∨ l = 1 ∨ l = 2 ∨ l = 3 ∨ l = 4 ∨ l = 5 ∨ l = 6 ∨ l = 7 ∨ l = 8 ∨ l = 9 := by omega
theorem tenI {k : Int} (h : 0 ≤ k ∧ k < 10) : k = 0 ∨ k = 1 ∨ k = 2 ∨ k = 3 ∨ k = 4 ∨ k = 5 ∨ k = 6 ∨ k = 7 ∨ k = 8 ∨ k = 9 := by omega
theorem may_mv {l k : Int} (hl : -1 ≤ l ∧ l < 10) (hk : 0 ≤ k ∧ k < 10) : mayS l k = (mv (stOfL l) k.toNat).isSome ∧ ∀ s, mv (stOfL l) k.toNat = some s → s = stOfL k := by
  have hall : ∀ l ∈ [(-1 : Int), 0, 1, 2, 3, 4, 5, 6, 7, 8, 9], ∀ k ∈ [(0 : Int), 1, 2, 3, 4, 5, 6, 7, 8, 9], mayS l k = (mv (stOfL l) k.toNat).isSome ∧ (mv (stOfL l) k.toNat).all (fun s => s == stOfL k) = true := by decide +kernel
  have h1 : l ∈ [(-1 : Int), 0, 1, 2, 3, 4, 5, 6, 7, 8, 9] := by simp; omega
  have h2 : k ∈ [(0 : Int), 1, 2, 3, 4, 5, 6, 7, 8, 9] := by simp; omega
  obtain ⟨h3, h4⟩ := hall l h1 k h2
  refine ⟨h3, fun s hs => ?_⟩
  rw [hs] at h4
  simpa using h4
theorem stOfL_lt (l : Int) : stOfL l < 8 := by unfold stOfL; repeat' split
                                               all_goals omega
/-- the states are those behind the last kinds -/
def Agree (F : Int → Nat) (pre : List Ev) : Prop := ∀ t, F t = stOfL (lastOf pre t)
theorem Agree.start : Agree (fun _ => 0) [] := fun _ => rfl
theorem Agree.step {F : Int → Nat} {pre : List Ev} {e : Ev} {s : Nat} (h : Agree F pre) (hpre : ∀ e ∈ pre, 0 ≤ e.k ∧ e.k < 10) (he : 0 ≤ e.k ∧ e.k < 10) (hs : mv (F e.t) e.k.toNat = some s) : Agree (upd F e.t s) (pre ++ [e]) := by
  intro t
  rw [lastOf_snoc]
  unfold upd
  by_cases ht : t = e.t
  · subst ht
    rw [if_pos rfl, if_pos rfl]
    rw [h e.t] at hs
    exact (may_mv (lastOf_range hpre e.t) he).2 s hs
  · rw [if_neg ht, if_neg (fun hc => ht hc.symm)]
    exact h t
theorem flw_first : ∀ (r pre : List Ev) (F : Int → Nat), Agree F pre → (∀ e ∈ pre, 0 ≤ e.k ∧ e.k < 10) → (∀ e ∈ r, 0 ≤ e.k ∧ e.k < 10) →
    (flw F pre.length r).2.1 = firstG pre r ∧ ((flw F pre.length r).2.2 = decide (firstG pre r = (pre ++ r).length)) ∧ firstG pre r ≤ (pre ++ r).length ∧ ((flw F pre.length r).2.2 = true → Agree (flw F pre.length r).1 (pre ++ r)) := by
  intro r
  induction r with
  | nil =>
    intro pre F hA _ _
    simp only [flw, firstG, List.append_nil]
    exact ⟨trivial, by simp, Nat.le_refl _, fun _ => hA⟩
  | cons e r ih =>
    intro pre F hA hpre hr
    have he := hr e (List.mem_cons_self ..)
    have hm := may_mv (lastOf_range hpre e.t) he
    rw [← hA e.t] at hm
    unfold firstG
    cases hmv : mv (F e.t) e.k.toNat with
    | none =>
      rw [hmv] at hm
      rw [flw_none hmv, if_neg (by rw [hm.1]; simp)]
      refine ⟨rfl, ?_, by simp, fun hc => by simp at hc⟩
      symm
      simp
    | some s =>
      rw [hmv] at hm
      rw [flw_some hmv, if_pos (by rw [hm.1]; rfl)]
      have := ih (pre ++ [e]) (upd F e.t s) (hA.step hpre he hmv) (fun x hx => by
        rcases List.mem_append.1 hx with hx | hx
        · exact hpre x hx
        · rw [List.mem_singleton.1 hx]; exact he) (fun x hx => hr x (List.mem_cons_of_mem _ hx))
      rw [List.length_append, List.length_singleton] at this
      simpa [List.append_assoc] using this
theorem check_first {h : List Ev} (hr : right h = true) : checkS h = if firstS h = h.length then (h.length, 0) else (firstS h, 6) := by
  have hk := (right_evs hr).2
  obtain ⟨h1, h2, _⟩ := flw_first h [] _ Agree.start (fun _ hc => by cases hc) (fun e he => (hk e he).1)
  unfold checkS firstS flw0
  rw [if_pos hr]
  simp only [List.length_nil, List.nil_append] at h1 h2
  rw [h2, h1]
  by_cases he : firstG [] h = h.length
  · simp [he]
  · simp [he]
theorem first_le {h : List Ev} (hr : right h = true) : firstS h ≤ h.length := by
  have hk := (right_evs hr).2
  unfold firstS
  simpa using (flw_first h [] _ Agree.start (fun _ hc => by cases hc) (fun e he => (hk e he).1)).2.2.1
theorem check_agree {h : List Ev} (hc : (checkS h).2 = 0) : right h = true ∧ Agree (flw0 h).1 h ∧ (flw0 h).2.2 = true := by
  cases hr : right h with
  | false => unfold checkS at hc; rw [hr] at hc; simp at hc
  | true =>
    have hk := (right_evs hr).2
    obtain ⟨h1, h2, _, h4⟩ := flw_first h [] _ Agree.start (fun _ hc => by cases hc) (fun e he => (hk e he).1)
    unfold checkS at hc
    rw [if_pos hr] at hc
    have h5 : (flw0 h).2.2 = true := by
      cases h6 : (flw0 h).2.2 with
      | true => rfl
      | false => rw [h6] at hc; simp at hc
    exact ⟨rfl, by simpa [flw0] using h4 h5, h5⟩
theorem kinds_may {l : Int} (hl : -1 ≤ l ∧ l < 10) : ((List.range 10).map Int.ofNat).filter (fun k => mayS l k) = kindsS (stOfL l) := by
  rcases lasts hl with rfl | rfl | rfl | rfl | rfl | rfl | rfl | rfl | rfl | rfl | rfl <;> decide +kernel
end Go.Proofs.YtoemcdcabamgiaaDoor.QPlain
/- Plain words: what is well formed is so up to any place; and goes on so. -/
namespace Go.Proofs.YtoemcdcabamgiaaDoor.WPlain
end Go.Proofs.YtoemcdcabamgiaaDoor.WPlain
namespace Go.Proofs.YtoemcdcabamgiaaDoor.QPlain
open WPlain

theorem flw_ok : ∀ (a : List Ev) (F : Int → Nat) (i : Nat), ((flw F i a).2.2 = true → (flw F i a).2.1 = i + a.length) ∧ ((flw F i a).2.2 = false → i ≤ (flw F i a).2.1 ∧ (flw F i a).2.1 < i + a.length) := by
  intro a
  induction a with
  | nil => intro F i; exact ⟨fun _ => rfl, fun h => by simp [flw] at h⟩
  | cons e r ih =>
    intro F i
    cases hm : mv (F e.t) e.k.toNat with
    | none =>
      rw [flw_none hm]
      exact ⟨fun h => by simp at h, fun _ => ⟨Nat.le_refl _, by simp⟩⟩
    | some s =>
      rw [flw_some hm]
      obtain ⟨h1, h2⟩ := ih (upd F e.t s) (i + 1)
      simp only [List.length_cons]
      exact ⟨fun h => by have := h1 h; omega, fun h => by have := h2 h; omega⟩
theorem flw_app : ∀ (a b : List Ev) (F : Int → Nat) (i : Nat), flw F i (a ++ b) = if (flw F i a).2.2 = true then flw (flw F i a).1 (flw F i a).2.1 b else flw F i a := by
  intro a
  induction a with
  | nil => intro b F i; rw [List.nil_append]; exact (if_pos rfl).symm
  | cons e r ih =>
    intro b F i
    rw [List.cons_append]
    cases hm : mv (F e.t) e.k.toNat with
    | none => rw [flw_none hm, flw_none hm]; exact (if_neg (by simp)).symm
    | some s => rw [flw_some hm, flw_some hm]; exact ih b _ _
theorem right_take {h : List Ev} (hr : right h = true) (k : Nat) : right (h.take k) = true := by
  have hnm : ∀ (g h : List Ev), (namesOf h).length ≤ (namesOf (h ++ g)).length := by
    intro g
    induction g with
    | nil => intro h; simp
    | cons e r ih =>
      intro h
      have h1 := ih (h ++ [e])
      rw [List.append_assoc] at h1
      have h2 : (namesOf h).length ≤ (namesOf (h ++ [e])).length := by
        rw [namesOf_snoc]; unfold addName; split <;> simp
      exact Nat.le_trans h2 h1
  have h3 := hnm (h.drop k) (h.take k)
  rw [List.take_append_drop] at h3
  simp only [right, Bool.and_eq_true, decide_eq_true_eq, List.all_eq_true] at hr ⊢
  refine ⟨⟨?_, fun e he => hr.1.2 e (List.mem_of_mem_take he)⟩, by omega⟩
  rw [List.length_take]; omega
/-- up to a place -/
theorem check_take {h : List Ev} (hr : right h = true) {k : Nat} (hk : k ≤ h.length) :
    ((checkS h).2 = 0 ∧ (checkS h).1 = h.length ∧ (checkS (h.take k)) = (k, 0)) ∨
    ((checkS h).2 = 6 ∧ k ≤ (checkS h).1 ∧ (checkS (h.take k)) = (k, 0)) ∨
    ((checkS h).2 = 6 ∧ (checkS h).1 < k ∧ (checkS (h.take k)) = ((checkS h).1, 6)) := by
  have htl : (h.take k).length = k := by rw [List.length_take]; omega
  have hsp := flw_app (h.take k) (h.drop k) (fun _ => 0) 0
  rw [List.take_append_drop] at hsp
  have hA := flw_ok (h.take k) (fun _ => 0) 0
  have hB := flw_ok h (fun _ => 0) 0
  unfold checkS
  rw [if_pos hr, if_pos (right_take hr k)]
  unfold flw0
  rw [htl]
  rw [htl] at hA
  cases h1 : (flw (fun _ => 0) 0 (h.take k)).2.2 with
  | true =>
    rw [if_pos h1] at hsp
    have hd := flw_ok (h.drop k) (flw (fun _ => 0) 0 (h.take k)).1 (flw (fun _ => 0) 0 (h.take k)).2.1
    have hp := hA.1 h1
    cases h2 : (flw (fun _ => 0) 0 h).2.2 with
    | true => exact .inl ⟨by simp, by simp, by simp⟩
    | false =>
      refine .inr (.inl ⟨by simp, ?_, by simp⟩)
      rw [← hsp] at hd
      have := (hd.2 h2).1
      simp
      omega
  | false =>
    rw [if_neg (by rw [h1]; simp)] at hsp
    have hp := (hA.2 h1).2
    refine .inr (.inr ⟨?_, ?_, ?_⟩)
    · rw [hsp, h1]; simp
    · rw [hsp, h1]; simp; omega
    · rw [hsp, h1]; simp
/-- an event more -/
theorem check_snoc {h : List Ev} {e : Ev} (hr : right (h ++ [e]) = true) :
    right h = true ∧ (((checkS h).2 = 6 ∧ checkS (h ++ [e]) = checkS h) ∨
    ((checkS h).2 = 0 ∧ ((checkS (h ++ [e])).2 = 0 ↔ e.k ∈ kindsS ((flw0 h).1 e.t)) ∧ ((checkS (h ++ [e])).2 ≠ 0 → checkS (h ++ [e]) = (h.length, 6)))) := by
  have hrh : right h = true := by have := right_take hr h.length; rwa [List.take_left' rfl] at this
  have hek := ((right_evs hr).2 e (by simp)).1
  have hag := @check_agree h
  have hok := flw_ok h (fun _ => 0) 0
  have hsp := flw_app h [e] (fun _ => 0) 0
  refine ⟨hrh, ?_⟩
  unfold checkS at hag ⊢
  rw [if_pos hrh] at hag
  rw [if_pos hr, if_pos hrh]
  unfold flw0 at hag ⊢
  cases h1 : (flw (fun _ => 0) 0 h).2.2 with
  | true =>
    rw [if_pos h1] at hsp
    rw [h1] at hag
    obtain ⟨_, hA, _⟩ := hag rfl
    refine .inr ⟨by simp, ?_⟩
    have hp := hok.1 h1
    have h8 : (flw (fun _ => 0) 0 h).1 e.t < 8 := by
      rw [hA e.t]
      unfold stOfL
      (repeat' split) <;> decide
    obtain ⟨kk, hkk⟩ : ∃ kk : Nat, e.k = (kk : Int) := ⟨e.k.toNat, by omega⟩
    have hkt : e.k.toNat = kk := by rw [hkk]; exact Int.toNat_natCast kk
    have hmem : e.k ∈ kindsS ((flw (fun _ => 0) 0 h).1 e.t) ↔ (mv ((flw (fun _ => 0) 0 h).1 e.t) kk).isSome = true := by
      rw [kinds_has h8, hkk, row_has h8 (by omega)]
    rw [hmem]
    cases hm : mv ((flw (fun _ => 0) 0 h).1 e.t) kk with
    | none =>
      rw [flw_none (by rw [hkt]; exact hm)] at hsp
      rw [hsp]
      simp
      omega
    | some s =>
      rw [flw_some (by rw [hkt]; exact hm)] at hsp
      rw [hsp]
      simp [flw]
  | false =>
    rw [if_neg (by rw [h1]; simp)] at hsp
    refine .inl ⟨by simp, ?_⟩
    rw [hsp, h1]
    rfl
end Go.Proofs.YtoemcdcabamgiaaDoor.QPlain
