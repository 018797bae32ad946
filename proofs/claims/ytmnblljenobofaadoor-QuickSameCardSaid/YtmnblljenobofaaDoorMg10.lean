/- Merged: PrpD, PrpE. -/
import Derived.Test.YtmnblljenobofaaDoorPrpC
import Derived.Test.YtmnblljenobofaaDoorTxtH
/- The walk of follow. -/
namespace Go.Proofs.YtmnblljenobofaaDoor.WPlain
end Go.Proofs.YtmnblljenobofaaDoor.WPlain
namespace Go.Proofs.YtmnblljenobofaaDoor.QPlain
end Go.Proofs.YtmnblljenobofaaDoor.QPlain
namespace Go.Proofs.YtmnblljenobofaaDoor
open Go.RowKit WPlain QPlain
open Go.Maps (Keyed)

/-- block S of the call's own is a map that reads as the states F -/
def States (B : Nat) (w : World) (S n : Nat) (F : Int → Nat) : Prop :=
  B ≤ S ∧ ∃ D : DataW Unit, w.ownsMap Tryd.prog 3 (plainElem Tryd.prog 134) S n D ∧ ∀ t : Int, (Lit.int .i64 t).wf = true → D.atKey (.int .i64 t) (.lit (.int .i64 0)) = .lit (.int .i64 (F t : Int))
theorem States.below {B C : Nat} {w w' : World} {S n : Nat} {F : Int → Nat} (h : States B w S n F) (hb : Below C w w') (hC : w.heap.size ≤ C) : States B w' S n F := by
  obtain ⟨hB, D, ho, hs⟩ := h
  exact ⟨hB, D, ownsMap_below ho hb (Nat.lt_of_lt_of_le ho.lt hC), hs⟩
theorem States.made (w : World) {B : Nat} (hB : B ≤ w.heap.size) : States B (w.alloc (.map #[] 0)) w.heap.size 0 (fun _ => 0) :=
  ⟨hB, .map [], World.ownsMap_made w _ _ _, fun _ _ => rfl⟩
theorem States.look {B : Nat} {w : World} {S n : Nat} {F : Int → Nat} (h : States B w S n F) {t : Int} (ht : (Lit.int .i64 t).wf = true) :
    (Instr.lookup 110 (.map (some S)) (.int .i64 t) false).run Tryd.prog w = .ok (.int .i64 (F t : Int)) w := by
  obtain ⟨hB, D, ho, hs⟩ := h
  obtain ⟨c, hr, hc, _⟩ := ho.lookup_int intK Tryd.underlying110 Tryd.underlying134 (zeroState w) (key_int ht)
  rw [hs t ht] at hc
  simp only [DataW.lit.injEq, Lit.int.injEq, true_and] at hc
  rw [hr, ← hc]
theorem States.put {B : Nat} {w : World} {S n : Nat} {F : Int → Nat} (h : States B w S n F) {t : Int} (ht : (Lit.int .i64 t).wf = true) {s : Nat} (hs8 : s < 8) (hn : n ≤ 65536) :
    ∃ w', (Instr.mapUpdate 110 (.map (some S)) (.int .i64 t) (.int .i64 (s : Int))).run Tryd.prog w = .ok () w' ∧ States B w' S (n + 1) (upd F t s) ∧ w.grownBy w' (some S) := by
  obtain ⟨hB, D, ho, hs⟩ := h
  have hw : (Lit.int .i64 (s : Int)).wf = true := by rcases eight hs8 with rfl | rfl | rfl | rfl | rfl | rfl | rfl | rfl <;> decide
  obtain ⟨w', hr, ho', hg⟩ := ho.update intK Tryd.underlying110 (by unfold maxLen; omega) (key_int ht) (elem_state hw)
  refine ⟨w', hr, ⟨hB, _, ho', fun u hu => ?_⟩, hg⟩
  unfold upd
  by_cases he : u = t
  · subst he
    rw [if_pos rfl]
    exact Maps.atKey_put_same ho.isMap (intK.key (key_int hu)) _ _
  · rw [if_neg he, Maps.atKey_put_other (fun hc => he (by simpa using hc))]
    exact hs u hu
theorem Mov.look {B U : Nat} {w : World} {b : Nat} (h : Mov B U w b) {s : Nat} (h8 : s < 8) :
    ∃ bs, (Instr.lookup 132 (.map (some b)) (.int .i64 (s : Int)) false).run Tryd.prog w = .ok (.map (some bs)) w ∧ B ≤ bs ∧ ∃ m, w.ownsMap Tryd.prog 3 (plainElem Tryd.prog 134) bs m (rowD s) := by
  obtain ⟨hB, _, n, D, ho, hs⟩ := h
  obtain ⟨bs, m, h1, _, h2, h3⟩ := hs s h8
  have hw : (Lit.int .i64 (s : Int)).wf = true := by rcases eight h8 with rfl | rfl | rfl | rfl | rfl | rfl | rfl | rfl <;> decide
  obtain ⟨v, ps, hr, hv⟩ := ho.lookup stateK Tryd.underlying132 (zeroMap w) (zd := .lit (.int .i64 (-1))) (zp := []) rfl (key_state hw)
  rw [h2] at hv
  obtain rfl := mapE_inv hv
  exact ⟨bs, hr, h1, m, h3⟩
theorem row_look {w : World} {bs m s k : Nat} (h : w.ownsMap Tryd.prog 3 (plainElem Tryd.prog 134) bs m (rowD s)) (h8 : s < 8) (hk : k < 10) :
    (Instr.lookup 110 (.map (some bs)) (.int .i64 (k : Int)) true).run Tryd.prog w = .ok (.tuple #[.int .i64 (((mv s k).getD 0 : Nat) : Int), .bool (mv s k).isSome]) w := by
  have hw : (Lit.int .i64 (k : Int)).wf = true := by rcases tenk hk with rfl | rfl | rfl | rfl | rfl | rfl | rfl | rfl | rfl | rfl <;> decide
  obtain ⟨v, ps, hr, hv⟩ := h.look_ok intK Tryd.underlying110 (zeroState w) (plainElem_int Tryd.underlying134 (by decide)) (key_int hw)
  rw [row_has h8 hk] at hr
  rw [row_at h8 hk] at hv
  rw [hr]
  have hz : ∀ (v : Value) (n : Nat) (ps : List MemPlace), plainElem (H := Unit) Tryd.prog 134 v = some (.lit (.int .i64 (n : Int)), ps) → v = .int .i64 (n : Int) := by
    intro v n ps hv
    obtain ⟨a, rfl, he, _⟩ := plainElem_int_inv Tryd.underlying134 hv
    simp only [Prod.mk.injEq, DataW.lit.injEq, Lit.int.injEq, true_and] at he
    rw [he.1]
  cases hm : mv s k with
  | none => rw [hm] at hv; rw [hz v 0 ps (by simpa using hv)]; rfl
  | some n => rw [hm] at hv; rw [hz v n ps (by simpa using hv)]; rfl
/-- what follow answers -/
def Fol (h : List Ev) (w : World) (e : Ending) (w' : World) : Prop :=
  Below w.heap.size w w' ∧ ((checkS h).2 ≠ 0 → e = .returned (.tuple #[.map none, .int .i64 ((checkS h).1 : Nat), .int .i64 ((checkS h).2 : Nat)])) ∧
    ((checkS h).2 = 0 → ∃ S n, e = .returned (.tuple #[.map (some S), .int .i64 ((checkS h).1 : Nat), .int .i64 0]) ∧ States w.heap.size w' S n (flw0 h).1 ∧ (∀ t, (flw0 h).1 t < 8))
set_option maxRecDepth 100000 in
set_option maxHeartbeats 2000000 in
theorem follow_any (v : Value) (h : List Ev) (w : World) (hK : HasK w) (hv : Evs w v h) (hl : h.length ≤ 65536) :
    Calls Tryd.prog 58 #[v] w (Fol h w) := by
  have HV := Lib.hid hv
  have HR := Lib.hid (right_any v h w hK hv hl)
  obtain ⟨a, c, rfl⟩ := hv.len
  unfold Fol checkS
  have hmm := @run_makeMap Tryd.prog
  clear hK hv
  cases hr : right h with
  | false =>
    rw [if_neg (by simp)]
    rw [hr] at HR
    go_enter Tryd.func58, Tryd.ntmps58
    go_wp2_with fail
    refine HR.out.mono ?_
    rintro e w1 ⟨rfl, hb1⟩
    go_wp2
    exact bodyPost_ret (v := .tuple #[.map none, .int .i64 0, .int .i64 1]) (by simp [results, Tryd.results58, go_sem]) rfl ⟨hb1, fun _ => rfl, fun hc => by simp at hc⟩
  | true =>
    rw [if_pos rfl]
    rw [hr] at HR
    obtain ⟨h60, hall⟩ := right_evs hr
    have HA := Lib.hid hall
    obtain ⟨Z, hZ⟩ : ∃ Z, flw0 h = Z := ⟨_, rfl⟩
    rw [hZ]
    have HZ := Lib.hid hZ
    obtain ⟨C, hC⟩ : ∃ C, (if Z.2.2 = true then (h.length, 0) else (Z.2.1, 6) : Nat × Nat) = C := ⟨_, rfl⟩
    rw [hC]
    have HC := Lib.hid hC
    clear hZ hr hall hC
    go_enter Tryd.func58, Tryd.ntmps58
    go_wp2_with fail
    refine HR.out.mono ?_
    rintro e w1 ⟨rfl, hb1⟩
    go_wp2_with fail
    refine (moves_any w1).mono ?_
    rintro e w2 ⟨b, rfl, hM, hb2⟩
    have hb3 := hb1.trans (hb2.mono hb1.size)
    have hM3 := hM.mono hb1.size
    have hS := States.made w2 hb3.size
    have hb4 := hb3.alloc hb3.size (.map #[] 0)
    have hM4 := hM3.below ((Below.refl w2.heap.size w2).alloc (Nat.le_refl _) (.map #[] 0)) (Nat.le_refl _)
    have HM := Lib.hid hM4
    have HS := Lib.hid hS
    have HB := Lib.hid hb4
    clear hb1 hM hb2 hb3 hM3 hS hb4 hM4
    go_wp2_with fail
    generalize w2.alloc (.map #[] 0) = w3 at *
    generalize w2.heap.size = S at *
    go_loopw [18] (fun z wr => ∃ (k : Nat) (F : Int → Nat), k ≤ h.length ∧ z = .int .i64 k ∧ Hid (flw F k (h.drop k) = Z) ∧ Hid (∀ t, F t < 8) ∧ Hid (States w.heap.size wr S k F) ∧ Hid (Mov w.heap.size S wr b) ∧ Hid (Below w.heap.size w wr)) (fun z _ => h.length - (intOf z).toNat)
    case atStart => exact ⟨0, fun _ => 0, Nat.zero_le _, rfl, HZ, fun _ => Nat.zero_lt_succ 7, HS, HM, HB⟩
    case round =>
      clear HS HM HB HZ HR
      obtain ⟨k, F, hk, rfl, HZ, HF, HS, HM, HB⟩ := hrel
      by_cases hlt : k < h.length
      · have hv2 := HV.out.below HB.out (Nat.le_refl _)
        have hz := HZ.out
        rw [List.drop_eq_getElem_cons hlt] at hz
        have hev := HA.out h[k] (List.getElem_mem hlt)
        rcases hv2 with ⟨e0, _⟩ | ⟨l0, b1, o, c', he, hbl, hc⟩
        · rw [e0] at hlt; simp at hlt
        · obtain ⟨rfl, rfl⟩ : a = some ⟨b1, o, none⟩ ∧ c = c' := by simpa using he
          clear he
          obtain ⟨c0, c1, c2, c3⟩ := hc k hlt
          clear hc
          generalize h[k] = ev at *
          obtain ⟨ek, et, evv, ex⟩ := ev
          dsimp only at hz hev c0 c1 c2 c3
          obtain ⟨kk, rfl⟩ : ∃ kk : Nat, ek = (kk : Int) := ⟨ek.toNat, by omega⟩
          have hk10 : kk < 10 := by omega
          have hwt : (Lit.int .i64 et).wf = true := wf64 (by omega) (by omega)
          have ba := (Below.refl wr.heap.size wr).alloc (Nat.le_refl _) (.cells #[.int .i64 (kk : Int), .int .i64 et, .int .i64 evv, .int .i64 ex] 46)
          have HS1 := Lib.hid (HS.out.below ba (Nat.le_refl _))
          have HM1 := Lib.hid (HM.out.below ba (Nat.le_refl _))
          have HB1 := Lib.hid (HB.out.alloc HB.out.size (.cells #[.int .i64 (kk : Int), .int .i64 et, .int .i64 evv, .int .i64 ex] 46))
          have hE := At.new wr #[.int .i64 (kk : Int), .int .i64 et, .int .i64 evv, .int .i64 ex] 46
          have q1 := HS1.out.look hwt
          obtain ⟨bs, q2, _, m, ho⟩ := HM1.out.look (HF.out et)
          have q3 := row_look ho (HF.out et) hk10
          have e0 := hE.cell (i := 0) (v := .int .i64 (kk : Int)) rfl
          have e1 := hE.cell (i := 1) (v := .int .i64 et) rfl
          have hkt : ((kk : Int)).toNat = kk := Int.toNat_natCast kk
          cases hm : mv (F et) kk with
          | none =>
            rw [hm] at q3
            rw [flw_none (by show mv (F et) ((kk : Int)).toNat = none; rw [hkt]; exact hm)] at hz
            have HC2 : Hid (C = (k, 6)) := by unfold Hid; have := HC.out; rw [← hz] at this; simpa using this.symm
            clear hz HZ hm ho hE ba hev hkt HC
            go_wp2
            exact bodyPost_ret (v := .tuple #[.map none, .int .i64 k, .int .i64 6]) (by simp [results, Tryd.results58, go_sem]) rfl ⟨HB1.out, fun _ => by rw [HC2.out]; rfl, fun hc => by rw [HC2.out] at hc; simp at hc⟩
          | some s =>
            rw [hm] at q3
            rw [flw_some (by show mv (F et) ((kk : Int)).toNat = some s; rw [hkt]; exact hm)] at hz
            have hs8 := mv_lt (HF.out et) hk10 hm
            obtain ⟨w5, q5, hS5, hg5⟩ := HS1.out.put hwt hs8 (by omega)
            have HS5 := Lib.hid hS5
            have HM5 := Lib.hid (HM1.out.grown hg5 (Nat.le_refl _))
            have HB5 := Lib.hid (grown_below HB1.out hg5 HB1.out.size hS5.1)
            have HZ5 := Lib.hid hz
            have HF5 : Hid (∀ t, upd F et s t < 8) := by
              intro t
              unfold upd
              split
              · exact hs8
              · exact HF.out t
            clear hz HZ hm ho hE ba hev hkt hS5 hg5 HS HM HB HS1 HM1 HB1
            go_wp2
            go_roundw
            case rel => exact ⟨k + 1, upd F et s, by omega, by go_num, HZ5, HF5, HS5, HM5, HB5⟩
            case measure => simp [intOf]; omega
      · obtain rfl : k = h.length := by omega
        have hz := HZ.out
        rw [List.drop_length] at hz
        have HC2 : Hid (C = (h.length, 0)) := by unfold Hid; have := HC.out; rw [← hz] at this; simpa [flw] using this.symm
        have HZ2 : Hid (Z.1 = F) := by unfold Hid; rw [← hz]; rfl
        clear hz HZ HC
        go_wp2
        refine bodyPost_ret (v := .tuple #[.map (some S), .int .i64 h.length, .int .i64 0]) (by simp [results, Tryd.results58, go_sem]) rfl ⟨HB.out, fun hc => absurd (by rw [HC2.out]) hc, fun _ => ⟨S, h.length, by rw [HC2.out], ?_, ?_⟩⟩
        · rw [HZ2.out]; exact HS.out
        · rw [HZ2.out]; exact HF.out
end Go.Proofs.YtmnblljenobofaaDoor
/- The walk of Check. -/
namespace Go.Proofs.YtmnblljenobofaaDoor.WPlain
end Go.Proofs.YtmnblljenobofaaDoor.WPlain
namespace Go.Proofs.YtmnblljenobofaaDoor.QPlain
end Go.Proofs.YtmnblljenobofaaDoor.QPlain
namespace Go.Proofs.YtmnblljenobofaaDoor
open Go.RowKit WPlain QPlain

theorem check_any (v : Value) (h : List Ev) (w : World) (hK : HasK w) (hv : Evs w v h) (hl : h.length ≤ 65536) :
    Calls Tryd.prog 36 #[v] w fun e w' => e = .returned (.tuple #[.int .i64 ((checkS h).1 : Nat), .int .i64 ((checkS h).2 : Nat)]) ∧ Below w.heap.size w w' := by
  have HF := Lib.hid (follow_any v h w hK hv hl)
  obtain ⟨a, c, rfl⟩ := hv.len
  clear hv hK
  unfold Fol at HF
  generalize checkS h = C at *
  generalize flw0 h = Z at *
  obtain ⟨n, er⟩ := C
  dsimp only at HF ⊢
  go_enter Tryd.func36, Tryd.ntmps36
  go_wp2_with fail
  refine HF.out.mono ?_
  rintro e w1 ⟨hb, h1, h2⟩
  by_cases h0 : er = 0
  · obtain ⟨S, m, rfl, _⟩ := h2 h0
    subst h0
    clear h1 h2
    go_wp2
    exact bodyPost_ret (v := .tuple #[.int .i64 n, .int .i64 0]) (by simp [results, Tryd.results36, go_sem]) rfl ⟨rfl, hb⟩
  · obtain rfl := h1 h0
    clear h1 h2
    go_wp2
    exact bodyPost_ret (v := .tuple #[.int .i64 n, .int .i64 er]) (by simp [results, Tryd.results36, go_sem]) rfl ⟨rfl, hb⟩
end Go.Proofs.YtmnblljenobofaaDoor
