/- Merged: PrpD, PrpE, TabF. -/
import Derived.Test.YtmnblljenobofaaGreatDoorPrpC
import Derived.Test.YtmnblljenobofaaGreatDoorTxtH
import Derived.Test.YtmnblljenobofaaGreatDoorMg7
/- The walk of follow. -/
namespace Go.Proofs.YtmnblljenobofaaGreatDoor.WPlain
end Go.Proofs.YtmnblljenobofaaGreatDoor.WPlain
namespace Go.Proofs.YtmnblljenobofaaGreatDoor.QPlain
end Go.Proofs.YtmnblljenobofaaGreatDoor.QPlain
namespace Go.Proofs.YtmnblljenobofaaGreatDoor
open Go.RowKit WPlain QPlain
open Go.Maps (Keyed)

/-- block S of the call's own is a map that reads as the states F -/
def States (B : Nat) (w : World) (S n : Nat) (F : Int → Nat) : Prop :=
  B ≤ S ∧ ∃ D : DataW Unit, w.ownsMap Tryz.prog 3 (plainElem Tryz.prog 165) S n D ∧ ∀ t : Int, (Lit.int .i64 t).wf = true → D.atKey (.int .i64 t) (.lit (.int .i64 0)) = .lit (.int .i64 (F t : Int))
theorem States.below {B C : Nat} {w w' : World} {S n : Nat} {F : Int → Nat} (h : States B w S n F) (hb : Below C w w') (hC : w.heap.size ≤ C) : States B w' S n F := by
  obtain ⟨hB, D, ho, hs⟩ := h
  exact ⟨hB, D, ownsMap_below ho hb (Nat.lt_of_lt_of_le ho.lt hC), hs⟩
theorem States.made (w : World) {B : Nat} (hB : B ≤ w.heap.size) : States B (w.alloc (.map #[] 0)) w.heap.size 0 (fun _ => 0) :=
  ⟨hB, .map [], World.ownsMap_made w _ _ _, fun _ _ => rfl⟩
theorem States.look {B : Nat} {w : World} {S n : Nat} {F : Int → Nat} (h : States B w S n F) {t : Int} (ht : (Lit.int .i64 t).wf = true) :
    (Instr.lookup 154 (.map (some S)) (.int .i64 t) false).run Tryz.prog w = .ok (.int .i64 (F t : Int)) w := by
  obtain ⟨hB, D, ho, hs⟩ := h
  obtain ⟨c, hr, hc, _⟩ := ho.lookup_int intK Tryz.underlying154 Tryz.underlying165 (zeroState w) (key_int ht)
  rw [hs t ht] at hc
  simp only [DataW.lit.injEq, Lit.int.injEq, true_and] at hc
  rw [hr, ← hc]
theorem States.put {B : Nat} {w : World} {S n : Nat} {F : Int → Nat} (h : States B w S n F) {t : Int} (ht : (Lit.int .i64 t).wf = true) {s : Nat} (hs8 : s < 8) (hn : n ≤ 65536) :
    ∃ w', (Instr.mapUpdate 154 (.map (some S)) (.int .i64 t) (.int .i64 (s : Int))).run Tryz.prog w = .ok () w' ∧ States B w' S (n + 1) (upd F t s) ∧ w.grownBy w' (some S) := by
  obtain ⟨hB, D, ho, hs⟩ := h
  have hw : (Lit.int .i64 (s : Int)).wf = true := by rcases eight hs8 with rfl | rfl | rfl | rfl | rfl | rfl | rfl | rfl <;> decide
  obtain ⟨w', hr, ho', hg⟩ := ho.update intK Tryz.underlying154 (by unfold maxLen; omega) (key_int ht) (elem_state hw)
  refine ⟨w', hr, ⟨hB, _, ho', fun u hu => ?_⟩, hg⟩
  unfold upd
  by_cases he : u = t
  · subst he
    rw [if_pos rfl]
    exact Maps.atKey_put_same ho.isMap (intK.key (key_int hu)) _ _
  · rw [if_neg he, Maps.atKey_put_other (fun hc => he (by simpa using hc))]
    exact hs u hu
theorem Mov.look {B U : Nat} {w : World} {b : Nat} (h : Mov B U w b) {s : Nat} (h8 : s < 8) :
    ∃ bs, (Instr.lookup 163 (.map (some b)) (.int .i64 (s : Int)) false).run Tryz.prog w = .ok (.map (some bs)) w ∧ B ≤ bs ∧ ∃ m, w.ownsMap Tryz.prog 3 (plainElem Tryz.prog 165) bs m (rowD s) := by
  obtain ⟨hB, _, n, D, ho, hs⟩ := h
  obtain ⟨bs, m, h1, _, h2, h3⟩ := hs s h8
  have hw : (Lit.int .i64 (s : Int)).wf = true := by rcases eight h8 with rfl | rfl | rfl | rfl | rfl | rfl | rfl | rfl <;> decide
  obtain ⟨v, ps, hr, hv⟩ := ho.lookup stateK Tryz.underlying163 (zeroMap w) (zd := .lit (.int .i64 (-1))) (zp := []) rfl (key_state hw)
  rw [h2] at hv
  obtain rfl := mapE_inv hv
  exact ⟨bs, hr, h1, m, h3⟩
theorem row_look {w : World} {bs m s k : Nat} (h : w.ownsMap Tryz.prog 3 (plainElem Tryz.prog 165) bs m (rowD s)) (h8 : s < 8) (hk : k < 10) :
    (Instr.lookup 154 (.map (some bs)) (.int .i64 (k : Int)) true).run Tryz.prog w = .ok (.tuple #[.int .i64 (((mv s k).getD 0 : Nat) : Int), .bool (mv s k).isSome]) w := by
  have hw : (Lit.int .i64 (k : Int)).wf = true := by rcases tenk hk with rfl | rfl | rfl | rfl | rfl | rfl | rfl | rfl | rfl | rfl <;> decide
  obtain ⟨v, ps, hr, hv⟩ := h.look_ok intK Tryz.underlying154 (zeroState w) (plainElem_int Tryz.underlying165 (by decide)) (key_int hw)
  rw [row_has h8 hk] at hr
  rw [row_at h8 hk] at hv
  rw [hr]
  have hz : ∀ (v : Value) (n : Nat) (ps : List MemPlace), plainElem (H := Unit) Tryz.prog 165 v = some (.lit (.int .i64 (n : Int)), ps) → v = .int .i64 (n : Int) := by
    intro v n ps hv
    obtain ⟨a, rfl, he, _⟩ := plainElem_int_inv Tryz.underlying165 hv
    simp only [Prod.mk.injEq, DataW.lit.injEq, Lit.int.injEq, true_and] at he
    rw [he.1]
  cases hm : mv s k with
  | none => rw [hm] at hv; rw [hz v 0 ps (by simpa using hv)]; rfl
  | some n => rw [hm] at hv; rw [hz v n ps (by simpa using hv)]; rfl
/-- what follow answers -/
def Fol (h : List Ev) (w : World) (e : Ending) (w' : World) : Prop :=
  Below w.heap.size w w' ∧ ((checkS h).2 ≠ 0 → e = .returned (.tuple #[.map none, .int .i64 ((checkS h).1 : Nat), .int .i64 ((checkS h).2 : Nat)])) ∧
    ((checkS h).2 = 0 → ∃ S n, e = .returned (.tuple #[.map (some S), .int .i64 ((checkS h).1 : Nat), .int .i64 0]) ∧ States w.heap.size w' S n (flw0 h).1 ∧ (∀ t, (flw0 h).1 t < 8))
set_option maxRecDepth 100000 in
set_option maxHeartbeats 2000000 in
theorem follow_any (v : Value) (h : List Ev) (w : World) (hK : HasK w) (hv : Evs w v h) (hl : h.length ≤ 65536) :
    Calls Tryz.prog 125 #[v] w (Fol h w) := by
  have HV := Lib.hid hv
  have HR := Lib.hid (right_any v h w hK hv hl)
  obtain ⟨a, c, rfl⟩ := hv.len
  unfold Fol checkS
  have hmm := @run_makeMap Tryz.prog
  clear hK hv
  cases hr : right h with
  | false =>
    rw [if_neg (by simp)]
    rw [hr] at HR
    go_enter Tryz.func125, Tryz.ntmps125
    go_wp2_with fail
    refine HR.out.mono ?_
    rintro e w1 ⟨rfl, hb1⟩
    go_wp2
    exact bodyPost_ret (v := .tuple #[.map none, .int .i64 0, .int .i64 1]) (by simp [results, Tryz.results125, go_sem]) rfl ⟨hb1, fun _ => rfl, fun hc => by simp at hc⟩
  | true =>
    rw [if_pos rfl]
    rw [hr] at HR
    obtain ⟨h60, hall⟩ := right_evs hr
    have HA := Lib.hid hall
    obtain ⟨Z, hZ⟩ : ∃ Z, flw0 h = Z := ⟨_, rfl⟩
    rw [hZ]
    have HZ := Lib.hid hZ
    obtain ⟨C, hC⟩ : ∃ C, (if Z.2.2 = true then (h.length, 0) else (Z.2.1, 6) : Nat × Nat) = C := ⟨_, rfl⟩
    rw [hC]
    have HC := Lib.hid hC
    clear hZ hr hall hC
    go_enter Tryz.func125, Tryz.ntmps125
    go_wp2_with fail
    refine HR.out.mono ?_
    rintro e w1 ⟨rfl, hb1⟩
    go_wp2_with fail
    refine (moves_any w1).mono ?_
    rintro e w2 ⟨b, rfl, hM, hb2⟩
    have hb3 := hb1.trans (hb2.mono hb1.size)
    have hM3 := hM.mono hb1.size
    have hS := States.made w2 hb3.size
    have hb4 := hb3.alloc hb3.size (.map #[] 0)
    have hM4 := hM3.below ((Below.refl w2.heap.size w2).alloc (Nat.le_refl _) (.map #[] 0)) (Nat.le_refl _)
    have HM := Lib.hid hM4
    have HS := Lib.hid hS
    have HB := Lib.hid hb4
    clear hb1 hM hb2 hb3 hM3 hS hb4 hM4
    go_wp2_with fail
    generalize w2.alloc (.map #[] 0) = w3 at *
    generalize w2.heap.size = S at *
    go_loopw [18] (fun z wr => ∃ (k : Nat) (F : Int → Nat), k ≤ h.length ∧ z = .int .i64 k ∧ Hid (flw F k (h.drop k) = Z) ∧ Hid (∀ t, F t < 8) ∧ Hid (States w.heap.size wr S k F) ∧ Hid (Mov w.heap.size S wr b) ∧ Hid (Below w.heap.size w wr)) (fun z _ => h.length - (intOf z).toNat)
    case atStart => exact ⟨0, fun _ => 0, Nat.zero_le _, rfl, HZ, fun _ => Nat.zero_lt_succ 7, HS, HM, HB⟩
    case round =>
      clear HS HM HB HZ HR
      obtain ⟨k, F, hk, rfl, HZ, HF, HS, HM, HB⟩ := hrel
      by_cases hlt : k < h.length
      · have hv2 := HV.out.below HB.out (Nat.le_refl _)
        have hz := HZ.out
        rw [List.drop_eq_getElem_cons hlt] at hz
        have hev := HA.out h[k] (List.getElem_mem hlt)
        rcases hv2 with ⟨e0, _⟩ | ⟨l0, b1, o, c', he, hbl, hc⟩
        · rw [e0] at hlt; simp at hlt
        · obtain ⟨rfl, rfl⟩ : a = some ⟨b1, o, none⟩ ∧ c = c' := by simpa using he
          clear he
          obtain ⟨c0, c1, c2, c3⟩ := hc k hlt
          clear hc
          generalize h[k] = ev at *
          obtain ⟨ek, et, evv, ex⟩ := ev
          dsimp only at hz hev c0 c1 c2 c3
          obtain ⟨kk, rfl⟩ : ∃ kk : Nat, ek = (kk : Int) := ⟨ek.toNat, by omega⟩
          have hk10 : kk < 10 := by omega
          have hwt : (Lit.int .i64 et).wf = true := wf64 (by omega) (by omega)
          have ba := (Below.refl wr.heap.size wr).alloc (Nat.le_refl _) (.cells #[.int .i64 (kk : Int), .int .i64 et, .int .i64 evv, .int .i64 ex] 53)
          have HS1 := Lib.hid (HS.out.below ba (Nat.le_refl _))
          have HM1 := Lib.hid (HM.out.below ba (Nat.le_refl _))
          have HB1 := Lib.hid (HB.out.alloc HB.out.size (.cells #[.int .i64 (kk : Int), .int .i64 et, .int .i64 evv, .int .i64 ex] 53))
          have hE := At.new wr #[.int .i64 (kk : Int), .int .i64 et, .int .i64 evv, .int .i64 ex] 53
          have q1 := HS1.out.look hwt
          obtain ⟨bs, q2, _, m, ho⟩ := HM1.out.look (HF.out et)
          have q3 := row_look ho (HF.out et) hk10
          have e0 := hE.cell (i := 0) (v := .int .i64 (kk : Int)) rfl
          have e1 := hE.cell (i := 1) (v := .int .i64 et) rfl
          have hkt : ((kk : Int)).toNat = kk := Int.toNat_natCast kk
          cases hm : mv (F et) kk with
          | none =>
            rw [hm] at q3
            rw [flw_none (by show mv (F et) ((kk : Int)).toNat = none; rw [hkt]; exact hm)] at hz
            have HC2 : Hid (C = (k, 6)) := by unfold Hid; have := HC.out; rw [← hz] at this; simpa using this.symm
            clear hz HZ hm ho hE ba hev hkt HC
            go_wp2
            exact bodyPost_ret (v := .tuple #[.map none, .int .i64 k, .int .i64 6]) (by simp [results, Tryz.results125, go_sem]) rfl ⟨HB1.out, fun _ => by rw [HC2.out]; rfl, fun hc => by rw [HC2.out] at hc; simp at hc⟩
          | some s =>
            rw [hm] at q3
            rw [flw_some (by show mv (F et) ((kk : Int)).toNat = some s; rw [hkt]; exact hm)] at hz
            have hs8 := mv_lt (HF.out et) hk10 hm
            obtain ⟨w5, q5, hS5, hg5⟩ := HS1.out.put hwt hs8 (by omega)
            have HS5 := Lib.hid hS5
            have HM5 := Lib.hid (HM1.out.grown hg5 (Nat.le_refl _))
            have HB5 := Lib.hid (grown_below HB1.out hg5 HB1.out.size hS5.1)
            have HZ5 := Lib.hid hz
            have HF5 : Hid (∀ t, upd F et s t < 8) := by
              intro t
              unfold upd
              split
              · exact hs8
              · exact HF.out t
            clear hz HZ hm ho hE ba hev hkt hS5 hg5 HS HM HB HS1 HM1 HB1
            go_wp2
            go_roundw
            case rel => exact ⟨k + 1, upd F et s, by omega, by go_num, HZ5, HF5, HS5, HM5, HB5⟩
            case measure => simp [intOf]; omega
      · obtain rfl : k = h.length := by omega
        have hz := HZ.out
        rw [List.drop_length] at hz
        have HC2 : Hid (C = (h.length, 0)) := by unfold Hid; have := HC.out; rw [← hz] at this; simpa [flw] using this.symm
        have HZ2 : Hid (Z.1 = F) := by unfold Hid; rw [← hz]; rfl
        clear hz HZ HC
        go_wp2
        refine bodyPost_ret (v := .tuple #[.map (some S), .int .i64 h.length, .int .i64 0]) (by simp [results, Tryz.results125, go_sem]) rfl ⟨HB.out, fun hc => absurd (by rw [HC2.out]) hc, fun _ => ⟨S, h.length, by rw [HC2.out], ?_, ?_⟩⟩
        · rw [HZ2.out]; exact HS.out
        · rw [HZ2.out]; exact HF.out
end Go.Proofs.YtmnblljenobofaaGreatDoor
/- The walk of Check. -/
namespace Go.Proofs.YtmnblljenobofaaGreatDoor.WPlain
end Go.Proofs.YtmnblljenobofaaGreatDoor.WPlain
namespace Go.Proofs.YtmnblljenobofaaGreatDoor.QPlain
end Go.Proofs.YtmnblljenobofaaGreatDoor.QPlain
namespace Go.Proofs.YtmnblljenobofaaGreatDoor
open Go.RowKit WPlain QPlain

theorem check_any (v : Value) (h : List Ev) (w : World) (hK : HasK w) (hv : Evs w v h) (hl : h.length ≤ 65536) :
    Calls Tryz.prog 107 #[v] w fun e w' => e = .returned (.tuple #[.int .i64 ((checkS h).1 : Nat), .int .i64 ((checkS h).2 : Nat)]) ∧ Below w.heap.size w w' := by
  have HF := Lib.hid (follow_any v h w hK hv hl)
  obtain ⟨a, c, rfl⟩ := hv.len
  clear hv hK
  unfold Fol at HF
  generalize checkS h = C at *
  generalize flw0 h = Z at *
  obtain ⟨n, er⟩ := C
  dsimp only at HF ⊢
  go_enter Tryz.func107, Tryz.ntmps107
  go_wp2_with fail
  refine HF.out.mono ?_
  rintro e w1 ⟨hb, h1, h2⟩
  by_cases h0 : er = 0
  · obtain ⟨S, m, rfl, _⟩ := h2 h0
    subst h0
    clear h1 h2
    go_wp2
    exact bodyPost_ret (v := .tuple #[.int .i64 n, .int .i64 0]) (by simp [results, Tryz.results107, go_sem]) rfl ⟨rfl, hb⟩
  · obtain rfl := h1 h0
    clear h1 h2
    go_wp2
    exact bodyPost_ret (v := .tuple #[.int .i64 n, .int .i64 er]) (by simp [results, Tryz.results107, go_sem]) rfl ⟨rfl, hb⟩
end Go.Proofs.YtmnblljenobofaaGreatDoor
/- The walk of Table. -/
namespace Go.Proofs.YtmnblljenobofaaGreatDoor.WPlain
end Go.Proofs.YtmnblljenobofaaGreatDoor.WPlain
namespace Go.Proofs.YtmnblljenobofaaGreatDoor.QPlain
end Go.Proofs.YtmnblljenobofaaGreatDoor.QPlain
namespace Go.Proofs.YtmnblljenobofaaGreatDoor.RPlain
end Go.Proofs.YtmnblljenobofaaGreatDoor.RPlain
namespace Go.Proofs.YtmnblljenobofaaGreatDoor
open Go.RowKit WPlain QPlain RPlain

/-- the table of the first events, being built, and the names beside it -/
def Tbg (B : Nat) (w : World) (M : Nat) (g : List Ev) (vn : Value) : Prop :=
  ∃ P V, Tab B w M (namesOf g).length (namesOf g) (txOf g) P V ∧ w.ownsRow B 3 1 vn (namesOf g).length (ints (namesOf g))
theorem Tab.names (B M k : Nat) {w : World} {ns : List Int} {X : Int → Tx} {P : Int → Nat} {V : Int → Value} {vn : Value} {n : Nat} {xs : List Value} (hT : Tab B w M k ns X P V) (hn : w.ownsRow B 3 1 vn n xs) {t : Int} (ht : t ∈ ns) {b : Nat} (hb : vn.ownBlock = some b) : ¬ Mine (P t) (V t) b := by
  rintro (rfl | hc)
  · exact row_not hn (hT.tx t ht).2.at_ (by decide) hb
  · rcases row_apart hn (hT.tx t ht).2.row (by decide) with hh | hh
    · rw [hh] at hb; cases hb
    · exact hh (hb.trans hc.symm)
theorem Tab.namesM (B M k : Nat) {w : World} {ns : List Int} {X : Int → Tx} {P : Int → Nat} {V : Int → Value} {vn : Value} {n : Nat} {xs : List Value} (hT : Tab B w M k ns X P V) (hn : w.ownsRow B 3 1 vn n xs) : vn.ownBlock ≠ some M := by
  obtain ⟨D, ⟨es, clock, hh, _⟩, _⟩ := hT.map
  intro hc
  rcases hn.2 with ⟨he, _⟩ | ⟨g, cap, cur, he, _, hg, _⟩
  · rw [he] at hc; simp [Value.ownBlock] at hc
  · rw [he] at hc
    simp only [Value.ownBlock, Option.some.injEq] at hc
    rw [hc, hh] at hg
    simp at hg
theorem Tbg.took {B M kk : Nat} {wA w3 : World} {ns : List Int} {X : Int → Tx} {P : Int → Nat} {V : Int → Value} {vn V' : Value} {t : Int} (x : Tx) (hT : Tab B wA M kk ns X P V) (hn : wA.ownsRow B 3 1 vn ns.length (ints ns)) (ht : t ∈ ns) (hB : B ≤ wA.heap.size)
    (ho : Only (Mine (P t) (V t)) wA w3) (hx : Txm B w3 (P t) x.n x.f x.l x.s V' x.o) (hl : Lies wA (V t) V') (g : List Ev) (hns : namesOf g = ns) (hk : kk = ns.length) (hX : ∀ u ∈ ns, txOf g u = if u = t then x else X u) : Tbg B w3 M g vn ∧ Below B wA w3 := by
  refine ⟨⟨P, fun u => if u = t then V' else V u, ?_, ?_⟩, ho.below hB (fun b _ hb => hT.mine_ge ht hb)⟩
  · rw [hns, ← hk]
    exact (hT.took ht ho hx hl).as hX
  · rw [hns]
    exact own_only hn ho (fun b hb => hT.names B M kk hn ht hb)
theorem Tab.made2 {B M k : Nat} {w : World} {ns : List Int} {X : Int → Tx} {P : Int → Nat} {V : Int → Value} (h : Tab B w M k ns X P V) {t : Int} (hw : (Lit.int .i64 t).wf = true) (ht : t ∉ ns) {N : Nat} (hN : B ≤ N) {x : Tx} {v : Value} (hx : Txm B w N x.n x.f x.l x.s v x.o)
    (hfar : ∀ u ∈ ns, ∀ b, Mine N v b → ¬ Mine (P u) (V u) b) (hMN : ¬ Mine N v M) (hk : k ≤ 65536) :
    ∃ w' X4 P4 V4, (Instr.mapUpdate 138 (.map (some M)) (.int .i64 t) (.pointer (some ⟨N, 0, none⟩))).run Tryz.prog w = .ok () w' ∧
      Tab B w' M (k + 1) (ns ++ [t]) X4 P4 V4 ∧ w.grownBy w' (some M) ∧ P4 t = N ∧ V4 t = v ∧ X4 t = x ∧ ∀ u, u ≠ t → X4 u = X u := by
  obtain ⟨w', h1, h2, h3⟩ := h.made hw ht hN hx hfar hMN hk
  exact ⟨w', _, _, _, h1, h2, h3, if_pos rfl, if_pos rfl, if_pos rfl, fun u hu => if_neg hu⟩
theorem Tab.mlt {B M k : Nat} {w : World} {ns : List Int} {X : Int → Tx} {P : Int → Nat} {V : Int → Value} (h : Tab B w M k ns X P V) : M < w.heap.size := by
  obtain ⟨D, ho, _⟩ := h.map
  exact ho.lt
theorem ints_snoc (ns : List Int) (t : Int) : ints ns ++ [.int .i64 t] = ints (ns ++ [t]) := by simp [ints]
/-- what lies from B on lies as it lay -/
def Above (B : Nat) (w w' : World) : Prop := ∀ k, B ≤ k → k < w.heap.size → w'.heap[k]? = w.heap[k]?
theorem Above.refl (B : Nat) (w : World) : Above B w w := fun _ _ _ => rfl
theorem Above.mono {B C : Nat} {w w' : World} (h : Above B w w') (hB : B ≤ C) : Above C w w' := fun k h1 h2 => h k (Nat.le_trans hB h1) h2
theorem own_above {w w' : World} {B : Nat} {e : TypeId} {s : Nat} {v : Value} {n : Nat} {xs : List Value} (h : w.ownsRow B e s v n xs) (ha : Above B w w') : w'.ownsRow B e s v n xs := by
  refine ⟨h.1, ?_⟩
  rcases h.2 with h0 | ⟨g, cap, cur, h1, h2, h3, h4⟩
  · exact .inl h0
  · exact .inr ⟨g, cap, cur, h1, h2, (by rw [ha g h2 (Array.getElem?_eq_some_iff.1 h3).1]; exact h3), h4⟩
set_option maxRecDepth 100000 in
set_option maxHeartbeats 4000000 in
theorem table_above (v : Value) (h : List Ev) (w : World) (hK : HasK w) (hv : Evs w v h) (hl : h.length ≤ 65536) :
    Calls Tryz.prog 76 #[v] w fun e w' => ∃ v', e = .returned (.tuple #[v', .int .i64 ((checkS h).2 : Nat)]) ∧ (∀ W, Above w.heap.size w' W → Txs W v' (if (checkS h).2 = 0 then tableS h else [])) ∧ Below w.heap.size w w' := by
  have HV := Lib.hid hv
  have HC := Lib.hid (check_any v h w hK hv hl)
  obtain ⟨a, c, rfl⟩ := hv.len
  clear hv hK
  by_cases h0 : (checkS h).2 = 0
  · rw [if_pos h0, h0]
    have HBE : Hid (∀ j (hj : j < h.length), h[j].t ∉ namesOf (h.take j) → h[j].k = 0) := check_begin h0
    have HRR : Hid (right h = true) := (check_agree h0).1
    have HEV : Hid (∀ e ∈ h, (Lit.int .i64 e.t).wf = true) := fun e he => by have := ((right_evs HRR.out).2 e he).2; exact wf64 (by omega) (by omega)
    have h60 : h.length ≤ 60 := (right_evs HRR.out).1
    rw [h0] at HC
    clear h0
    generalize (checkS h).1 = cc at *
    have hmm := @run_makeMap Tryz.prog
    obtain ⟨i0, hi0, hz0, hz1, hz2⟩ := info_parts infoTx
    obtain ⟨j0, hj0, hy0, hy1', hy2'⟩ := info_parts info3
    go_enter Tryz.func76, Tryz.ntmps76
    go_wp2_with fail
    refine HC.out.mono ?_
    rintro e w1 ⟨rfl, hb1⟩
    have HB1 := Lib.hid hb1
    clear hb1 HC
    have HT2 : Hid (Tbg w.heap.size (w1.alloc (.map #[] 0)) w1.heap.size [] (.slice none 0 0)) := ⟨fun _ => 0, fun _ => .slice none 0 0, Tab.start w1 HB1.out.size _ _ _, World.ownsRow_nil _ _ _ _⟩
    have HB2 : Hid (Below w.heap.size w (w1.alloc (.map #[] 0))) := HB1.out.alloc HB1.out.size _
    clear HB1
    go_wp2_with fail
    generalize w1.alloc (.map #[] 0) = w2 at *
    generalize w1.heap.size = M at *
    go_loopw [7, 26] (fun vn x wr => ∃ k : Nat, k ≤ h.length ∧ x = .int .i64 k ∧ Hid (Tbg w.heap.size wr M (h.take k) vn) ∧ Hid (Below w.heap.size w wr)) (fun _ x _ => h.length - (intOf x).toNat)
    case atStart => exact ⟨0, by omega, rfl, HT2, HB2⟩
    case round =>
      clear HT2 HB2
      obtain ⟨k, hk, rfl, HT, HB⟩ := hrel
      by_cases hlt : k < h.length
      · have hv2 := HV.out.below HB.out (Nat.le_refl _)
        have HTK : Hid (h.take (k + 1) = h.take k ++ [h[k]]) := List.take_succ_eq_append_getElem hlt
        have htl : (h.take k).length = k := by rw [List.length_take]; omega
        have hwt := HEV.out h[k] (List.getElem_mem hlt)
        have hbe := HBE.out k hlt
        have hnl := namesOf_len (h.take k)
        obtain ⟨P, V, hT, hn⟩ := HT.out
        clear HT
        rcases hv2 with ⟨e0, _⟩ | ⟨l0, b, o, c', he, hbl, hc⟩
        · rw [e0] at hlt; simp at hlt
        · obtain ⟨rfl, rfl⟩ : a = some ⟨b, o, none⟩ ∧ c = c' := by simpa using he
          clear he
          obtain ⟨c0, c1, c2, c3⟩ := hc k hlt
          clear hc
          by_cases hm : h[k].t ∈ namesOf (h.take k)
          · obtain ⟨l, hl1, hl2, hl3⟩ := asked_at (h.take k) h[k].t hm
            have hll : l < h.length := by omega
            have hla : h[l] = askedOf (h.take k) h[k].t := by rw [← hl3, List.getElem_take]
            have hTK := fun (N : Nat) (n f s : Int) (V' : Value) (q : List Rwo) (W : World) hT' hB' hv' ho' => take_any w.heap.size N k l n f s V' (.slice (some ⟨b, o, none⟩) h.length c) q h W hT' hB' hv' ho' hlt hll
            rw [hla] at hTK
            have hol := ops_le (h.take k) h[k].t
            generalize h[k] = ev at *
            generalize h.take k = g at *
            have HTKI := Lib.hid hTK
            have ba := (Below.refl wr.heap.size wr).alloc (Nat.le_refl _) (.cells #[.int .i64 ev.k, .int .i64 ev.t, .int .i64 ev.v, .int .i64 ev.x] 53)
            have HTA := Lib.hid (hT.below ba)
            have HNA := Lib.hid (row_belowT hn ba)
            have HBA := Lib.hid (HB.out.alloc HB.out.size (.cells #[.int .i64 ev.k, .int .i64 ev.t, .int .i64 ev.v, .int .i64 ev.x] 53))
            have HVA := Lib.hid (HV.out.below HBA.out (Nat.le_refl _))
            have hE := At.new wr #[.int .i64 ev.k, .int .i64 ev.t, .int .i64 ev.v, .int .i64 ev.x] 53
            have q1 := HTA.out.look_yes hwt hm
            have e1 := hE.cell (i := 1) (v := .int .i64 ev.t) rfl
            have HTX := Lib.hid (HTA.out.tx _ hm).2
            have HTX2 : Hid (Txm w.heap.size (wr.alloc (.cells #[.int .i64 ev.k, .int .i64 ev.t, .int .i64 ev.v, .int .i64 ev.x] 53)) (P ev.t) ev.t (fstOf g ev.t) (l : Int) (stateS (lastOf g ev.t)) (V ev.t) (opsOf g ev.t)) := by
              have h1 := HTX.out
              unfold txOf at h1
              dsimp only at h1
              rw [hl1] at h1
              exact h1
            have HM := Lib.hid hm
            have HTL := Lib.hid htl
            obtain ⟨na, nc, rfl⟩ := row_slice hn
            clear hTK hT hn ba hE hm hl1 hl3 hla hbe HB htl HTX
            go_wp2_with fail
            generalize wr.alloc (.cells #[.int .i64 ev.k, .int .i64 ev.t, .int .i64 ev.v, .int .i64 ev.x] 53) = wA at *
            clear q1 e1 c0 c1 c2 c3
            refine (HTKI.out (P ev.t) _ _ _ _ _ wA HTX2.out HBA.out.size HVA.out (by have := HTL.out; omega)).mono ?_
            rintro e w3 ⟨V', rfl, hx3, ho3, hl3⟩
            have hfin := Tbg.took (⟨ev.t, fstOf g ev.t, k, stateS ev.k, opsOf g ev.t ++ opStep (askedOf g ev.t) ev⟩ : Tx) HTA.out HNA.out HM.out HBA.out.size ho3 hx3 hl3 (g ++ [ev]) (names_old HM.out) rfl (by have := tx_old HM.out; rw [HTL.out] at this; exact this)
            rw [← HTK.out] at hfin
            have HT3 := Lib.hid hfin.1
            have HB3 := Lib.hid (HBA.out.trans (hfin.2.mono (Nat.le_refl _)))
            clear hx3 ho3 hl3 hfin
            go_wp2
            go_roundw
            case rel => exact ⟨k + 1, by omega, by go_num, HT3, HB3⟩
            case measure => simp [intOf]; omega
          · have HBE0 := Lib.hid (hbe hm)
            have hTK := fun (N : Nat) (n f s : Int) (V' : Value) (q : List Rwo) (W : World) hT' hB' hv' ho' => take_any w.heap.size N k k n f s V' (.slice (some ⟨b, o, none⟩) h.length c) q h W hT' hB' hv' ho' hlt hlt
            generalize h[k] = ev at *
            generalize h.take k = g at *
            have HTKI := Lib.hid hTK
            have ba := (Below.refl wr.heap.size wr).alloc (Nat.le_refl _) (.cells #[.int .i64 ev.k, .int .i64 ev.t, .int .i64 ev.v, .int .i64 ev.x] 53)
            have HTA := Lib.hid (hT.below ba)
            have HNA := Lib.hid (row_belowT hn ba)
            have HBA := Lib.hid (HB.out.alloc HB.out.size (.cells #[.int .i64 ev.k, .int .i64 ev.t, .int .i64 ev.v, .int .i64 ev.x] 53))
            have HEA := Lib.hid (At.new wr #[.int .i64 ev.k, .int .i64 ev.t, .int .i64 ev.v, .int .i64 ev.x] 53)
            have q1 := HTA.out.look_no hwt hm
            have e1 := HEA.out.cell (i := 1) (v := .int .i64 ev.t) rfl
            have HM := Lib.hid hm
            have HTL := Lib.hid htl
            have hMlt : M < wr.heap.size := hT.mlt
            obtain ⟨na, nc, rfl⟩ := row_slice hn
            clear hTK hT hn ba hm hbe HB htl
            go_upto_region 11 with fail
            generalize wr.alloc (.cells #[.int .i64 ev.k, .int .i64 ev.t, .int .i64 ev.v, .int .i64 ev.x] 53) = wA at *
            generalize wr.heap.size = N0 at *
            clear q1 c0 c1 c2 c3
            have bb := (Below.refl wA.heap.size wA).alloc (Nat.le_refl _) (.cells #[.int .i64 ev.t, .int .i64 (k : Int), .int .i64 (k : Int), .int .i64 0, .slice none 0 0] 64)
            have hxB : Txm w.heap.size (wA.alloc (.cells #[.int .i64 ev.t, .int .i64 (k : Int), .int .i64 (k : Int), .int .i64 0, .slice none 0 0] 64)) wA.heap.size ev.t k k 0 (.slice none 0 0) [] := ⟨At.new wA _ _, World.ownsRow_nil _ _ _ _⟩
            have hM : ∀ b', Mine wA.heap.size (.slice none 0 0) b' → b' = wA.heap.size := fun b' hb' => hb'.elim id (fun hh => by cases hh)
            have hTB := HTA.out.below bb
            obtain ⟨w4, X4, P4, V4, q5, hT4, hg4, hP4, hV4, hX4, hX5⟩ := hTB.made2 hwt HM.out (N := wA.heap.size) HBA.out.size (x := ⟨ev.t, k, k, 0, []⟩) (v := .slice none 0 0) hxB
              (fun u hu b' hb' hc => by have h1 := hM b' hb'; have h2 := HTA.out.mine_lt hu hc; omega) (fun hc => by have h1 := hM M hc; have h2 := HTA.out.mlt; omega) (by have := HTL.out; omega)
            have HBB : Hid (Below w.heap.size w (wA.alloc (.cells #[.int .i64 ev.t, .int .i64 (k : Int), .int .i64 (k : Int), .int .i64 0, .slice none 0 0] 64))) := HBA.out.alloc HBA.out.size _
            have HB4 : Hid (Below w.heap.size w w4) := grown_below HBB.out hg4 HBB.out.size hT4.base
            have hEB := HEA.out.alloc (.cells #[.int .i64 ev.t, .int .i64 (k : Int), .int .i64 (k : Int), .int .i64 0, .slice none 0 0] 64)
            have hE4 := hEB.grown hg4 (fun hh => by have hh := Option.some.inj hh; omega)
            have eB := hEB.cell (i := 1) (v := .int .i64 ev.t) rfl
            have e4 := hE4.cell (i := 1) (v := .int .i64 ev.t) rfl
            have hNB := row_belowT HNA.out bb
            have HN4 := Lib.hid (hNB.kept hg4 (.inr (hTB.namesM _ _ _ hNB)))
            have HT4 := Lib.hid hT4
            have HP4 := Lib.hid hP4
            have HV4 := Lib.hid hV4
            have HX4 := Lib.hid hX4
            have HX5 := Lib.hid hX5
            have HW5 : Hid (w.heap.size ≤ (w4.alloc (.cells #[.int .i64 ev.t] 3)).heap.size) := by have := HB4.out.size; simp [Hid]; omega
            have hN0 : N0 < wA.heap.size := HEA.out.lt
            have hN4 : N0 < w4.heap.size := hE4.lt
            have HNL := Lib.hid hnl
            clear bb hxB hM hTB hT4 hg4 hP4 hV4 hX4 hX5 HBA HBB hEB hE4 hNB HTA HNA HEA hMlt hnl
            go_wp2_with (at_builtin; refine wpList_append_own _ rfl _ _ 24 rfl w.heap.size 3 j0 (.int .i64 0) 1 8 Tryz.underlying24 hj0 hy0 hy1' hy2' rfl (by decide) (.slice na (namesOf g).length nc) (namesOf g).length (ints (namesOf g)) rfl (HN4.out.alloc _) ⟨w4.heap.size, 0, none⟩ 1 1 [.int .i64 ev.t] rfl rfl (cell_one_at _ _ _) (one_int _ _) (by have := HNL.out; have := HTL.out; unfold maxLen; omega) (by have := HNL.out; have := HTL.out; omega) HW5.out ?_)
            intro v5 w5 hn5 hg5 _
            obtain ⟨na5, nc5, rfl⟩ := row_slice hn5
            have ba4 := (Below.refl w4.heap.size w4).alloc (Nat.le_refl _) (.cells #[.int .i64 ev.t] 3)
            have hT4A := HT4.out.below ba4
            have hN4A := row_belowT HN4.out ba4
            have hO5 : Only (fun b' => (Value.slice na (namesOf g).length nc).ownBlock = some b') (w4.alloc (.cells #[.int .i64 ev.t] 3)) w5 := (Only.refl _ _).grown hg5 (fun b' _ hb' => hb')
            have HT5 := Lib.hid (hT4A.only hO5 (hT4A.namesM _ _ _ hN4A) (fun u hu b' hb' hc => hT4A.names _ _ _ hN4A hu hc hb'))
            have HB5 : Hid (Below w.heap.size w w5) := (HB4.out.trans (ba4.mono HB4.out.size)).trans (hO5.below HW5.out (fun b' _ hb' => (own_base hN4A hb').1))
            have HN5 : Hid (w5.ownsRow w.heap.size 3 1 (.slice na5 ((namesOf g).length + 1) nc5) (namesOf g ++ [ev.t]).length (ints (namesOf g ++ [ev.t]))) := by
              unfold Hid
              rw [← ints_snoc, List.length_append]
              exact hn5
            have HME : Hid (ev.t ∈ namesOf g ++ [ev.t]) := by unfold Hid; simp
            have hx5 := (HT5.out.tx ev.t HME.out).2
            rw [HX4.out, HP4.out, HV4.out] at hx5
            have HXX5 := Lib.hid hx5
            have HV5 := Lib.hid (HV.out.below HB5.out (Nat.le_refl _))
            clear ba4 hT4A hN4A hO5 hn5 hg5 hx5 HT4 HN4 HB4 HW5 eB e4 q5
            go_wp2_with fail
            refine (HTKI.out wA.heap.size _ _ _ _ _ w5 HXX5.out HB5.out.size HV5.out (by simp)).mono ?_
            rintro e w6 ⟨V', rfl, hx6, ho6, hl6⟩
            have hfin := Tbg.took (⟨ev.t, k, k, stateS ev.k, []⟩ : Tx) HT5.out HN5.out HME.out HB5.out.size (by rw [HP4.out, HV4.out]; exact ho6) (V' := V') (by rw [HP4.out]; rw [opStep_zero _ _ HBE0.out] at hx6; exact hx6) (by rw [HV4.out]; exact hl6) (g ++ [ev]) (names_new HM.out) (by simp)
              (fun u hu => by
                have h1 := tx_new HM.out HBE0.out u hu
                rw [HTL.out] at h1
                rw [h1]
                by_cases he : u = ev.t
                · rw [if_pos he, if_pos he]
                · rw [if_neg he, if_neg he, HX5.out u he])
            rw [← HTK.out] at hfin
            have HT6 := Lib.hid hfin.1
            have HB6 := Lib.hid (HB5.out.trans (hfin.2.mono (Nat.le_refl _)))
            clear hx6 ho6 hl6 hfin
            go_wp2
            go_roundw
            case rel => exact ⟨k + 1, by omega, by go_num, HT6, HB6⟩
            case measure => simp [intOf]; omega
      · obtain rfl : k = h.length := by omega
        obtain ⟨w9, hw9⟩ : ∃ w9 : World, w9 = wr := ⟨wr, rfl⟩
        subst hw9
        obtain ⟨P, V, hT, hn⟩ := HT.out
        rw [List.take_length] at hT hn
        have HNW : Hid (∀ t ∈ namesOf h, (Lit.int .i64 t).wf = true) := fun t ht => by
          obtain ⟨e, he, rfl⟩ := (mem_names h t).1 ht
          exact HEV.out e he
        have HTS : Hid (tableS h = (namesOf h).map (txOf h)) := rfl
        have hnl := namesOf_len h
        have HTT := Lib.hid hT
        have HNN := Lib.hid hn
        obtain ⟨na, nc, rfl⟩ := row_slice hn
        generalize namesOf h = ns at *
        generalize txOf h = X at *
        have HRA : Hid (w9.ownsRow w9.heap.size 64 5 (.slice none 0 0) 0 []) := World.ownsRow_nil _ _ _ _
        have HB0 := Lib.hid (Below.refl w9.heap.size w9)
        clear hT hn HT HBE HEV
        go_wp2_with fail
        go_loopw [12, 62] (fun va x w2 => ∃ j : Nat, j ≤ ns.length ∧ x = .int .i64 j ∧ Hid (w2.ownsRow w9.heap.size 64 5 va j (((ns.take j).map (fun t => (X t, V t))).flatMap txC)) ∧ Hid (Below w9.heap.size w9 w2)) (fun _ x _ => ns.length - (intOf x).toNat)
        case atStart => exact ⟨0, by omega, rfl, HRA, HB0⟩
        case round =>
          clear HRA HB0
          obtain ⟨j, hj, rfl, HRA, HBR⟩ := hrel
          by_cases hlj : j < ns.length
          · have hTq := HTT.out.below HBR.out
            have hnq := row_belowT HNN.out HBR.out
            have hjw := HNW.out ns[j] (List.getElem_mem hlj)
            have q1 := hTq.look hjw (List.getElem_mem hlj)
            have hxq := (hTq.tx ns[j] (List.getElem_mem hlj)).2
            have HTJ : Hid (((ns.take j).map (fun t => (X t, V t))).flatMap txC ++ [.int .i64 (X ns[j]).n, .int .i64 (X ns[j]).f, .int .i64 (X ns[j]).l, .int .i64 (X ns[j]).s, V ns[j]] = ((ns.take (j + 1)).map (fun t => (X t, V t))).flatMap txC) := by
              unfold Hid
              rw [List.take_succ_eq_append_getElem hlj, List.map_append, List.flatMap_append]
              rfl
            have hc0 : ∃ gb oo, na = some ⟨gb, oo, none⟩ ∧ wr.cell? ⟨gb, oo + j, none⟩ = some (.int .i64 ns[j]) := by
              rcases (Rd.of_row hnq).opened (by rw [ints_len]; omega) with ⟨gb, oo, cc', he, _, hcs⟩
              simp only [Value.slice.injEq] at he
              exact ⟨gb, oo, he.1, hcs j _ (by unfold ints; rw [List.getElem?_map, List.getElem?_eq_getElem hlj]; rfl)⟩
            obtain ⟨gb, oo, rfl, hcj⟩ := hc0
            have x0 := hxq.at_.cell (i := 0) rfl
            have x1 := hxq.at_.cell (i := 1) rfl
            have x2 := hxq.at_.cell (i := 2) rfl
            have x3 := hxq.at_.cell (i := 3) rfl
            have x4 := hxq.at_.cell (i := 4) rfl
            have hvo : (V ns[j]).oneCell' = true := by obtain ⟨va', vc', hv'⟩ := row_slice hxq.row; rw [hv']; rfl
            have HVO := Lib.hid hvo
            obtain ⟨ra, rc, rfl⟩ := row_slice HRA.out
            have HSQ : Hid (∀ o, w9.heap.size ≤ (wr.alloc o).heap.size) := fun o => by have := HBR.out.size; simp; omega
            clear hTq hnq hxq hjw hvo
            have HLK := Lib.hid q1
            generalize ns[j] = t at *
            generalize ((ns.take j).map (fun t => (X t, V t))).flatMap txC = L at *
            clear q1
            have q1 := HLK.out
            go_wp2_with (at_builtin; refine wpList_append_own _ rfl _ _ 34 rfl w9.heap.size 64 i0 _ 5 56 Tryz.underlying34 hi0 hz0 hz1 hz2 rfl (by decide) (.slice ra j rc) j L rfl (HRA.out.alloc _) ⟨wr.heap.size, 0, none⟩ 1 1 [.int .i64 (X t).n, .int .i64 (X t).f, .int .i64 (X t).l, .int .i64 (X t).s, V t] rfl rfl (cells_at (At.new wr #[.int .i64 (X t).n, .int .i64 (X t).f, .int .i64 (X t).l, .int .i64 (X t).s, V t] _)) (by intro u hu; simp at hu; rcases hu with rfl | rfl | rfl | rfl | rfl <;> first | rfl | exact HVO.out) (by unfold maxLen; omega) (by omega) (HSQ.out _) ?_)
            intro v5 w5 hn5 hg5 _
            obtain ⟨ra5, rc5, rfl⟩ := row_slice hn5
            rw [HTJ.out] at hn5
            have HR5 := Lib.hid hn5
            have HB5 : Hid (Below w9.heap.size w9 w5) := (HBR.out.alloc HBR.out.size (.cells #[.int .i64 (X t).n, .int .i64 (X t).f, .int .i64 (X t).l, .int .i64 (X t).s, V t] 64)).grown hg5 (HSQ.out _) (fun k' hk' => (HRA.out.lt k' hk').1)
            clear hn5 hg5
            go_wp2
            go_roundw
            case rel => exact ⟨j + 1, by omega, by go_num, HR5, HB5⟩
            case measure => simp [intOf]; omega
          · obtain rfl : j = ns.length := by omega
            obtain ⟨ra, rc, rfl⟩ := row_slice HRA.out
            have HRES : Hid (∀ W, Above w.heap.size wr W → Txs W (.slice ra ns.length rc) (ns.map X)) := by
              intro W hW
              refine ⟨ns.map (fun t => (X t, V t)), by simp, Rws.of_row txC_len (by have := own_above HRA.out (hW.mono HB.out.size); rw [List.take_length] at this; rw [List.length_map]; exact this), fun p hp => ?_⟩
              obtain ⟨t, ht, rfl⟩ := List.mem_map.1 hp
              exact Opv.of_row (own_above ((HTT.out.below HBR.out).tx t ht).2.row hW)
            have HBF := Lib.hid (HB.out.trans (HBR.out.mono HB.out.size))
            go_wp2
            refine bodyPost_ret (v := .tuple #[.slice ra ns.length rc, .int .i64 0]) (by simp [results, Tryz.results76, go_sem]) rfl ⟨_, rfl, by rw [HTS.out]; exact HRES.out, HBF.out⟩
  · rw [if_neg h0]
    obtain ⟨er, her⟩ : ∃ er, (checkS h).2 = er := ⟨_, rfl⟩
    rw [her] at HC h0 ⊢
    have te : ((er : Int) != 0) = true := by simp; omega
    clear her h0
    generalize (checkS h).1 = cc at *
    go_enter Tryz.func76, Tryz.ntmps76
    go_wp2_with fail
    refine HC.out.mono ?_
    rintro e w1 ⟨rfl, hb1⟩
    go_wp2
    refine bodyPost_ret (v := .tuple #[.slice none 0 0, .int .i64 er]) (by simp [results, Tryz.results76, go_sem]) rfl ⟨_, rfl, fun _ _ => Txs.nil _ _ _, hb1⟩
theorem table_any (v : Value) (h : List Ev) (w : World) (hK : HasK w) (hv : Evs w v h) (hl : h.length ≤ 65536) :
    Calls Tryz.prog 76 #[v] w fun e w' => ∃ v', e = .returned (.tuple #[v', .int .i64 ((checkS h).2 : Nat)]) ∧ Txs w' v' (if (checkS h).2 = 0 then tableS h else []) ∧ Below w.heap.size w w' := by
  refine (table_above v h w hK hv hl).mono ?_
  rintro e w' ⟨v', rfl, hT, hb⟩
  exact ⟨v', rfl, hT w' (Above.refl _ w'), hb⟩
end Go.Proofs.YtmnblljenobofaaGreatDoor
