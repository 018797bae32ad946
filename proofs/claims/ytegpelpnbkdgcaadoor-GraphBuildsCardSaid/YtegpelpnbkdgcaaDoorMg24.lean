/- Merged: SrlB, OrdH, SrlG, UnqL, GphU, UnqJ. -/
import Derived.Test.YtegpelpnbkdgcaaDoorMg21
import Derived.Test.YtegpelpnbkdgcaaDoorMg15
import Derived.Test.YtegpelpnbkdgcaaDoorMg6
import Derived.Test.YtegpelpnbkdgcaaDoorExtD
import Derived.Test.YtegpelpnbkdgcaaDoorMg14
import Derived.Test.YtegpelpnbkdgcaaDoorMg5
import Derived.Test.YtegpelpnbkdgcaaDoorMg13
import Derived.Test.YtegpelpnbkdgcaaDoorOrdE
import Derived.Test.YtegpelpnbkdgcaaDoorTabF
import Derived.Test.YtegpelpnbkdgcaaDoorMg4
import Derived.Test.YtegpelpnbkdgcaaDoorMg16
import Derived.Test.YtegpelpnbkdgcaaDoorMg11
import Derived.Test.YtegpelpnbkdgcaaDoorMg23
import Derived.Test.YtegpelpnbkdgcaaDoorGphW
import Derived.Test.YtegpelpnbkdgcaaDoorUnqI
import Derived.Test.YtegpelpnbkdgcaaDoorMg18
import Derived.Recover
import Derived.Deep.RegionHeld
import Derived.Deep.DeepMust
import Derived.BigQuiet
import Derived.StillTailTactics
import Derived.Deep.QuietTactic
import Derived.Deep.RegionHeldLaw
/- The walk of package serial's goOn: the search, that ends through its calls by a panic. -/
namespace Go.Proofs.YtegpelpnbkdgcaaDoor.WPlain
end Go.Proofs.YtegpelpnbkdgcaaDoor.WPlain
namespace Go.Proofs.YtegpelpnbkdgcaaDoor.QPlain
end Go.Proofs.YtegpelpnbkdgcaaDoor.QPlain
namespace Go.Proofs.YtegpelpnbkdgcaaDoor.RPlain
end Go.Proofs.YtegpelpnbkdgcaaDoor.RPlain
namespace Go.Proofs.YtegpelpnbkdgcaaDoor
open Go.RowKit WPlain QPlain RPlain

theorem RdX.only {X s : Nat → Prop} {w w' : World} {v : Value} {xs : List Value} (h : RdX X w v xs) (ho : Only s w w') (hs : ∀ k, s k → X k) : RdX X w' v xs :=
  Kept.rd (X := X) (X' := X) ⟨ho.size, fun k hk hx => ho.block k hk (fun h => hx (hs k h)), fun _ h => .inl h⟩ h
end Go.Proofs.YtegpelpnbkdgcaaDoor
/- The walks of the reference's Before, Bit and After. -/
namespace Go.Proofs.YtegpelpnbkdgcaaDoor.WPlain
end Go.Proofs.YtegpelpnbkdgcaaDoor.WPlain
namespace Go.Proofs.YtegpelpnbkdgcaaDoor.QPlain
end Go.Proofs.YtegpelpnbkdgcaaDoor.QPlain
namespace Go.Proofs.YtegpelpnbkdgcaaDoor.RPlain
end Go.Proofs.YtegpelpnbkdgcaaDoor.RPlain
namespace Go.Proofs.YtegpelpnbkdgcaaDoor
open Go.RowKit WPlain QPlain RPlain

set_option maxRecDepth 100000 in
set_option maxHeartbeats 1000000 in
theorem refBefore_any (v : Value) (l : List Tx) (i k : Nat) (w : World) (hv : Txs w v l) (hi : i < l.length) (hk : k < l.length) (hl : l.length ≤ 65536) :
    Calls Tryd.prog 65 #[v, .int .i64 (i : Int), .int .i64 (k : Int)] w fun e w' => e = .returned (.bool (bfr l[i] l[k])) ∧ ∃ z, w' = w.drewN z := by
  obtain ⟨b, o, c, rfl⟩ := hv.opened (by omega)
  obtain ⟨u, x0, x1, x2, x3, x4, q⟩ := hv.get i hi
  obtain ⟨u', y0, y1, y2, y3, y4, q'⟩ := hv.get k hk
  clear q q' x0 x4 y0 y2 y3 y4 hv
  generalize l[i] = X at *
  generalize l[k] = Y at *
  by_cases h2 : X.s = 2
  · have HF : Hid (bfr X Y = decide (X.l < Y.f)) := by unfold Hid bfr; simp [h2]
    rw [h2] at x3
    clear h2
    go_enter Tryd.func65, Tryd.ntmps65
    go_wp2_with fail
    go_quiet (fail)
    go_wp2
    go_ret
    exact ⟨by rw [HF.out]; rfl, _, rfl⟩
  · by_cases h3 : X.s = 3
    · have HF : Hid (bfr X Y = decide (X.l < Y.f)) := by unfold Hid bfr; simp [h3]
      rw [h3] at x3
      clear h2 h3
      go_enter Tryd.func65, Tryd.ntmps65
      go_wp2_with fail
      go_quiet (fail)
      go_wp2
      go_ret
      exact ⟨by rw [HF.out]; rfl, _, rfl⟩
    · have HF : Hid (bfr X Y = false) := by unfold Hid bfr; simp [h2, h3]
      have t2 : (X.s == 2) = false := by simp [h2]
      have t3 : (X.s == 3) = false := by simp [h3]
      clear h2 h3
      go_enter Tryd.func65, Tryd.ntmps65
      go_wp2_with fail
      go_quiet (fail)
      go_wp2
      go_ret
      exact ⟨by rw [HF.out]; rfl, _, rfl⟩
set_option maxRecDepth 100000 in
theorem refBit_any (k : Nat) (hk : k < 32) (w : World) : Calls Tryd.prog 39 #[.int .i64 (k : Int)] w fun e w' => e = .returned (.int .u32 ((2 ^ k : Nat) : Int)) ∧ w' = w := by
  go_enter Tryd.func39, Tryd.ntmps39
  go_wp2_with fail
  go_loopw [3, 4] (fun y x wr => ∃ i : Nat, i ≤ k ∧ x = .int .i64 i ∧ (∃ p : Nat, y = .int .u32 p ∧ Hid (p = 2 ^ i)) ∧ wr = w) (fun _ x _ => k - (intOf x).toNat)
  case atStart => exact ⟨0, by omega, rfl, ⟨1, rfl, rfl⟩, rfl⟩
  case round =>
    obtain ⟨i, hi, rfl, ⟨p, rfl, HP⟩, rfl⟩ := hrel
    by_cases hlt : i < k
    · have hp1 : 2 * p < 4294967296 := by
        rw [HP.out, ← Nat.pow_succ']
        exact Nat.pow_lt_pow_right (a := 2) (m := i + 1) (n := 32) (by decide) (by omega)
      have HP2 : Hid (2 * p = 2 ^ (i + 1)) := by unfold Hid; rw [HP.out, Nat.pow_succ']
      clear HP
      go_wp2
      go_roundw
      case rel => exact ⟨i + 1, by omega, by go_num, ⟨2 * p, by go_num, HP2⟩, trivial⟩
      case measure => simp [intOf]; omega
    · obtain rfl : i = k := by omega
      go_wp2
      go_ret
      exact ⟨by rw [← HP.out]; rfl, rfl⟩
end Go.Proofs.YtegpelpnbkdgcaaDoor
/- The walks of the reference's small functions: in, with, Bits, Of, Why, All, left, free. -/
namespace Go.Proofs.YtegpelpnbkdgcaaDoor.WPlain
end Go.Proofs.YtegpelpnbkdgcaaDoor.WPlain
namespace Go.Proofs.YtegpelpnbkdgcaaDoor.QPlain
end Go.Proofs.YtegpelpnbkdgcaaDoor.QPlain
namespace Go.Proofs.YtegpelpnbkdgcaaDoor.RPlain
end Go.Proofs.YtegpelpnbkdgcaaDoor.RPlain
namespace Go.Proofs.YtegpelpnbkdgcaaDoor
open Go.RowKit WPlain QPlain RPlain

set_option maxRecDepth 100000 in
theorem refBitsS_any (v : Value) (l : List Tx) (n : Nat) (w : World) (hv : Txs w v l) (hl : l.length ≤ 65536) (hn : n < 4294967296) :
    Calls Tryd.prog 32 #[v, .int .u32 (n : Int)] w fun e w' => e = .returned (.bool (decide (n < 2 ^ l.length))) ∧ w' = w := by
  have HF : Hid (decide (n < 2 ^ l.length) = decide (n / 2 ^ l.length = 0)) := decide_eq_decide.2 (by
    have hp : 0 < 2 ^ l.length := Nat.two_pow_pos _
    rw [Nat.div_eq_zero_iff]
    omega)
  obtain ⟨a, c, rfl⟩ := hv.len
  clear hv
  go_enter Tryd.func32, Tryd.ntmps32
  go_wp2_with fail
  go_loopw [1, 7] (fun y x wr => ∃ i : Nat, i ≤ l.length ∧ x = .int .i64 i ∧ (∃ p : Nat, y = .int .u32 p ∧ p < 4294967296 ∧ Hid (p = n / 2 ^ i)) ∧ wr = w) (fun _ x _ => l.length - (intOf x).toNat)
  case atStart => exact ⟨0, by omega, rfl, ⟨n, rfl, hn, by unfold Hid; rw [Nat.pow_zero, Nat.div_one]⟩, rfl⟩
  case round =>
    obtain ⟨i, hi, rfl, ⟨p, rfl, hp, HP⟩, rfl⟩ := hrel
    by_cases hlt : i < l.length
    · have HP2 : Hid (p / 2 = n / 2 ^ (i + 1)) := by unfold Hid; rw [HP.out, Nat.div_div_eq_div_mul, Nat.pow_succ]
      clear HP
      go_wp2
      go_roundw
      case rel => exact ⟨i + 1, by omega, by go_num, ⟨p / 2, by go_num, by omega, HP2⟩, trivial⟩
      case measure => simp [intOf]; omega
    · obtain rfl : i = l.length := by omega
      rw [← HP.out] at HF
      clear HP
      go_wp2
      go_ret
      exact ⟨ret_bool (by rw [HF.out, Bool.eq_iff_iff]; simp), rfl⟩
end Go.Proofs.YtegpelpnbkdgcaaDoor
/- The walks of the law's alive, and of Ints at equal rows. -/
namespace Go.Proofs.YtegpelpnbkdgcaaDoor.WPlain
end Go.Proofs.YtegpelpnbkdgcaaDoor.WPlain
namespace Go.Proofs.YtegpelpnbkdgcaaDoor.QPlain
end Go.Proofs.YtegpelpnbkdgcaaDoor.QPlain
namespace Go.Proofs.YtegpelpnbkdgcaaDoor.RPlain
end Go.Proofs.YtegpelpnbkdgcaaDoor.RPlain
namespace Go.Proofs.YtegpelpnbkdgcaaDoor
open Go.RowKit WPlain QPlain RPlain

theorem rd_lit {w : World} {b : Nat} {L : List Value} {t : TypeId} (c : Nat) (h : At w b L.toArray t) : Rd w (.slice (some ⟨b, 0, none⟩) L.length c) L := by
  by_cases h0 : 0 < L.length
  · refine .inr ⟨h0, b, 0, c, rfl, fun j u hu => ?_⟩
    rw [Nat.zero_add]
    exact h.cell (by simpa using hu)
  · have : L = [] := List.length_eq_zero_iff.1 (by omega)
    subst this
    exact .inl ⟨rfl, _, _, rfl⟩
end Go.Proofs.YtegpelpnbkdgcaaDoor
/- The walks of the law's alive, why and kept. -/
namespace Go.Proofs.YtegpelpnbkdgcaaDoor.WPlain
end Go.Proofs.YtegpelpnbkdgcaaDoor.WPlain
namespace Go.Proofs.YtegpelpnbkdgcaaDoor.QPlain
end Go.Proofs.YtegpelpnbkdgcaaDoor.QPlain
namespace Go.Proofs.YtegpelpnbkdgcaaDoor.RPlain
end Go.Proofs.YtegpelpnbkdgcaaDoor.RPlain
namespace Go.Proofs.YtegpelpnbkdgcaaDoor
open Go.RowKit WPlain QPlain RPlain

def hGr : List Ev := [⟨0, 1, 0, 0⟩, ⟨1, 1, 0, 0⟩, ⟨4, 1, 0, 5⟩, ⟨5, 1, 0, 0⟩, ⟨6, 1, 0, 0⟩, ⟨0, 2, 0, 0⟩, ⟨1, 2, 0, 0⟩, ⟨2, 2, 0, 0⟩, ⟨3, 2, 0, 5⟩]
theorem errB_alive : errB hGr 1 [1, 0] = 0 := by decide +kernel
theorem bld_alive : bldS hGr 1 [1, 0] = [2, 0] := by decide +kernel
set_option maxRecDepth 100000 in
set_option maxHeartbeats 1000000 in
theorem aliveGr_any (w : World) (hK : HasK w) : Calls Tryd.prog 9 #[] w fun e w' => e = .returned (.bool true) ∧ Below w.heap.size w w' := by
  have hb0 := (Below.refl w.heap.size w).alloc (Nat.le_refl _) (.cells (evsCells hGr).toArray 69)
  have hb1 := hb0.alloc hb0.size (.cells #[.int .i64 1, .int .i64 0] 3)
  have hE := evs_at 9 hGr (At.new w (evsCells hGr).toArray 69)
  have hsz : (w.alloc (.cells (evsCells hGr).toArray 69)).heap.size = w.heap.size + 1 := by simp
  have hba : Below (w.alloc (.cells (evsCells hGr).toArray 69)).heap.size (w.alloc (.cells (evsCells hGr).toArray 69)) ((w.alloc (.cells (evsCells hGr).toArray 69)).alloc (.cells #[.int .i64 1, .int .i64 0] 3)) := (Below.refl _ _).alloc (Nat.le_refl _) _
  have hR := rd_lit (L := ints [1, 0]) 2 (At.new (w.alloc (.cells (evsCells hGr).toArray 69)) (ints [1, 0]).toArray 3)
  rw [hsz] at hR
  have hT := buildG_any _ _ _ 1 [1, 0] (by decide) _ (hK.later hb1 (Nat.le_refl _)) (hE.below hba (Nat.le_refl _)) (by decide) hR (by decide)
  rw [errB_alive, bld_alive] at hT
  simp only [hGr, evsCells, evCells, ints, u32s, List.map_cons, List.map_nil, List.flatMap_cons, List.flatMap_nil, List.append_nil, List.cons_append, List.nil_append, List.length_cons, List.length_nil] at hT hb1
  have HT := Lib.hid hT
  have HB0 := Lib.hid hb1
  clear hT hb0 hb1 hE hK hR hsz hba
  go_enter Tryd.func9, Tryd.ntmps9
  go_wp2_with fail
  refine HT.out.mono ?_
  rintro e w2 ⟨v, rfl, hv, hb⟩
  have HB := Lib.hid (HB0.out.trans (hb.mono HB0.out.size))
  obtain ⟨b, o, c, rfl, hbl, hcs⟩ := hv.opened (by simp)
  have g0 := hcs 0 (.int .u32 2) rfl
  have g1 := hcs 1 (.int .u32 0) rfl
  clear hv hb HT HB0 hcs
  simp only [Nat.add_zero, List.length_cons, List.length_nil] at *
  go_wp2
  go_ret
  exact ⟨rfl, HB.out⟩
set_option maxRecDepth 100000 in
set_option maxHeartbeats 2000000 in
theorem whyGr_any (v : Value) (h : List Ev) (cm : Nat) (w : World) (hv : Evs w v h) (hl : h.length ≤ 65536) (hcap : ∀ a n c, v = .slice a n c → n ≤ c) (hcm : cm < 4294967296) :
    Calls Tryd.prog 8 #[v, .int .u32 (cm : Int)] w fun e w' => e = .returned (.int .i64 ((errG h cm : Nat) : Int)) ∧ Below w.heap.size w w' := by
  have HWH := Lib.hid (why_any v h w hv hl hcap)
  have HRT := Lib.hid (fun (W : World) (hW : Below w.heap.size w W) => refTable_any v h W (hv.below hW (Nat.le_refl _)) hl hcap)
  rw [whyS_check] at HWH
  obtain ⟨a, c, rfl⟩ := hv.len
  clear hv hcap
  by_cases h0 : (checkS h).2 = 0
  · have HF := Lib.hid (fine_table h0)
    have hu : errU h = if uniqueS (tableS h) = true then 0 else 9 := by unfold errU; rw [if_pos h0]
    have HUN := Lib.hid (fun (v : Value) (W : World) (hW : Txs W v (tableS h)) => refUnique_any v (tableS h) W hW HF.out)
    have HBI := Lib.hid (fun (v : Value) (W : World) (hW : Txs W v (tableS h)) => refBitsS_any v (tableS h) cm W hW (by have := HF.out.six; omega) hcm)
    have hg : errG h cm = if errU h = 0 then (if cm < 2 ^ (tableS h).length then 0 else 1) else errU h := rfl
    rw [hu] at hg
    rw [h0] at HWH
    clear h0 hu
    generalize errG h cm = eg at *
    generalize tableS h = l at *
    cases hq : uniqueS l with
    | false =>
      rw [hq] at hg HUN
      simp at hg
      subst hg
      clear hq HBI
      go_enter Tryd.func8, Tryd.ntmps8
      go_wp2_with fail
      refine HWH.out.mono ?_
      rintro e w1 ⟨rfl, hb1⟩
      have HB1 := Lib.hid hb1
      clear hb1 HWH
      go_wp2_with fail
      refine (HRT.out _ HB1.out).mono ?_
      rintro e w2 ⟨v2, rfl, hv2, hb2⟩
      have HB2 := Lib.hid (HB1.out.trans (hb2.mono HB1.out.size))
      have HU2 := Lib.hid (HUN.out _ _ hv2)
      obtain ⟨a2, c2, rfl⟩ := hv2.len
      clear hv2 hb2 HB1 HRT HUN
      go_wp2_with fail
      refine HU2.out.mono ?_
      rintro e w3 ⟨rfl, hb3⟩
      have HB3 := Lib.hid (HB2.out.trans (hb3.mono HB2.out.size))
      go_wp2
      go_ret
      exact ⟨rfl, HB3.out⟩
    | true =>
      rw [hq] at hg HUN
      rw [if_pos rfl, if_pos rfl] at hg
      have HG : Hid ((cm < 2 ^ l.length ∧ eg = 0) ∨ (¬ cm < 2 ^ l.length ∧ eg = 1)) := by
        by_cases hc : cm < 2 ^ l.length
        · exact .inl ⟨hc, by rw [hg, if_pos hc]⟩
        · exact .inr ⟨hc, by rw [hg, if_neg hc]⟩
      clear hq hg
      go_enter Tryd.func8, Tryd.ntmps8
      go_wp2_with fail
      refine HWH.out.mono ?_
      rintro e w1 ⟨rfl, hb1⟩
      have HB1 := Lib.hid hb1
      clear hb1 HWH
      go_wp2_with fail
      refine (HRT.out _ HB1.out).mono ?_
      rintro e w2 ⟨v2, rfl, hv2, hb2⟩
      have HB2 := Lib.hid (HB1.out.trans (hb2.mono HB1.out.size))
      have HU2 := Lib.hid (HUN.out _ _ hv2)
      obtain ⟨a2, c2, rfl⟩ := hv2.len
      clear hv2 hb2 HB1 HUN
      go_wp2_with fail
      refine HU2.out.mono ?_
      rintro e w3 ⟨rfl, hb3⟩
      have HB3 := Lib.hid (HB2.out.trans (hb3.mono HB2.out.size))
      clear hb3 HU2 HB2
      go_wp2_with fail
      refine (HRT.out _ HB3.out).mono ?_
      rintro e w4 ⟨v4, rfl, hv4, hb4⟩
      have HB4 := Lib.hid (HB3.out.trans (hb4.mono HB3.out.size))
      have HBX := Lib.hid (HBI.out _ _ hv4)
      obtain ⟨a4, c4, rfl⟩ := hv4.len
      clear hv4 hb4 HB3 HRT HBI
      rcases HG.out with ⟨hc, rfl⟩ | ⟨hc, rfl⟩
      · rw [decide_eq_true hc] at HBX
        clear hc HG
        go_wp2_with fail
        refine HBX.out.mono ?_
        rintro e w5 ⟨rfl, rfl⟩
        go_wp2
        go_ret
        exact ⟨rfl, HB4.out⟩
      · rw [decide_eq_false hc] at HBX
        clear hc HG
        go_wp2_with fail
        refine HBX.out.mono ?_
        rintro e w5 ⟨rfl, rfl⟩
        go_wp2
        go_ret
        exact ⟨rfl, HB4.out⟩
  · have he : errG h cm = (checkS h).2 := by
      have hu : errU h = (checkS h).2 := by unfold errU; rw [if_neg h0]
      unfold errG
      rw [hu, if_neg h0]
    rw [he]
    clear he HRT
    generalize (checkS h).2 = er at *
    have tn : ((er : Int) != 0) = true := by simp; omega
    clear h0
    go_enter Tryd.func8, Tryd.ntmps8
    go_wp2_with fail
    refine HWH.out.mono ?_
    rintro e w1 ⟨rfl, hb1⟩
    have HB1 := Lib.hid hb1
    go_wp2
    go_ret
    exact ⟨rfl, HB1.out⟩
end Go.Proofs.YtegpelpnbkdgcaaDoor
/- The walk of the reference's Source. -/
namespace Go.Proofs.YtegpelpnbkdgcaaDoor.WPlain
end Go.Proofs.YtegpelpnbkdgcaaDoor.WPlain
namespace Go.Proofs.YtegpelpnbkdgcaaDoor.QPlain
end Go.Proofs.YtegpelpnbkdgcaaDoor.QPlain
namespace Go.Proofs.YtegpelpnbkdgcaaDoor.RPlain
end Go.Proofs.YtegpelpnbkdgcaaDoor.RPlain
namespace Go.Proofs.YtegpelpnbkdgcaaDoor.RPlain
open WPlain QPlain

theorem src_self {l : List Tx} {t i : Nat} {o : Rwo} (ho : (opsAt l t)[i]? = some o) (h : o.w = true ∨ ownsB ((opsAt l t).take i) o.v = true) : srcS l t i = (t : Int) := by
  unfold srcS
  rw [ho]
  dsimp only
  rw [if_pos h]
/-- the first that writes it -/
def firstW (l : List Tx) (t : Nat) (v x : Int) : Option Nat := (List.range l.length).find? (fun k => !decide (k = t) && writesB (opsAt l k) v x)
/-- the source that it tells -/
def asSrc : Option Nat → Int
  | some k => (k : Int)
  | none => -2
theorem src_read {l : List Tx} {t i : Nat} {o : Rwo} (ho : (opsAt l t)[i]? = some o) (h : ¬ (o.w = true ∨ ownsB ((opsAt l t).take i) o.v = true)) :
    srcS l t i = if o.x = 0 then -1 else asSrc (firstW l t o.v o.x) := by
  unfold srcS
  rw [ho]
  dsimp only
  rw [if_neg h]
  by_cases hx : o.x = 0
  · rw [if_pos hx, if_pos hx]
  · rw [if_neg hx, if_neg hx]
    unfold firstW
    cases (List.range l.length).find? (fun k => !decide (k = t) && writesB (opsAt l k) o.v o.x) <;> rfl
theorem range_find {n k : Nat} {p : Nat → Bool} (hk : k < n) (hn : ∀ j, j < k → p j = false) (hp : p k = true) : (List.range n).find? p = some k := by
  have h1 : List.range n = List.range k ++ (List.range (n - k)).map (k + ·) := by
    conv => lhs; rw [show n = k + (n - k) by omega, List.range_add]
  rw [h1, List.find?_append, List.find?_eq_none.2 (fun j hj => by rw [hn j (List.mem_range.1 hj)]; simp), Option.none_or]
  obtain ⟨m, hm⟩ : ∃ m, n - k = m + 1 := ⟨n - k - 1, by omega⟩
  rw [hm, List.range_succ_eq_map]
  simp [hp]
theorem firstW_some {l : List Tx} {t k : Nat} {v x : Int} (hk : k < l.length) (hn : ∀ j, j < k → j ≠ t → writesB (opsAt l j) v x = false) (hne : k ≠ t) (hp : writesB (opsAt l k) v x = true) : firstW l t v x = some k := by
  refine range_find hk (fun j hj => ?_) (by simp [hne, hp])
  by_cases he : j = t
  · simp [he]
  · rw [hn j hj he]; simp
theorem firstW_none {l : List Tx} {t : Nat} {v x : Int} (hn : ∀ j, j < l.length → j ≠ t → writesB (opsAt l j) v x = false) : firstW l t v x = none := by
  refine List.find?_eq_none.2 fun j hj => ?_
  by_cases he : j = t
  · simp [he]
  · rw [hn j (List.mem_range.1 hj) he]; simp
end Go.Proofs.YtegpelpnbkdgcaaDoor.RPlain
namespace Go.Proofs.YtegpelpnbkdgcaaDoor
open Go.RowKit WPlain QPlain RPlain

set_option maxRecDepth 100000 in
set_option maxHeartbeats 8000000 in
theorem refSource_any (v : Value) (l : List Tx) (t i : Nat) (w : World) (hv : Txs w v l) (hf : Fine l) (ht : t < l.length) (hi : i < (opsAt l t).length) :
    Calls Tryd.prog 62 #[v, .int .i64 (t : Int), .int .i64 (i : Int)] w fun e w' => e = .returned (.int .i64 (srcS l t i)) ∧ Below w.heap.size w w' := by
  have HV := Lib.hid hv
  have HF := Lib.hid hf
  have hl6 := hf.six
  obtain ⟨b, o, c, he⟩ := hv.opened (by omega)
  subst he
  obtain ⟨u, x0, x1, x2, x3, x4, q⟩ := hv.get t ht
  have hfx := hf.ops _ (List.getElem_mem ht)
  have hoe := opsAt_eq ht
  have hbl := cell_lt x0
  have hsx := fun (o : Rwo) (ho : (opsAt l t)[i]? = some o) h => src_self ho h
  have hsr := fun (o : Rwo) (ho : (opsAt l t)[i]? = some o) h => src_read ho h
  rw [hoe] at hi hsx hsr
  have HFS := Lib.hid (fun (k : Nat) (v x : Int) (hk : k < l.length) h1 h2 h3 => firstW_some (t := t) (v := v) (x := x) hk h1 h2 h3)
  have HFN := Lib.hid (fun (v x : Int) h => firstW_none (l := l) (t := t) (v := v) (x := x) h)
  clear hv hf x0 x1 x2 x3 hoe
  obtain ⟨R, hR⟩ : ∃ R, srcS l t i = R := ⟨_, rfl⟩
  rw [hR] at hsx hsr ⊢
  clear hR
  obtain ⟨ua, uc, rfl, huc⟩ := q.len
  obtain ⟨ob, oo, rfl, hobl, c0, c1, c2⟩ := Opv.at q i hi
  have hOget := List.getElem?_eq_getElem hi
  replace hsx := hsx _ hOget
  replace hsr := hsr _ hOget
  have hcut := fun (W : World) (hW : Below w.heap.size w W) => (q.below hW (Nat.le_refl _)).cut i (Nat.le_of_lt hi)
  have hwf := hfx.1
  have HOW := Lib.hid (fun (v : Int) (W : World) (hW : Below w.heap.size w W) => refOwns_any _ (l[t].o.take i) v W (hcut W hW) (by rw [List.length_take]; omega))
  clear hcut hOget q
  generalize l[t].o[i] = O at *
  generalize l[t].o.take i = pre at *
  obtain ⟨mm, hmm⟩ : ∃ mm, l[t].o.length = mm := ⟨_, rfl⟩
  rw [hmm] at x4 huc hi hwf
  clear hmm hfx
  obtain ⟨ow, ov, ox⟩ := O
  dsimp only at *
  have HSX := Lib.hid hsx
  have HSR := Lib.hid hsr
  have HB2 := Lib.hid ((Below.refl w.heap.size w).alloc (Nat.le_refl _) (.cells #[.bool ow, .int .i64 ov, .int .i64 ox] 61))
  have HOB := Lib.hid (At.new w #[.bool ow, .int .i64 ov, .int .i64 ox] 61)
  have hiu : (i : Int) ≤ (uc : Int) := by omega
  have him : (i : Int) < (mm : Int) := by omega
  have htl : (t : Int) < (l.length : Int) := by omega
  clear hsx hsr
  go_enter Tryd.func62, Tryd.ntmps62
  go_upto_region 2 with fail
  have e0 := HOB.out.cell (i := 0) rfl
  have e1 := HOB.out.cell (i := 1) rfl
  have e2 := HOB.out.cell (i := 2) rfl
  have hN := HOB.out.lt
  have x5 := (((Below.refl w.heap.size w).alloc (Nat.le_refl _) (.cells #[.bool ow, .int .i64 ov, .int .i64 ox] 61)).cell (p := ⟨b, o + t * 5 + 4, none⟩) hbl).trans x4
  generalize w.alloc (.cells #[.bool ow, .int .i64 ov, .int .i64 ox] 61) = w2 at *
  clear c0 c1 c2 x4
  cases ow with
  | true =>
    have hr := HSX.out (.inl rfl)
    subst hr
    clear HSX HSR
    go_quiet (fail)
    have HB3 : Hid (Below w.heap.size w (w2.drewN nq)) := below_drN HB2.out nq
    go_wp2
    go_ret
    exact ⟨rfl, HB3.out⟩
  | false =>
    have HSC : Hid (∀ W, Below w2.heap.size w2 W → (W.cell? ⟨w.heap.size, 0, none⟩ = some (.bool false) ∧ W.cell? ⟨w.heap.size, 1, none⟩ = some (.int .i64 ov) ∧ W.cell? ⟨w.heap.size, 2, none⟩ = some (.int .i64 ox)) ∧ W.cell? ⟨b, o + t * 5 + 4, none⟩ = some (.slice (some ⟨ob, oo, none⟩) mm uc)) := fun W hW =>
      ⟨⟨(HOB.out.below hW hN).cell (i := 0) rfl, (HOB.out.below hW hN).cell (i := 1) rfl, (HOB.out.below hW hN).cell (i := 2) rfl⟩, (hW.cell (p := ⟨b, o + t * 5 + 4, none⟩) (cell_lt x5)).trans x5⟩
    have HWB : Hid (∀ W, Below w2.heap.size w2 W → Below w.heap.size w W) := fun W hW => HB2.out.trans (hW.mono HB2.out.size)
    have HOW2 := Lib.hid (fun (W : World) (hW : Below w2.heap.size w2 W) => HOW.out ov W (HWB.out W hW))
    have HAT : Hid (∀ W, Below w2.heap.size w2 W → At W w.heap.size #[.bool false, .int .i64 ov, .int .i64 ox] 61) := fun W hW => HOB.out.below hW hN
    obtain ⟨N, hNN⟩ : ∃ N, w.heap.size = N := ⟨_, rfl⟩
    obtain ⟨r, hr⟩ : ∃ r, ownsB pre ov = r := ⟨_, rfl⟩
    rw [hr] at HOW2 HSX HSR
    rw [hNN] at HSC e0 e1 e2 HAT
    clear hr HOB HOW hN
    first
    | go_must (go_region_held_law (fun w' => (w'.cell? ⟨N, 0, none⟩ = some (.bool false) ∧ w'.cell? ⟨N, 1, none⟩ = some (.int .i64 ov) ∧ w'.cell? ⟨N, 2, none⟩ = some (.int .i64 ox)) ∧ w'.cell? ⟨b, o + t * 5 + 4, none⟩ = some (.slice (some ⟨ob, oo, none⟩) mm uc))
        (first | exact HSC.out _ hb5 | exact HSC.out _ (below_drP _))
        (first
          | (go_at_call 88; refine (HOW2.out _ (below_drP _)).mono ?_; rintro e w5 ⟨rfl, hb⟩; have hb5 := below_stpP hb)))
    | fail
    have HB5 := Lib.hid (HWB.out _ hb5)
    have HA5 := Lib.hid (HAT.out _ hb5)
    clear hb5 hb HSC HWB HAT HOW2 e0 e1 e2 x5
    cases r with
    | true =>
      have hr := HSX.out (.inr rfl)
      subst hr
      clear HSX HSR
      go_wp2
      go_ret
      exact ⟨rfl, HB5.out⟩
    | false =>
      have hr := HSR.out (by simp)
      clear HSX HSR
      have z2 := HA5.out.cell (i := 2) rfl
      by_cases h0 : ox = 0
      · have t0 : ((ox : Int) == 0) = true := by simp [h0]
        rw [if_pos h0] at hr
        subst hr
        clear h0
        go_wp2
        go_ret
        exact ⟨rfl, HB5.out⟩
      · have t0 : ((ox : Int) == 0) = false := by simp [h0]
        rw [if_neg h0] at hr
        have HR := Lib.hid hr
        have HFS1 := Lib.hid (fun (k : Nat) (hk : k < l.length) h1 h2 h3 => HFS.out k ov ox hk h1 h2 h3)
        have HFN1 := Lib.hid (fun h => HFN.out ov ox h)
        have HB6 := Lib.hid (Below.refl w5.heap.size w5)
        have HN6 : Hid (∀ k, k < 0 → k ≠ t → writesB (opsAt l k) ov ox = false) := fun k hk => absurd hk (Nat.not_lt_zero _)
        clear h0 hr HFS HFN
        go_wp2_with fail
        go_loopw [38] (fun y wr => ∃ k : Nat, k ≤ l.length ∧ y = .int .i64 k ∧ Hid (∀ k', k' < k → k' ≠ t → writesB (opsAt l k') ov ox = false) ∧ Hid (Below w5.heap.size w5 wr)) (fun y _ => l.length - (intOf y).toNat)
        case atStart => exact ⟨0, by omega, rfl, HN6, HB6⟩
        case round =>
          clear HB6 HN6 z2
          obtain ⟨k, hkl, rfl, HN, HBk⟩ := hrel
          by_cases hltk : k < l.length
          · have HBW := Lib.hid (HB5.out.trans (HBk.out.mono HB5.out.size))
            obtain ⟨z, y0, y1, y2, y3, y4, q3⟩ := (HV.out.below HBW.out (Nat.le_refl _)).get k hltk
            have hbl3 := cell_lt y0
            have hat := HA5.out.below HBk.out HA5.out.lt
            have z1 := hat.cell (i := 1) rfl
            have z2 := hat.cell (i := 2) rfl
            have hlo := cell_lt z1
            have hfy := (HF.out.ops _ (List.getElem_mem hltk)).1
            have hoe := opsAt_eq hltk
            have HFS2 := Lib.hid (fun h1 h2 => HFS1.out k hltk HN.out h1 h2)
            generalize l[k] = Y at *
            obtain ⟨Yn, Yf, Yl, Ys, Yo⟩ := Y
            dsimp only at *
            obtain ⟨ya, yc, rfl, hyc⟩ := q3.len
            have hba : Below wr.heap.size wr (wr.alloc (.cells #[.int .i64 Yn, .int .i64 Yf, .int .i64 Yl, .int .i64 Ys, .slice ya Yo.length yc] 64)) := (Below.refl _ wr).alloc (Nat.le_refl _) _
            have HBK2 := Lib.hid (HBk.out.trans (hba.mono HBk.out.size))
            have HWR := Lib.hid (refWrites_any Yn Yf Yl Ys (.slice ya Yo.length yc) Yo ov ox _ (q3.below hba (Nat.le_refl _)) hfy)
            have HOE2 := Lib.hid hoe
            clear q3 HBk hba hat hoe hfy
            by_cases hki : k = t
            · have ti : ((k : Int) != (t : Int)) = false := by simp [hki]
              have HN2 : Hid (∀ k', k' < k + 1 → k' ≠ t → writesB (opsAt l k') ov ox = false) := fun k' h1 h2 => HN.out k' (by omega) h2
              clear hki HWR HFS2 HN
              go_wp2
              go_roundw
              case rel => exact ⟨k + 1, by omega, by go_num, HN2, HBK2⟩
              case measure => simp [intOf]; omega
            · have ti : ((k : Int) != (t : Int)) = true := by simp; omega
              cases hb : writesB Yo ov ox with
              | true =>
                have hr := HR.out
                rw [HFS2.out hki (by rw [HOE2.out]; exact hb)] at hr
                unfold asSrc at hr
                dsimp only at hr
                subst hr
                rw [hb] at HWR
                clear hb HFS2 HN hki HFS1 HFN1 HR
                go_wp2_with fail
                refine HWR.out.mono ?_
                rintro e w7 ⟨rfl, hb7⟩
                have HB7 := Lib.hid (HB5.out.trans ((HBK2.out.trans (hb7.mono HBK2.out.size)).mono HB5.out.size))
                go_wp2
                go_ret
                exact ⟨rfl, HB7.out⟩
              | false =>
                have HN2 : Hid (∀ k', k' < k + 1 → k' ≠ t → writesB (opsAt l k') ov ox = false) := fun k' h1 h2 => if h : k' < k then HN.out k' h h2 else by
                  rw [show k' = k from by omega, HOE2.out]; exact hb
                rw [hb] at HWR
                clear hb HFS2 HN hki
                go_wp2_with fail
                refine HWR.out.mono ?_
                rintro e w7 ⟨rfl, hb7⟩
                have HB7 := Lib.hid (HBK2.out.trans (hb7.mono HBK2.out.size))
                clear hb7
                go_wp2
                go_roundw
                case rel => exact ⟨k + 1, by omega, by go_num, HN2, HB7⟩
                case measure => simp [intOf]; omega
          · obtain rfl : k = l.length := by omega
            have HBF := Lib.hid (HB5.out.trans (HBk.out.mono HB5.out.size))
            have hr := HR.out
            rw [HFN1.out HN.out] at hr
            unfold asSrc at hr
            dsimp only at hr
            subst hr
            clear HN HFN1 HFS1 HR
            go_wp2
            go_ret
            exact ⟨rfl, HBF.out⟩
end Go.Proofs.YtegpelpnbkdgcaaDoor
