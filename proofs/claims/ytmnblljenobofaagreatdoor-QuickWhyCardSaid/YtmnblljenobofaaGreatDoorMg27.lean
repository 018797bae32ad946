/- Merged: SrlP, SrlA, SrlB, SrlC, OrdH, OrdJ, UnqJ. -/
import Derived.Test.YtmnblljenobofaaGreatDoorMg6
import Derived.Test.YtmnblljenobofaaGreatDoorMg20
import Derived.Test.YtmnblljenobofaaGreatDoorMg12
import Derived.Test.YtmnblljenobofaaGreatDoorMg21
import Derived.Test.YtmnblljenobofaaGreatDoorMg13
import Derived.Test.YtmnblljenobofaaGreatDoorMg3
import Derived.Test.YtmnblljenobofaaGreatDoorMg16
import Derived.Test.YtmnblljenobofaaGreatDoorMg10
import Derived.Recover
import Derived.Deep.RegionHeld
import Derived.Deep.DeepMust
import Derived.StillTailTactics
import Derived.BigQuiet
import Derived.Deep.RegionHeldLaw
/- Plain words: the places left as bits; a loop over all places, of which some are left. -/
namespace Go.Proofs.YtmnblljenobofaaGreatDoor.WPlain
end Go.Proofs.YtmnblljenobofaaGreatDoor.WPlain
namespace Go.Proofs.YtmnblljenobofaaGreatDoor.QPlain
end Go.Proofs.YtmnblljenobofaaGreatDoor.QPlain
namespace Go.Proofs.YtmnblljenobofaaGreatDoor.RPlain
open WPlain QPlain

theorem pow_le_64 {n : Nat} (h : n ≤ 6) : 2 ^ n ≤ 64 := Nat.pow_le_pow_right (n := 2) (i := n) (j := 6) (by decide) h
theorem after_lt (l : List Tx) (h6 : l.length ≤ 6) : ∀ a ∈ afterS l, a < 64 := fun a ha => by
  obtain ⟨X, _, rfl⟩ := List.mem_map.1 ha
  exact Nat.lt_of_lt_of_le (afterN_lt _ _) (pow_le_64 h6)
end Go.Proofs.YtmnblljenobofaaGreatDoor.RPlain
/- The walks of package serial: bit, placesOf, nextOf, afterOf, step, isLegal. -/
namespace Go.Proofs.YtmnblljenobofaaGreatDoor.WPlain
end Go.Proofs.YtmnblljenobofaaGreatDoor.WPlain
namespace Go.Proofs.YtmnblljenobofaaGreatDoor.QPlain
end Go.Proofs.YtmnblljenobofaaGreatDoor.QPlain
namespace Go.Proofs.YtmnblljenobofaaGreatDoor.RPlain
end Go.Proofs.YtmnblljenobofaaGreatDoor.RPlain
namespace Go.Proofs.YtmnblljenobofaaGreatDoor
open Go.RowKit WPlain QPlain RPlain

theorem nats_intsS (L : List Nat) : nats L = ints (L.map fun x : Nat => (x : Int)) := by simp [nats, ints]
theorem belowDrS (w : World) : Below w.heap.size w w.drew := (Below.refl _ _).drew
end Go.Proofs.YtmnblljenobofaaGreatDoor
/- The walk of package serial's goOn: the search, that ends through its calls by a panic. -/
namespace Go.Proofs.YtmnblljenobofaaGreatDoor.WPlain
end Go.Proofs.YtmnblljenobofaaGreatDoor.WPlain
namespace Go.Proofs.YtmnblljenobofaaGreatDoor.QPlain
end Go.Proofs.YtmnblljenobofaaGreatDoor.QPlain
namespace Go.Proofs.YtmnblljenobofaaGreatDoor.RPlain
end Go.Proofs.YtmnblljenobofaaGreatDoor.RPlain
namespace Go.Proofs.YtmnblljenobofaaGreatDoor
open Go.RowKit WPlain QPlain RPlain

/-- a slice is no longer than its room -/
def CapV (v : Value) : Prop := ∀ a n c, v = .slice a n c → n ≤ c
theorem CapV.of_row {B : Nat} {w : World} {e : TypeId} {z : Nat} {v : Value} {n : Nat} {xs : List Value} (h : w.ownsRow B e z v n xs) : CapV v := by
  rcases h.2 with ⟨rfl, h0⟩ | ⟨g, cap, cur, rfl, hb, hg, hn, hm, hs, ht⟩
  · intro a n c he
    simp only [Value.slice.injEq] at he
    omega
  · intro a n c he
    simp only [Value.slice.injEq] at he
    omega
theorem RdX.only {X s : Nat → Prop} {w w' : World} {v : Value} {xs : List Value} (h : RdX X w v xs) (ho : Only s w w') (hs : ∀ k, s k → X k) : RdX X w' v xs :=
  Kept.rd (X := X) (X' := X) ⟨ho.size, fun k hk hx => ho.block k hk (fun h => hx (hs k h)), fun _ h => .inl h⟩ h
theorem RdX.of_row {X : Nat → Prop} {B : Nat} {w : World} {e : TypeId} {v : Value} {n : Nat} {xs : List Value} (h : w.ownsRow B e 1 v n xs) (hX : ∀ k, X k → k < B) : RdX X w v xs := by
  rcases Rd.of_row h with h0 | ⟨h0, g, o, c, rfl, hc⟩
  · exact .inl h0
  · refine .inr ⟨h0, g, o, c, rfl, fun he => ?_, hc⟩
    have := (own_base h (k := g) rfl).1
    have := hX g he
    omega
end Go.Proofs.YtmnblljenobofaaGreatDoor
/- The walks of package serial's deferred closure, run, Row, Search, Like. -/
namespace Go.Proofs.YtmnblljenobofaaGreatDoor.WPlain
end Go.Proofs.YtmnblljenobofaaGreatDoor.WPlain
namespace Go.Proofs.YtmnblljenobofaaGreatDoor.QPlain
end Go.Proofs.YtmnblljenobofaaGreatDoor.QPlain
namespace Go.Proofs.YtmnblljenobofaaGreatDoor.RPlain
end Go.Proofs.YtmnblljenobofaaGreatDoor.RPlain
namespace Go.Proofs.YtmnblljenobofaaGreatDoor
open Go.RowKit WPlain QPlain RPlain

def fnd (v c : Nat) (rv : Value) (s : Nat) : Array Value := #[.int .i64 (v : Int), .int .u32 (c : Int), rv, .int .i64 (s : Int)]
theorem fnd_set {w : World} {N v c s v' c' s' : Nat} {rv rv' : Value} {t : TypeId} (h : At w N (fnd v c rv s) t) :
    At ((((w.setCell ⟨N, 0, none⟩ (.int .i64 (v' : Int))).setCell ⟨N, 1, none⟩ (.int .u32 (c' : Int))).setCell ⟨N, 2, none⟩ rv').setCell ⟨N, 3, none⟩ (.int .i64 (s' : Int))) N (fnd v' c' rv' s') t :=
  (((h.set 0 _).set 1 _).set 2 _).set 3 _
theorem fnd_only (w : World) (N : Nat) (x0 x1 x2 x3 : Value) : Only (fun k => k = N) w ((((w.setCell ⟨N, 0, none⟩ x0).setCell ⟨N, 1, none⟩ x1).setCell ⟨N, 2, none⟩ x2).setCell ⟨N, 3, none⟩ x3) :=
  ((((Only.refl (fun k => k = N) w).setCell (p := ⟨N, 0, none⟩) (fun _ => rfl) x0).setCell (p := ⟨N, 1, none⟩) (fun _ => rfl) x1).setCell (p := ⟨N, 2, none⟩) (fun _ => rfl) x2).setCell (p := ⟨N, 3, none⟩) (fun _ => rfl) x3
/-- what is found, as it lies -/
def fndV (v c : Nat) (rv : Value) (s : Nat) : Value := .agg #[.int .i64 (v : Int), .int .u32 (c : Int), rv, .int .i64 (s : Int)]
end Go.Proofs.YtmnblljenobofaaGreatDoor
/- The walks of the reference's Before, Bit and After. -/
namespace Go.Proofs.YtmnblljenobofaaGreatDoor.WPlain
end Go.Proofs.YtmnblljenobofaaGreatDoor.WPlain
namespace Go.Proofs.YtmnblljenobofaaGreatDoor.QPlain
end Go.Proofs.YtmnblljenobofaaGreatDoor.QPlain
namespace Go.Proofs.YtmnblljenobofaaGreatDoor.RPlain
end Go.Proofs.YtmnblljenobofaaGreatDoor.RPlain
namespace Go.Proofs.YtmnblljenobofaaGreatDoor
open Go.RowKit WPlain QPlain RPlain

set_option maxRecDepth 100000 in
set_option maxHeartbeats 1000000 in
theorem refBefore_any (v : Value) (l : List Tx) (i k : Nat) (w : World) (hv : Txs w v l) (hi : i < l.length) (hk : k < l.length) (hl : l.length ≤ 65536) :
    Calls Tryz.prog 52 #[v, .int .i64 (i : Int), .int .i64 (k : Int)] w fun e w' => e = .returned (.bool (bfr l[i] l[k])) ∧ ∃ z, w' = w.drewN z := by
  obtain ⟨b, o, c, rfl⟩ := hv.opened (by omega)
  obtain ⟨u, x0, x1, x2, x3, x4, q⟩ := hv.get i hi
  obtain ⟨u', y0, y1, y2, y3, y4, q'⟩ := hv.get k hk
  clear q q' x0 x4 y0 y2 y3 y4 hv
  generalize l[i] = X at *
  generalize l[k] = Y at *
  by_cases h2 : X.s = 2
  · have HF : Hid (bfr X Y = decide (X.l < Y.f)) := by unfold Hid bfr; simp [h2]
    rw [h2] at x3
    clear h2
    go_enter Tryz.func52, Tryz.ntmps52
    go_wp2_with fail
    go_quiet (fail)
    go_wp2
    go_ret
    exact ⟨by rw [HF.out]; rfl, _, rfl⟩
  · by_cases h3 : X.s = 3
    · have HF : Hid (bfr X Y = decide (X.l < Y.f)) := by unfold Hid bfr; simp [h3]
      rw [h3] at x3
      clear h2 h3
      go_enter Tryz.func52, Tryz.ntmps52
      go_wp2_with fail
      go_quiet (fail)
      go_wp2
      go_ret
      exact ⟨by rw [HF.out]; rfl, _, rfl⟩
    · have HF : Hid (bfr X Y = false) := by unfold Hid bfr; simp [h2, h3]
      have t2 : (X.s == 2) = false := by simp [h2]
      have t3 : (X.s == 3) = false := by simp [h3]
      clear h2 h3
      go_enter Tryz.func52, Tryz.ntmps52
      go_wp2_with fail
      go_quiet (fail)
      go_wp2
      go_ret
      exact ⟨by rw [HF.out]; rfl, _, rfl⟩
set_option maxRecDepth 100000 in
theorem refBit_any (k : Nat) (hk : k < 32) (w : World) : Calls Tryz.prog 39 #[.int .i64 (k : Int)] w fun e w' => e = .returned (.int .u32 ((2 ^ k : Nat) : Int)) ∧ w' = w := by
  go_enter Tryz.func39, Tryz.ntmps39
  go_wp2_with fail
  go_loopw [3, 4] (fun y x wr => ∃ i : Nat, i ≤ k ∧ x = .int .i64 i ∧ (∃ p : Nat, y = .int .u32 p ∧ Hid (p = 2 ^ i)) ∧ wr = w) (fun _ x _ => k - (intOf x).toNat)
  case atStart => exact ⟨0, by omega, rfl, ⟨1, rfl, rfl⟩, rfl⟩
  case round =>
    obtain ⟨i, hi, rfl, ⟨p, rfl, HP⟩, rfl⟩ := hrel
    by_cases hlt : i < k
    · have hp1 : 2 * p < 4294967296 := by
        rw [HP.out, ← Nat.pow_succ']
        exact Nat.pow_lt_pow_right (a := 2) (m := i + 1) (n := 32) (by decide) (by omega)
      have HP2 : Hid (2 * p = 2 ^ (i + 1)) := by unfold Hid; rw [HP.out, Nat.pow_succ']
      clear HP
      go_wp2
      go_roundw
      case rel => exact ⟨i + 1, by omega, by go_num, ⟨2 * p, by go_num, HP2⟩, trivial⟩
      case measure => simp [intOf]; omega
    · obtain rfl : i = k := by omega
      go_wp2
      go_ret
      exact ⟨by rw [← HP.out]; rfl, rfl⟩
end Go.Proofs.YtmnblljenobofaaGreatDoor
/- The walks of the reference's Keeps and After. -/
namespace Go.Proofs.YtmnblljenobofaaGreatDoor.WPlain
end Go.Proofs.YtmnblljenobofaaGreatDoor.WPlain
namespace Go.Proofs.YtmnblljenobofaaGreatDoor.QPlain
end Go.Proofs.YtmnblljenobofaaGreatDoor.QPlain
namespace Go.Proofs.YtmnblljenobofaaGreatDoor.RPlain
end Go.Proofs.YtmnblljenobofaaGreatDoor.RPlain
namespace Go.Proofs.YtmnblljenobofaaGreatDoor
open Go.RowKit WPlain QPlain RPlain

theorem bits_after (l : List Tx) {i : Nat} (hi : i < l.length) : bitsN (bfrAt l i) l.length = afterN l l[i] := by
  unfold afterN
  refine bitsN_congr _ fun k hk => ?_
  unfold bfrAt
  rw [List.getElem?_eq_getElem hi, List.getElem?_eq_getElem hk]
set_option maxRecDepth 100000 in
set_option maxHeartbeats 2000000 in
theorem refAfter_any (v : Value) (l : List Tx) (w : World) (hv : Txs w v l) (hl : l.length ≤ 6) :
    Calls Tryz.prog 23 #[v] w fun e w' => ∃ v', e = .returned v' ∧ Rd w' v' (u32s (afterS l)) ∧ Below w.heap.size w w' := by
  obtain ⟨j0, hj0, hy0, hy1', hy2'⟩ := info_parts infoU
  have HB0 := Lib.hid ((Below.refl w.heap.size w).alloc (Nat.le_refl _) (.cells #[] 23))
  have HR0 : Hid ((w.alloc (.cells #[] 23)).ownsRow w.heap.size 23 1 (.slice (some ⟨w.heap.size, 0, none⟩) 0 0) 0 []) := World.ownsRow_made w #[] 0 (Nat.le_refl _) (by unfold maxLen; omega) rfl
  have HV := Lib.hid hv
  obtain ⟨a, c, rfl⟩ := hv.len
  have hal : (afterS l).length = l.length := afterS_len l
  clear hv
  go_enter Tryz.func23, Tryz.ntmps23
  go_wp2_with fail
  go_loopw [3, 10] (fun y x wr => ∃ i : Nat, i ≤ l.length ∧ x = .int .i64 i ∧ Hid (wr.ownsRow w.heap.size 23 1 y i (u32s ((afterS l).take i))) ∧ Hid (Below w.heap.size w wr)) (fun _ x _ => l.length - (intOf x).toNat)
  case atStart => exact ⟨0, by omega, rfl, HR0, HB0⟩
  case round =>
    clear HB0 HR0
    obtain ⟨i, hi, rfl, HR, HB⟩ := hrel
    obtain ⟨ya, yc, rfl⟩ := row_slice HR.out
    by_cases hlt : i < l.length
    · have HFI : Hid (bitsN (bfrAt l i) l.length = (afterS l)[i]'(by omega)) := by
        unfold Hid
        rw [bits_after l hlt]
        simp [afterS]
      have HTK : Hid (u32s ((afterS l).take (i + 1)) = u32s ((afterS l).take i) ++ [.int .u32 ((afterS l)[i]'(by omega) : Nat)]) := by
        unfold Hid
        unfold u32s
        rw [List.take_succ_eq_append_getElem (by omega), List.map_append]
        rfl
      obtain ⟨W1, hW1⟩ : ∃ W1 : World, W1 = wr := ⟨wr, rfl⟩
      subst hW1
      have HBR := Lib.hid (Below.refl W1.heap.size W1)
      have HV1 := Lib.hid (HV.out.below HB.out (Nat.le_refl _))
      go_wp2_with fail
      go_loopw [5, 15] (fun y x wr => ∃ k : Nat, k ≤ l.length ∧ x = .int .i64 k ∧ y = .int .u32 (bitsN (bfrAt l i) k : Nat) ∧ Hid (Below W1.heap.size W1 wr)) (fun _ x _ => l.length - (intOf x).toNat)
      case atStart => exact ⟨0, by omega, rfl, rfl, HBR⟩
      case round =>
        clear HBR
        obtain ⟨k, hk, rfl, rfl, HBK⟩ := hrel
        by_cases hlk : k < l.length
        · have HBC := Lib.hid (refBefore_any _ l i k wr (HV1.out.below HBK.out (Nat.le_refl _)) hlt hlk (by omega))
          have HBT : Hid (∀ w, Calls Tryz.prog 39 #[.int .i64 (k : Int)] w fun e w' => e = .returned (.int .u32 ((2 ^ k : Nat) : Int)) ∧ w' = w) := fun w => refBit_any k (by omega) w
          have hbs : bitsN (bfrAt l i) (k + 1) = bitsN (bfrAt l i) k + (if bfrAt l i k = true then 2 ^ k else 0) := rfl
          have hlt2 := bitsN_lt (bfrAt l i) k
          have hlt3 := two_32 hl hlk
          have hpw2 : 2 ^ k ≤ 32 := Nat.pow_le_pow_right (n := 2) (i := k) (j := 5) (by decide) (by omega)
          rw [← bfrAt_get hlt hlk] at HBC
          cases hb : bfrAt l i k with
          | true =>
            rw [hb] at HBC hbs
            rw [if_pos rfl] at hbs
            have HBS := Lib.hid hbs
            clear hb hbs
            generalize bitsN (bfrAt l i) k = ac at *
            obtain ⟨pw, hpw⟩ : ∃ pw, 2 ^ k = pw := ⟨_, rfl⟩
            rw [hpw] at HBT hlt2 hlt3 hpw2 HBS
            clear hpw
            go_wp2_with fail
            refine HBC.out.mono ?_
            rintro e w3 ⟨rfl, z, rfl⟩
            have HB3 := Lib.hid (below_drN HBK.out z)
            clear HBK HBC
            go_wp2_with (go_at_call 39; refine (HBT.out _).mono ?_; rintro e w4 ⟨rfl, rfl⟩)
            go_roundw
            case rel => exact ⟨k + 1, by omega, by go_num, by rw [HBS.out]; go_num, HB3⟩
            case measure => simp [intOf]; omega
          | false =>
            rw [hb] at HBC hbs
            rw [if_neg (by simp)] at hbs
            have HBS := Lib.hid hbs
            clear hb hbs HBT hlt3 hpw2
            generalize bitsN (bfrAt l i) k = ac at *
            clear hlt2
            go_wp2_with fail
            refine HBC.out.mono ?_
            rintro e w3 ⟨rfl, z, rfl⟩
            have HB3 := Lib.hid (below_drN HBK.out z)
            clear HBK HBC
            go_wp2
            go_roundw
            case rel => exact ⟨k + 1, by omega, by go_num, by rw [HBS.out]; rfl, HB3⟩
            case measure => simp [intOf]; omega
        · obtain rfl : k = l.length := by omega
          rw [HFI.out]
          have HRK := Lib.hid (row_belowT HR.out HBK.out)
          have HBW := Lib.hid (HB.out.trans (HBK.out.mono HB.out.size))
          generalize (afterS l)[i]'(by omega) = x at *
          have HSZ : Hid (∀ o, w.heap.size ≤ (wr.alloc o).heap.size) := fun o => by have := HBW.out.size; simp; omega
          clear HR HBK HV1
          go_wp2_with (at_builtin; refine wpList_append_own _ rfl _ _ 41 rfl w.heap.size 23 j0 (.int .u32 0) 1 4 Tryz.underlying41 hj0 hy0 hy1' hy2' rfl (by decide) (.slice ya i yc) i _ rfl (HRK.out.alloc _) ⟨wr.heap.size, 0, none⟩ 1 1 [.int .u32 (x : Int)] rfl rfl (cell_one_at _ _ _) (one_int _ _) (by unfold maxLen; omega) (by omega) (HSZ.out _) ?_)
          intro v5 w5 hn5 hg5 _
          obtain ⟨y5, c5, rfl⟩ := row_slice hn5
          have HR5 : Hid (w5.ownsRow w.heap.size 23 1 (.slice y5 (i + 1) c5) (i + 1) (u32s ((afterS l).take (i + 1)))) := by rw [HTK.out]; exact hn5
          have HB5 := Lib.hid ((HBW.out.alloc HBW.out.size (.cells #[.int .u32 (x : Int)] 23)).grown hg5 (HSZ.out _) (fun k' hk' => (HRK.out.lt k' hk').1))
          clear hn5 hg5
          go_wp2
          go_roundw
          case rel => exact ⟨i + 1, by omega, by go_num, HR5, HB5⟩
          case measure => simp [intOf]; omega
    · obtain rfl : i = l.length := by omega
      have HRD : Hid (Rd wr (.slice ya l.length yc) (u32s (afterS l))) := by
        have h1 := Rd.of_row HR.out
        rwa [List.take_of_length_le (by omega)] at h1
      go_wp2
      go_ret
      exact ⟨_, rfl, HRD.out, HB.out⟩
end Go.Proofs.YtmnblljenobofaaGreatDoor
/- The walk of the reference's Source. -/
namespace Go.Proofs.YtmnblljenobofaaGreatDoor.WPlain
end Go.Proofs.YtmnblljenobofaaGreatDoor.WPlain
namespace Go.Proofs.YtmnblljenobofaaGreatDoor.QPlain
end Go.Proofs.YtmnblljenobofaaGreatDoor.QPlain
namespace Go.Proofs.YtmnblljenobofaaGreatDoor.RPlain
end Go.Proofs.YtmnblljenobofaaGreatDoor.RPlain
namespace Go.Proofs.YtmnblljenobofaaGreatDoor.RPlain
open WPlain QPlain

theorem src_self {l : List Tx} {t i : Nat} {o : Rwo} (ho : (opsAt l t)[i]? = some o) (h : o.w = true ∨ ownsB ((opsAt l t).take i) o.v = true) : srcS l t i = (t : Int) := by
  unfold srcS
  rw [ho]
  dsimp only
  rw [if_pos h]
/-- the first that writes it -/
def firstW (l : List Tx) (t : Nat) (v x : Int) : Option Nat := (List.range l.length).find? (fun k => !decide (k = t) && writesB (opsAt l k) v x)
/-- the source that it tells -/
def asSrc : Option Nat → Int
  | some k => (k : Int)
  | none => -2
theorem src_read {l : List Tx} {t i : Nat} {o : Rwo} (ho : (opsAt l t)[i]? = some o) (h : ¬ (o.w = true ∨ ownsB ((opsAt l t).take i) o.v = true)) :
    srcS l t i = if o.x = 0 then -1 else asSrc (firstW l t o.v o.x) := by
  unfold srcS
  rw [ho]
  dsimp only
  rw [if_neg h]
  by_cases hx : o.x = 0
  · rw [if_pos hx, if_pos hx]
  · rw [if_neg hx, if_neg hx]
    unfold firstW
    cases (List.range l.length).find? (fun k => !decide (k = t) && writesB (opsAt l k) o.v o.x) <;> rfl
theorem range_find {n k : Nat} {p : Nat → Bool} (hk : k < n) (hn : ∀ j, j < k → p j = false) (hp : p k = true) : (List.range n).find? p = some k := by
  have h1 : List.range n = List.range k ++ (List.range (n - k)).map (k + ·) := by
    conv => lhs; rw [show n = k + (n - k) by omega, List.range_add]
  rw [h1, List.find?_append, List.find?_eq_none.2 (fun j hj => by rw [hn j (List.mem_range.1 hj)]; simp), Option.none_or]
  obtain ⟨m, hm⟩ : ∃ m, n - k = m + 1 := ⟨n - k - 1, by omega⟩
  rw [hm, List.range_succ_eq_map]
  simp [hp]
theorem firstW_some {l : List Tx} {t k : Nat} {v x : Int} (hk : k < l.length) (hn : ∀ j, j < k → j ≠ t → writesB (opsAt l j) v x = false) (hne : k ≠ t) (hp : writesB (opsAt l k) v x = true) : firstW l t v x = some k := by
  refine range_find hk (fun j hj => ?_) (by simp [hne, hp])
  by_cases he : j = t
  · simp [he]
  · rw [hn j hj he]; simp
theorem firstW_none {l : List Tx} {t : Nat} {v x : Int} (hn : ∀ j, j < l.length → j ≠ t → writesB (opsAt l j) v x = false) : firstW l t v x = none := by
  refine List.find?_eq_none.2 fun j hj => ?_
  by_cases he : j = t
  · simp [he]
  · rw [hn j (List.mem_range.1 hj) he]; simp
end Go.Proofs.YtmnblljenobofaaGreatDoor.RPlain
namespace Go.Proofs.YtmnblljenobofaaGreatDoor
open Go.RowKit WPlain QPlain RPlain

set_option maxRecDepth 100000 in
set_option maxHeartbeats 8000000 in
theorem refSource_any (v : Value) (l : List Tx) (t i : Nat) (w : World) (hv : Txs w v l) (hf : Fine l) (ht : t < l.length) (hi : i < (opsAt l t).length) :
    Calls Tryz.prog 74 #[v, .int .i64 (t : Int), .int .i64 (i : Int)] w fun e w' => e = .returned (.int .i64 (srcS l t i)) ∧ Below w.heap.size w w' := by
  have HV := Lib.hid hv
  have HF := Lib.hid hf
  have hl6 := hf.six
  obtain ⟨b, o, c, he⟩ := hv.opened (by omega)
  subst he
  obtain ⟨u, x0, x1, x2, x3, x4, q⟩ := hv.get t ht
  have hfx := hf.ops _ (List.getElem_mem ht)
  have hoe := opsAt_eq ht
  have hbl := cell_lt x0
  have hsx := fun (o : Rwo) (ho : (opsAt l t)[i]? = some o) h => src_self ho h
  have hsr := fun (o : Rwo) (ho : (opsAt l t)[i]? = some o) h => src_read ho h
  rw [hoe] at hi hsx hsr
  have HFS := Lib.hid (fun (k : Nat) (v x : Int) (hk : k < l.length) h1 h2 h3 => firstW_some (t := t) (v := v) (x := x) hk h1 h2 h3)
  have HFN := Lib.hid (fun (v x : Int) h => firstW_none (l := l) (t := t) (v := v) (x := x) h)
  clear hv hf x0 x1 x2 x3 hoe
  obtain ⟨R, hR⟩ : ∃ R, srcS l t i = R := ⟨_, rfl⟩
  rw [hR] at hsx hsr ⊢
  clear hR
  obtain ⟨ua, uc, rfl, huc⟩ := q.len
  obtain ⟨ob, oo, rfl, hobl, c0, c1, c2⟩ := Opv.at q i hi
  have hOget := List.getElem?_eq_getElem hi
  replace hsx := hsx _ hOget
  replace hsr := hsr _ hOget
  have hcut := fun (W : World) (hW : Below w.heap.size w W) => (q.below hW (Nat.le_refl _)).cut i (Nat.le_of_lt hi)
  have hwf := hfx.1
  have HOW := Lib.hid (fun (v : Int) (W : World) (hW : Below w.heap.size w W) => refOwns_any _ (l[t].o.take i) v W (hcut W hW) (by rw [List.length_take]; omega))
  clear hcut hOget q
  generalize l[t].o[i] = O at *
  generalize l[t].o.take i = pre at *
  obtain ⟨mm, hmm⟩ : ∃ mm, l[t].o.length = mm := ⟨_, rfl⟩
  rw [hmm] at x4 huc hi hwf
  clear hmm hfx
  obtain ⟨ow, ov, ox⟩ := O
  dsimp only at *
  have HSX := Lib.hid hsx
  have HSR := Lib.hid hsr
  have HB2 := Lib.hid ((Below.refl w.heap.size w).alloc (Nat.le_refl _) (.cells #[.bool ow, .int .i64 ov, .int .i64 ox] 82))
  have HOB := Lib.hid (At.new w #[.bool ow, .int .i64 ov, .int .i64 ox] 82)
  have hiu : (i : Int) ≤ (uc : Int) := by omega
  have him : (i : Int) < (mm : Int) := by omega
  have htl : (t : Int) < (l.length : Int) := by omega
  clear hsx hsr
  go_enter Tryz.func74, Tryz.ntmps74
  go_upto_region 2 with fail
  have e0 := HOB.out.cell (i := 0) rfl
  have e1 := HOB.out.cell (i := 1) rfl
  have e2 := HOB.out.cell (i := 2) rfl
  have hN := HOB.out.lt
  have x5 := (((Below.refl w.heap.size w).alloc (Nat.le_refl _) (.cells #[.bool ow, .int .i64 ov, .int .i64 ox] 82)).cell (p := ⟨b, o + t * 5 + 4, none⟩) hbl).trans x4
  generalize w.alloc (.cells #[.bool ow, .int .i64 ov, .int .i64 ox] 82) = w2 at *
  clear c0 c1 c2 x4
  cases ow with
  | true =>
    have hr := HSX.out (.inl rfl)
    subst hr
    clear HSX HSR
    go_quiet (fail)
    have HB3 : Hid (Below w.heap.size w (w2.drewN nq)) := below_drN HB2.out nq
    go_wp2
    go_ret
    exact ⟨rfl, HB3.out⟩
  | false =>
    have HSC : Hid (∀ W, Below w2.heap.size w2 W → (W.cell? ⟨w.heap.size, 0, none⟩ = some (.bool false) ∧ W.cell? ⟨w.heap.size, 1, none⟩ = some (.int .i64 ov) ∧ W.cell? ⟨w.heap.size, 2, none⟩ = some (.int .i64 ox)) ∧ W.cell? ⟨b, o + t * 5 + 4, none⟩ = some (.slice (some ⟨ob, oo, none⟩) mm uc)) := fun W hW =>
      ⟨⟨(HOB.out.below hW hN).cell (i := 0) rfl, (HOB.out.below hW hN).cell (i := 1) rfl, (HOB.out.below hW hN).cell (i := 2) rfl⟩, (hW.cell (p := ⟨b, o + t * 5 + 4, none⟩) (cell_lt x5)).trans x5⟩
    have HWB : Hid (∀ W, Below w2.heap.size w2 W → Below w.heap.size w W) := fun W hW => HB2.out.trans (hW.mono HB2.out.size)
    have HOW2 := Lib.hid (fun (W : World) (hW : Below w2.heap.size w2 W) => HOW.out ov W (HWB.out W hW))
    have HAT : Hid (∀ W, Below w2.heap.size w2 W → At W w.heap.size #[.bool false, .int .i64 ov, .int .i64 ox] 82) := fun W hW => HOB.out.below hW hN
    obtain ⟨N, hNN⟩ : ∃ N, w.heap.size = N := ⟨_, rfl⟩
    obtain ⟨r, hr⟩ : ∃ r, ownsB pre ov = r := ⟨_, rfl⟩
    rw [hr] at HOW2 HSX HSR
    rw [hNN] at HSC e0 e1 e2 HAT
    clear hr HOB HOW hN
    first
    | go_must (go_region_held_law (fun w' => (w'.cell? ⟨N, 0, none⟩ = some (.bool false) ∧ w'.cell? ⟨N, 1, none⟩ = some (.int .i64 ov) ∧ w'.cell? ⟨N, 2, none⟩ = some (.int .i64 ox)) ∧ w'.cell? ⟨b, o + t * 5 + 4, none⟩ = some (.slice (some ⟨ob, oo, none⟩) mm uc))
        (first | exact HSC.out _ hb5 | exact HSC.out _ (below_drP _))
        (first
          | (go_at_call 106; refine (HOW2.out _ (below_drP _)).mono ?_; rintro e w5 ⟨rfl, hb⟩; have hb5 := below_stpP hb)))
    | fail
    have HB5 := Lib.hid (HWB.out _ hb5)
    have HA5 := Lib.hid (HAT.out _ hb5)
    clear hb5 hb HSC HWB HAT HOW2 e0 e1 e2 x5
    cases r with
    | true =>
      have hr := HSX.out (.inr rfl)
      subst hr
      clear HSX HSR
      go_wp2
      go_ret
      exact ⟨rfl, HB5.out⟩
    | false =>
      have hr := HSR.out (by simp)
      clear HSX HSR
      have z2 := HA5.out.cell (i := 2) rfl
      by_cases h0 : ox = 0
      · have t0 : ((ox : Int) == 0) = true := by simp [h0]
        rw [if_pos h0] at hr
        subst hr
        clear h0
        go_wp2
        go_ret
        exact ⟨rfl, HB5.out⟩
      · have t0 : ((ox : Int) == 0) = false := by simp [h0]
        rw [if_neg h0] at hr
        have HR := Lib.hid hr
        have HFS1 := Lib.hid (fun (k : Nat) (hk : k < l.length) h1 h2 h3 => HFS.out k ov ox hk h1 h2 h3)
        have HFN1 := Lib.hid (fun h => HFN.out ov ox h)
        have HB6 := Lib.hid (Below.refl w5.heap.size w5)
        have HN6 : Hid (∀ k, k < 0 → k ≠ t → writesB (opsAt l k) ov ox = false) := fun k hk => absurd hk (Nat.not_lt_zero _)
        clear h0 hr HFS HFN
        go_wp2_with fail
        go_loopw [38] (fun y wr => ∃ k : Nat, k ≤ l.length ∧ y = .int .i64 k ∧ Hid (∀ k', k' < k → k' ≠ t → writesB (opsAt l k') ov ox = false) ∧ Hid (Below w5.heap.size w5 wr)) (fun y _ => l.length - (intOf y).toNat)
        case atStart => exact ⟨0, by omega, rfl, HN6, HB6⟩
        case round =>
          clear HB6 HN6 z2
          obtain ⟨k, hkl, rfl, HN, HBk⟩ := hrel
          by_cases hltk : k < l.length
          · have HBW := Lib.hid (HB5.out.trans (HBk.out.mono HB5.out.size))
            obtain ⟨z, y0, y1, y2, y3, y4, q3⟩ := (HV.out.below HBW.out (Nat.le_refl _)).get k hltk
            have hbl3 := cell_lt y0
            have hat := HA5.out.below HBk.out HA5.out.lt
            have z1 := hat.cell (i := 1) rfl
            have z2 := hat.cell (i := 2) rfl
            have hlo := cell_lt z1
            have hfy := (HF.out.ops _ (List.getElem_mem hltk)).1
            have hoe := opsAt_eq hltk
            have HFS2 := Lib.hid (fun h1 h2 => HFS1.out k hltk HN.out h1 h2)
            generalize l[k] = Y at *
            obtain ⟨Yn, Yf, Yl, Ys, Yo⟩ := Y
            dsimp only at *
            obtain ⟨ya, yc, rfl, hyc⟩ := q3.len
            have hba : Below wr.heap.size wr (wr.alloc (.cells #[.int .i64 Yn, .int .i64 Yf, .int .i64 Yl, .int .i64 Ys, .slice ya Yo.length yc] 64)) := (Below.refl _ wr).alloc (Nat.le_refl _) _
            have HBK2 := Lib.hid (HBk.out.trans (hba.mono HBk.out.size))
            have HWR := Lib.hid (refWrites_any Yn Yf Yl Ys (.slice ya Yo.length yc) Yo ov ox _ (q3.below hba (Nat.le_refl _)) hfy)
            have HOE2 := Lib.hid hoe
            clear q3 HBk hba hat hoe hfy
            by_cases hki : k = t
            · have ti : ((k : Int) != (t : Int)) = false := by simp [hki]
              have HN2 : Hid (∀ k', k' < k + 1 → k' ≠ t → writesB (opsAt l k') ov ox = false) := fun k' h1 h2 => HN.out k' (by omega) h2
              clear hki HWR HFS2 HN
              go_wp2
              go_roundw
              case rel => exact ⟨k + 1, by omega, by go_num, HN2, HBK2⟩
              case measure => simp [intOf]; omega
            · have ti : ((k : Int) != (t : Int)) = true := by simp; omega
              cases hb : writesB Yo ov ox with
              | true =>
                have hr := HR.out
                rw [HFS2.out hki (by rw [HOE2.out]; exact hb)] at hr
                unfold asSrc at hr
                dsimp only at hr
                subst hr
                rw [hb] at HWR
                clear hb HFS2 HN hki HFS1 HFN1 HR
                go_wp2_with fail
                refine HWR.out.mono ?_
                rintro e w7 ⟨rfl, hb7⟩
                have HB7 := Lib.hid (HB5.out.trans ((HBK2.out.trans (hb7.mono HBK2.out.size)).mono HB5.out.size))
                go_wp2
                go_ret
                exact ⟨rfl, HB7.out⟩
              | false =>
                have HN2 : Hid (∀ k', k' < k + 1 → k' ≠ t → writesB (opsAt l k') ov ox = false) := fun k' h1 h2 => if h : k' < k then HN.out k' h h2 else by
                  rw [show k' = k from by omega, HOE2.out]; exact hb
                rw [hb] at HWR
                clear hb HFS2 HN hki
                go_wp2_with fail
                refine HWR.out.mono ?_
                rintro e w7 ⟨rfl, hb7⟩
                have HB7 := Lib.hid (HBK2.out.trans (hb7.mono HBK2.out.size))
                clear hb7
                go_wp2
                go_roundw
                case rel => exact ⟨k + 1, by omega, by go_num, HN2, HB7⟩
                case measure => simp [intOf]; omega
          · obtain rfl : k = l.length := by omega
            have HBF := Lib.hid (HB5.out.trans (HBk.out.mono HB5.out.size))
            have hr := HR.out
            rw [HFN1.out HN.out] at hr
            unfold asSrc at hr
            dsimp only at hr
            subst hr
            clear HN HFN1 HFS1 HR
            go_wp2
            go_ret
            exact ⟨rfl, HBF.out⟩
end Go.Proofs.YtmnblljenobofaaGreatDoor
