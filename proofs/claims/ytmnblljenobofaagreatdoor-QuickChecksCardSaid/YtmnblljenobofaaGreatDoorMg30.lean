/- Merged: SrlG, QckG, FstS, QckC, QckR. -/
import Derived.Test.YtmnblljenobofaaGreatDoorMg27
import Derived.Test.YtmnblljenobofaaGreatDoorMg13
import Derived.Test.YtmnblljenobofaaGreatDoorMg10
import Derived.Test.YtmnblljenobofaaGreatDoorMg11
import Derived.Test.YtmnblljenobofaaGreatDoorMg25
import Derived.Test.YtmnblljenobofaaGreatDoorGphP
import Derived.Test.YtmnblljenobofaaGreatDoorMg29
import Derived.Test.YtmnblljenobofaaGreatDoorUnqI
import Derived.Test.YtmnblljenobofaaGreatDoorMg26
import Derived.Test.YtmnblljenobofaaGreatDoorOrdE
/- The walks of the reference's small functions: in, with, Bits, Of, Why, All, left, free. -/
namespace Go.Proofs.YtmnblljenobofaaGreatDoor.WPlain
end Go.Proofs.YtmnblljenobofaaGreatDoor.WPlain
namespace Go.Proofs.YtmnblljenobofaaGreatDoor.QPlain
end Go.Proofs.YtmnblljenobofaaGreatDoor.QPlain
namespace Go.Proofs.YtmnblljenobofaaGreatDoor.RPlain
end Go.Proofs.YtmnblljenobofaaGreatDoor.RPlain
namespace Go.Proofs.YtmnblljenobofaaGreatDoor
open Go.RowKit WPlain QPlain RPlain

set_option maxRecDepth 100000 in
theorem refBitsS_any (v : Value) (l : List Tx) (n : Nat) (w : World) (hv : Txs w v l) (hl : l.length ≤ 65536) (hn : n < 4294967296) :
    Calls Tryz.prog 33 #[v, .int .u32 (n : Int)] w fun e w' => e = .returned (.bool (decide (n < 2 ^ l.length))) ∧ w' = w := by
  have HF : Hid (decide (n < 2 ^ l.length) = decide (n / 2 ^ l.length = 0)) := decide_eq_decide.2 (by
    have hp : 0 < 2 ^ l.length := Nat.two_pow_pos _
    rw [Nat.div_eq_zero_iff]
    omega)
  obtain ⟨a, c, rfl⟩ := hv.len
  clear hv
  go_enter Tryz.func33, Tryz.ntmps33
  go_wp2_with fail
  go_loopw [1, 7] (fun y x wr => ∃ i : Nat, i ≤ l.length ∧ x = .int .i64 i ∧ (∃ p : Nat, y = .int .u32 p ∧ p < 4294967296 ∧ Hid (p = n / 2 ^ i)) ∧ wr = w) (fun _ x _ => l.length - (intOf x).toNat)
  case atStart => exact ⟨0, by omega, rfl, ⟨n, rfl, hn, by unfold Hid; rw [Nat.pow_zero, Nat.div_one]⟩, rfl⟩
  case round =>
    obtain ⟨i, hi, rfl, ⟨p, rfl, hp, HP⟩, rfl⟩ := hrel
    by_cases hlt : i < l.length
    · have HP2 : Hid (p / 2 = n / 2 ^ (i + 1)) := by unfold Hid; rw [HP.out, Nat.div_div_eq_div_mul, Nat.pow_succ]
      clear HP
      go_wp2
      go_roundw
      case rel => exact ⟨i + 1, by omega, by go_num, ⟨p / 2, by go_num, by omega, HP2⟩, trivial⟩
      case measure => simp [intOf]; omega
    · obtain rfl : i = l.length := by omega
      rw [← HP.out] at HF
      clear HP
      go_wp2
      go_ret
      exact ⟨ret_bool (by rw [HF.out, Bool.eq_iff_iff]; simp), rfl⟩
end Go.Proofs.YtmnblljenobofaaGreatDoor
/- The walks of recantref19's Unique and Graph. -/
namespace Go.Proofs.YtmnblljenobofaaGreatDoor.WPlain
end Go.Proofs.YtmnblljenobofaaGreatDoor.WPlain
namespace Go.Proofs.YtmnblljenobofaaGreatDoor.QPlain
end Go.Proofs.YtmnblljenobofaaGreatDoor.QPlain
namespace Go.Proofs.YtmnblljenobofaaGreatDoor.RPlain
end Go.Proofs.YtmnblljenobofaaGreatDoor.RPlain
namespace Go.Proofs.YtmnblljenobofaaGreatDoor
open Go.RowKit WPlain QPlain RPlain

set_option maxRecDepth 100000 in
set_option maxHeartbeats 2000000 in
theorem refUniqQ_any (v : Value) (h : List Ev) (w : World) (hv : Evs w v h) (hl : h.length ≤ 65536) (hcap : ∀ a n c, v = .slice a n c → n ≤ c) :
    Calls Tryz.prog 6 #[v] w fun e w' => e = .returned (.int .i64 ((errU h : Nat) : Int)) ∧ Below w.heap.size w w' := by
  have HWH := Lib.hid (why_any v h w hv hl hcap)
  have HRT := Lib.hid (fun (W : World) (hW : Below w.heap.size w W) => refTable_any v h W (hv.below hW (Nat.le_refl _)) hl hcap)
  rw [whyS_check] at HWH
  obtain ⟨a, c, rfl⟩ := hv.len
  clear hv hcap
  by_cases h0 : (checkS h).2 = 0
  · have HF := Lib.hid (fine_table h0)
    have hu : errU h = if uniqueS (tableS h) = true then 0 else 9 := by unfold errU; rw [if_pos h0]
    have HUN := Lib.hid (fun (v : Value) (W : World) (hW : Txs W v (tableS h)) => refUnique_any v (tableS h) W hW HF.out)
    rw [h0] at HWH
    clear h0 hl
    generalize errU h = eg at *
    generalize tableS h = l at *
    cases hq : uniqueS l with
    | true =>
      rw [hq] at hu HUN
      simp at hu
      subst hu
      clear hq
      go_enter Tryz.func6, Tryz.ntmps6
      go_wp2_with fail
      refine HWH.out.mono ?_
      rintro e w1 ⟨rfl, hb1⟩
      have HB1 := Lib.hid hb1
      clear hb1 HWH
      go_wp2_with fail
      refine (HRT.out _ HB1.out).mono ?_
      rintro e w2 ⟨v2, rfl, hv2, hb2⟩
      have HB2 := Lib.hid (HB1.out.trans (hb2.mono HB1.out.size))
      have HU2 := Lib.hid (HUN.out _ _ hv2)
      obtain ⟨a2, c2, rfl⟩ := hv2.len
      clear hv2 hb2 HB1 HRT HUN
      go_wp2_with fail
      refine HU2.out.mono ?_
      rintro e w3 ⟨rfl, hb3⟩
      have HB3 := Lib.hid (HB2.out.trans (hb3.mono HB2.out.size))
      clear hb3 HU2 HB2
      go_wp2
      go_ret
      exact ⟨rfl, HB3.out⟩
    | false =>
      rw [hq] at hu HUN
      simp at hu
      subst hu
      clear hq
      go_enter Tryz.func6, Tryz.ntmps6
      go_wp2_with fail
      refine HWH.out.mono ?_
      rintro e w1 ⟨rfl, hb1⟩
      have HB1 := Lib.hid hb1
      clear hb1 HWH
      go_wp2_with fail
      refine (HRT.out _ HB1.out).mono ?_
      rintro e w2 ⟨v2, rfl, hv2, hb2⟩
      have HB2 := Lib.hid (HB1.out.trans (hb2.mono HB1.out.size))
      have HU2 := Lib.hid (HUN.out _ _ hv2)
      obtain ⟨a2, c2, rfl⟩ := hv2.len
      clear hv2 hb2 HB1 HRT HUN
      go_wp2_with fail
      refine HU2.out.mono ?_
      rintro e w3 ⟨rfl, hb3⟩
      have HB3 := Lib.hid (HB2.out.trans (hb3.mono HB2.out.size))
      clear hb3 HU2 HB2
      go_wp2
      go_ret
      exact ⟨rfl, HB3.out⟩
  · have he : errU h = (checkS h).2 := by unfold errU; rw [if_neg h0]
    rw [he]
    clear he HRT hl
    generalize (checkS h).2 = er at *
    have tn : ((er : Int) == 0) = false := by rw [beq_eq_false_iff_ne]; omega
    clear h0
    go_enter Tryz.func6, Tryz.ntmps6
    go_wp2_with fail
    refine HWH.out.mono ?_
    rintro e w1 ⟨rfl, hb1⟩
    have HB1 := Lib.hid hb1
    clear hb1 HWH
    go_wp2
    go_ret
    exact ⟨rfl, HB1.out⟩
set_option maxRecDepth 100000 in
set_option maxHeartbeats 4000000 in
theorem refGraphQ_any (v rv : Value) (h : List Ev) (cm : Nat) (row : List Int) (w : World) (hv : Evs w v h) (hl : h.length ≤ 65536) (hcap : ∀ a n c, v = .slice a n c → n ≤ c) (hcm : cm < 4294967296) (hr : Rd w rv (ints row)) (hrl : row.length ≤ 65536) :
    Calls Tryz.prog 12 #[v, .int .u32 (cm : Int), rv] w fun e w' => e = .returned (.int .i64 ((errB h cm row : Nat) : Int)) ∧ Below w.heap.size w w' := by
  have HUQ := Lib.hid (refUniqQ_any v h w hv hl hcap)
  have HRT := Lib.hid (fun (W : World) (hW : Below w.heap.size w W) => refTable_any v h W (hv.below hW (Nat.le_refl _)) hl hcap)
  have HRW := Lib.hid (fun (W : World) (hW : Below w.heap.size w W) => hr.below hW (Nat.le_refl _))
  obtain ⟨a, c, rfl⟩ := hv.len
  obtain ⟨ra, rc, rfl⟩ := hr.len
  clear hv hcap hr
  by_cases hu : errU h = 0
  · have h0 := (errU_zero hu).1
    have HF := Lib.hid (fine_table h0)
    have h6 := HF.out.six
    have HBI := Lib.hid (fun (v : Value) (W : World) (hW : Txs W v (tableS h)) => refBitsS_any v (tableS h) cm W hW (by omega) hcm)
    have HWO := Lib.hid (fun (v : Value) (W : World) (hW : Below w.heap.size w W) (hT : ∃ a c, v = .slice a (tableS h).length c) => refWhole17_any v _ (tableS h) row W hT h6 (HRW.out W hW) hrl)
    have HRE := Lib.hid (fun (v : Value) (W : World) (hW : Txs W v (tableS h)) => refReadable_any v (tableS h) cm W hW HF.out hcm)
    have heB : errB h cm row = if cm < 2 ^ (tableS h).length then (if wholeS (tableS h).length row = true then (if readS (tableS h) cm = true then 0 else 7) else 1) else 1 := by
      unfold errB errG
      rw [if_pos hu]
      by_cases hc : cm < 2 ^ (tableS h).length <;> simp [hc]
    obtain ⟨eb, heb⟩ : ∃ eb, errB h cm row = eb := ⟨_, rfl⟩
    rw [heb] at heB ⊢
    have HE := Lib.hid heB
    rw [hu] at HUQ
    clear heB heb hu h0 hl hrl HF h6 HRW
    generalize tableS h = l at *
    generalize (ints row).length = rn at *
    go_enter Tryz.func12, Tryz.ntmps12
    go_wp2_with fail
    refine HUQ.out.mono ?_
    rintro e w1 ⟨rfl, hb1⟩
    have HB1 := Lib.hid hb1
    clear hb1 HUQ
    go_wp2_with fail
    refine (HRT.out _ HB1.out).mono ?_
    rintro e w2 ⟨v2, rfl, hv2, hb2⟩
    have HB2 := Lib.hid (HB1.out.trans (hb2.mono HB1.out.size))
    have HV2 := Lib.hid hv2
    have HBX := Lib.hid (HBI.out _ _ hv2)
    have HWX := Lib.hid (HWO.out v2 w2 HB2.out hv2.len)
    have HRX := Lib.hid (HRE.out _ _ hv2)
    obtain ⟨a2, c2, rfl⟩ := hv2.len
    clear hv2 hb2 HB1 HRT HBI HWO HRE
    by_cases hc : cm < 2 ^ l.length
    · rw [decide_eq_true hc] at HBX
      have hE := HE.out
      rw [if_pos hc] at hE
      clear hc HE
      generalize l.length = ln at *
      go_wp2_with fail
      refine HBX.out.mono ?_
      rintro e w3 ⟨rfl, rfl⟩
      clear HBX
      cases hwh : wholeS ln row with
      | true =>
        rw [hwh] at HWX
        rw [hwh, if_pos rfl] at hE
        have HE := Lib.hid hE
        clear hwh hE
        go_wp2_with fail
        refine HWX.out.mono ?_
        rintro e w4 ⟨rfl, rfl⟩
        clear HWX
        generalize readS l cm = r at *
        go_wp2_with fail
        refine HRX.out.mono ?_
        rintro e w5 ⟨rfl, hb5⟩
        have HB5 := Lib.hid (HB2.out.trans (hb5.mono HB2.out.size))
        clear hb5 HRX HB2 HV2
        cases r with
        | true =>
          have hE := HE.out
          rw [if_pos rfl] at hE
          subst hE
          go_wp2
          go_ret
          exact ⟨rfl, HB5.out⟩
        | false =>
          have hE := HE.out
          rw [if_neg (by decide)] at hE
          subst hE
          go_wp2
          go_ret
          exact ⟨rfl, HB5.out⟩
      | false =>
        rw [hwh] at HWX
        rw [hwh, if_neg (by decide)] at hE
        subst hE
        clear hwh
        go_wp2_with fail
        refine HWX.out.mono ?_
        rintro e w4 ⟨rfl, rfl⟩
        clear HWX HRX
        go_wp2
        go_ret
        exact ⟨rfl, HB2.out⟩
    · have hE := HE.out
      rw [if_neg hc] at hE
      subst hE
      rw [decide_eq_false hc] at HBX
      clear hc HWX HRX
      generalize l.length = ln at *
      go_wp2_with fail
      refine HBX.out.mono ?_
      rintro e w3 ⟨rfl, rfl⟩
      clear HBX
      go_wp2
      go_ret
      exact ⟨rfl, HB2.out⟩
  · have he : errB h cm row = errU h := by
      have hg : errG h cm = errU h := by unfold errG; rw [if_neg hu]
      rw [errB_off (by rw [hg]; exact hu), hg]
    rw [he]
    have te : ((errU h : Int) != 0) = true := by simp; omega
    clear he hu hl hrl HRT HRW
    generalize errU h = er at *
    generalize (ints row).length = rn at *
    go_enter Tryz.func12, Tryz.ntmps12
    go_wp2_with fail
    refine HUQ.out.mono ?_
    rintro e w1 ⟨rfl, hb1⟩
    have HB1 := Lib.hid hb1
    clear hb1 HUQ
    go_wp2
    go_ret
    exact ⟨rfl, HB1.out⟩
end Go.Proofs.YtmnblljenobofaaGreatDoor
/- The walk of package extend's First, its row with its place. -/
namespace Go.Proofs.YtmnblljenobofaaGreatDoor.RPlain
end Go.Proofs.YtmnblljenobofaaGreatDoor.RPlain
namespace Go.Proofs.YtmnblljenobofaaGreatDoor
open Go.RowKit Go.Shelf RPlain

attribute [local go_sem] Oper.semAt_some

/-- what the loop that stops at the first row holds -/
def FstS (S : Nat → Prop) (w0 : World) (B : Nat) (pre : List (List Nat)) (X : Nat → Prop) (W : World) : Prop := pre = [] ∧ At W B #[.slice none 0 0] 24 ∧ (∀ k, X k ↔ S k ∨ k = B) ∧ Below B w0 W
def FstSX (S : Nat → Prop) (w0 : World) (B : Nat) (c : Code) (pre : List (List Nat)) (X : Nat → Prop) (W : World) : Prop :=
  c = .exit 0 ∧ ∃ r v, pre = [r] ∧ At W B #[v] 24 ∧ RdX X W v (nats r) ∧ (∀ k, X k ↔ S k ∨ k = B) ∧ Below B w0 W
theorem FstS.own {S : Nat → Prop} {w0 : World} {B C : Nat} (hC : B ≤ C) : OwnX C (FstS S w0 B) := by
  rintro pre X W W' r ⟨h0, h1, h4, h5⟩ hg hr
  exact ⟨h0, at_own h1 hg (fun k e => (hr k e).2), h4, h5.grown hg (by have := h1.lt; omega) (fun k e => Nat.le_trans hC (hr k e).1)⟩
theorem FstSX.own {S : Nat → Prop} {w0 : World} {B C : Nat} (hC : B ≤ C) (c : Code) : OwnX C (FstSX S w0 B c) := by
  rintro pre X W W' r ⟨h0, q, v, h1, h2, h3, h4, h5⟩ hg hr
  exact ⟨h0, q, v, h1, at_own h2 hg (fun k e => (hr k e).2), rd_own h3 hg (fun k e => (hr k e).2), h4, h5.grown hg (by have := h2.lt; omega) (fun k e => Nat.le_trans hC (hr k e).1)⟩
set_option maxRecDepth 100000 in
set_option maxHeartbeats 4000000 in
theorem firstS_any (S : Nat → Prop) (a : Option Addr) (c : Nat) (A : List Nat) (w : World) (hS : ∀ k, S k → k < w.heap.size) (hv : RdX S w (.slice a A.length c) (u32s A)) (hA : ∀ x ∈ A, x < 4294967296) (hl : A.length ≤ 65536) :
    Calls Tryz.prog 87 #[.slice a A.length c] w fun e w' => ∃ v, e = .returned (.tuple #[v, .int .i64 ((mayE A : Nat) : Int)]) ∧ RdX S w' v (nats (if mayE A = 0 then (allS A).headD [] else [])) ∧ Below w.heap.size w w' := by
  have HCK := Lib.hid (checkX_any _ A w hv.rd hA hl)
  have HV := Lib.hid hv
  by_cases h0 : mayE A = 0
  · obtain ⟨hn, _, hf⟩ := mayE_zero.1 h0
    have hro : rowsS A = allS A := rowsS_eq (self_free hf)
    have hsome := allS_some hf
    rw [← hro] at hsome
    rw [if_pos h0, ← hro]
    rw [h0] at HCK ⊢
    have HRW := Lib.hid (fun w1 => rows_any a c A hn w1)
    have HCP := Lib.hid (fun (w1 w2 : World) h => rows_cap (a := a) (c := c) (A := A) (w := w1) (w' := w2) h)
    have HG := Lib.hid (fun L R T => rows1_gives A hn hA (rowsS A) A.length [] List.nodup_nil (fun k hk => by cases hk) (by simp) L R T [] (by show ([] ++ rowsS A) <+: rowsS A; exact List.prefix_refl _))
    have hrs : extP A.length (nxR A) A.length [] = rowsS A := rfl
    rw [hrs] at HG
    clear h0 hf hro hv hrs
    generalize rowsS A = rows at *
    have HSM := Lib.hid hsome
    clear hsome
    refine (callsIn_wide (n := 6)).1 ?_
    refine callsIn_of_wp_marks Tryz.func87 rfl trivial ?_ rfl
    simp only [Tryz.ntmps87, List.size_toArray, List.length_cons, List.length_nil, Nat.reduceAdd, Nat.reduceSub, Array.replicate_succ, Array.replicate_zero, List.push_toArray, List.append_toArray, List.nil_append, List.cons_append]
    gi_wp2_with (first
      | (refine ⟨trivial, ?_⟩; gi_at_call 84; refine (callsIn_wide.2 HCK.out).mono ?_; rintro e w1 ⟨rfl, hb1⟩; have HB1 := Lib.hid hb1; clear hb1)
      | (refine ⟨trivial, ?_⟩; gi_at_call 86; refine (callsIn_wide.2 (HRW.out _)).mono ?_; rintro e w2 ⟨rfl, hw2⟩; obtain ⟨hb2, hs2, hcap⟩ := HCP.out _ w2 hw2; have HS2 := Lib.hid hs2; have HB2 := Lib.hid hb2; have HCAP := Lib.hid hcap; clear hw2 hb2 hs2 hcap))
    have hs2 := HS2.out
    have hb2 := HB2.out
    have hat : At w2 w1.heap.size #[.slice none 0 0] 24 := (At.new w1 #[.slice none 0 0] 24).below hb2 (by simp)
    have hbw : Below w1.heap.size w1 w2 := ((Below.refl _ w1).alloc (Nat.le_refl _) _).trans (hb2.mono (by simp))
    simp only [World.size_alloc] at hs2
    unfold seqV
    refine range_x (gf := 129) (lb := #[.pointer (some ⟨w1.heap.size + 1 + 2, 0, none⟩), .pointer (some ⟨w1.heap.size + 1 + 1, 0, none⟩), .pointer (some ⟨w1.heap.size + 1, 0, none⟩)]) rfl (enters_of Tryz.func129 (by kernel_rfl) rfl) rfl
      (HG.out _ _ _) (FstS S w1 w1.heap.size) (FstSX S w1 w1.heap.size) (fun k => S k ∨ k = w1.heap.size) ?hyp ?top (FstS.own (by omega)) (FstSX.own (by omega)) ?start ?round ?done ?stop
    case hyp =>
      intro W1 hbW
      have hcap := HCAP.out (addX (fun k => S k ∨ k = w1.heap.size) (w2.heap.size + 1))
      simp only [World.size_alloc] at hcap
      refine (hcap ?_ fun k hk hk2 hx => ?_).below hbW
      · exact ((HV.out.below HB1.out).more (fun k hk hx => by
          rcases hx with (hx | hx) | hx
          · exact hx
          · omega
          · omega)).below ((Below.refl _ w1).alloc (Nat.le_refl _) _)
      · rcases hx with (hx | hx) | hx
        · have := hS k hx
          have := HB1.out.size
          omega
        · omega
        · omega
    case top =>
      rintro pre X W ⟨h0, h1, h4, h5⟩ k hk
      have h7 := h1.lt
      rcases (h4 k).1 hk with h6 | h6
      · have := hS k h6
        have := HB1.out.size
        omega
      · omega
    case start => exact ⟨rfl, hat, fun k => Iff.rfl, hbw⟩
    case round =>
      rintro l' pre r v X V hl1 hl2 hl3 ⟨rfl, h1, h4, h5⟩ hTp hv
      obtain ⟨va, vc, rfl⟩ := hv.rd.len
      have hc := h1.cell (i := 0) rfl
      have hf := h1.free 0
      have H1 := Lib.hid h1
      have H4 := Lib.hid h4
      have H5 := Lib.hid h5
      have HVV := Lib.hid hv
      clear h1 h4 h5 hv
      gi_wp2
      have hkept : Kept X X V (V.setCell ⟨w1.heap.size, 0, none⟩ (.slice va (nats r).length vc)) := by
        refine ⟨?_, fun k hk hx => ?_, fun k hk => .inl hk⟩
        · show V.heap.size ≤ (V.heap.modify _ _).size
          rw [Array.size_modify]; omega
        · exact Below.heap_setCell _ _ _ _ (fun e => hx ((H4.out k).2 (.inr e)))
      refine ⟨hkept, ?_⟩
      intro V2 hg hnc
      have hro : ∀ x, some l' = some x → w2.heap.size ≤ x ∧ ∃ o : Obj, (V.setCell ⟨w1.heap.size, 0, none⟩ (.slice va (nats r).length vc)).heap[x]? = some o ∧ o.isCells = false := fun x e => by cases e; exact ⟨hl1, hnc⟩
      have hX1 : FstSX S w1 w1.heap.size (.exit 0) [r] X (V.setCell ⟨w1.heap.size, 0, none⟩ (.slice va (nats r).length vc)) :=
        ⟨rfl, r, .slice va (nats r).length vc, rfl, by simpa using H1.out.set 0 (.slice va (nats r).length vc), hkept.rd HVV.out, H4.out, H5.out.setCell (Nat.le_refl _) _⟩
      have HX2 := Lib.hid ((FstSX.own (C := w2.heap.size) (by omega) _) _ _ _ _ _ hX1 hg hro)
      clear hX1 hkept
      gi_wp2
      exact ⟨X, HX2.out, Kept.refl _ _⟩
    case done =>
      rintro X V ⟨h0, _⟩ hD hdef
      have := HSM.out
      rw [List.nil_append] at h0
      rw [h0] at this
      exact absurd this (by simp)
    case stop =>
      rintro cc q X V hq ⟨rfl, r, v, h0, h1, h2, h4, h5⟩ hD hdef
      rw [List.nil_append] at h0
      subst h0
      have HHD : Hid (rows.headD [] = r) := by
        obtain ⟨t, ht⟩ := hq
        rw [← ht]; rfl
      obtain ⟨va, vc, rfl⟩ := h2.rd.len
      have hc := h1.cell (i := 0) rfl
      have H2 := Lib.hid (h2.less (Y := S) (fun k hk => (h4 k).2 (.inl hk)))
      have H5 := Lib.hid h5
      clear h1 h2 h4 h5 hq
      gi_wp2
      refine leaves_marks (fun V' => RdX S V' (.slice va (nats r).length vc) (nats r) ∧ Below w1.heap.size w1 V') (fun V' hg => ⟨.tuple #[.slice va (nats r).length vc, .int .i64 0], by simp [results, Tryz.results87, go_sem], _, rfl, by rw [HHD.out]; exact hg.1, HB1.out.trans (hg.2.mono HB1.out.size)⟩) [w2.heap.size] V (by simp) (fun D hDm => ?_) (fun V' D hg hDm hw => ?_) ⟨H2.out, H5.out⟩
      · rw [List.mem_singleton.1 hDm]; exact hdef
      · rw [List.mem_singleton] at hDm
        subst hDm
        exact ⟨rd_own hg.1 (grownBy_putObj' V' w2.heap.size _) (fun k e => by cases e; exact ⟨_, hw, rfl⟩), hg.2.grown (grownBy_putObj' V' w2.heap.size _) hg.2.size (fun k e => by cases e; omega)⟩
  · rw [if_neg h0]
    obtain ⟨er, her⟩ : ∃ er, mayE A = er := ⟨_, rfl⟩
    rw [her] at HCK h0 ⊢
    have te : ((er : Int) != 0) = true := by simp; omega
    clear her h0
    go_enter Tryz.func87, Tryz.ntmps87
    go_wp2_with fail
    refine HCK.out.mono ?_
    rintro e w1 ⟨rfl, hb1⟩
    go_wp2
    refine bodyPost_ret (v := .tuple #[.slice none 0 0, .int .i64 er]) (by simp [results, Tryz.results87, go_sem]) rfl ⟨_, rfl, .inl ⟨rfl, _, _, rfl⟩, hb1⟩
end Go.Proofs.YtmnblljenobofaaGreatDoor
/- The walks of package quick's firstOf and rowsOf. -/
namespace Go.Proofs.YtmnblljenobofaaGreatDoor.WPlain
end Go.Proofs.YtmnblljenobofaaGreatDoor.WPlain
namespace Go.Proofs.YtmnblljenobofaaGreatDoor.QPlain
end Go.Proofs.YtmnblljenobofaaGreatDoor.QPlain
namespace Go.Proofs.YtmnblljenobofaaGreatDoor.RPlain
end Go.Proofs.YtmnblljenobofaaGreatDoor.RPlain
namespace Go.Proofs.YtmnblljenobofaaGreatDoor
open Go.RowKit WPlain QPlain RPlain

theorem below6 {A : List Nat} {n : Nat} (hn : n ≤ 6) (h : ∀ a ∈ A, a < 2 ^ n) : ∀ a ∈ A, a < 4294967296 := fun a ha => by
  have h1 := h a ha
  have h2 : 2 ^ n ≤ 2 ^ 6 := Nat.pow_le_pow_right (by decide) hn
  omega
theorem build_small {l : List Tx} (h6 : l.length ≤ 6) (c : Nat) (row : List Nat) : ∀ a ∈ buildS l c row, a < 4294967296 :=
  below6 (n := (buildS l c row).length) (by rw [build_len]; exact h6) build_lt
theorem whole_row {l : List Tx} {row : List Nat} (h : wholeS l.length (row.map fun x : Nat => (x : Int)) = true) : Whole l row := by
  obtain ⟨rn, he, hw⟩ := whole_iff.1 h
  have : row = rn := (List.map_inj_right (fun a b h => Int.ofNat.inj h)).1 he
  rw [this]
  exact hw
set_option maxRecDepth 100000 in
set_option maxHeartbeats 2000000 in
theorem firstQ_any (v rv : Value) (h : List Ev) (cm : Nat) (row : List Nat) (w : World) (hcm : cm < 4294967296) (hK : HasK w) (hv : Evs w v h) (hl : h.length ≤ 65536) (hr : Rd w rv (nats row)) (_hrl : row.length ≤ 65536)
    (h0 : errB h cm (row.map fun x : Nat => (x : Int)) = 0) (h6 : (tableS h).length ≤ 6) :
    Calls Tryz.prog 45 #[v, .int .u32 (cm : Int), rv] w fun e w' => ∃ v', e = .returned (.tuple #[v', .int .i64 (((if hitQ (tableS h) cm row = true then 0 else 8 : Nat) : Nat) : Int)]) ∧
      RdX (fun k => k < w.heap.size) w' v' (nats (if hitQ (tableS h) cm row = true then (allS (buildS (tableS h) cm row)).headD [] else [])) ∧ Below w.heap.size w w' := by
  have HBD := Lib.hid (buildX_ok v rv h cm row hcm w hK hv hl (by rw [← nats_intsS]; exact hr) (errB_zero h0).1 (whole_row (errB_zero h0).2.1) (errB_zero h0).2.2)
  have hbl := build_len (tableS h) cm row
  have HFI := Lib.hid (fun (a : Option Addr) (c : Nat) (W : World) (hW : w.heap.size ≤ W.heap.size) (hR : RdX (fun k => k < w.heap.size) W (.slice a (buildS (tableS h) cm row).length c) (u32s (buildS (tableS h) cm row))) => firstS_any (fun k => k < w.heap.size) a c (buildS (tableS h) cm row) W (fun k hk => Nat.lt_of_lt_of_le hk hW) hR (build_small h6 cm row) (by omega))
  obtain ⟨ea, ec, rfl⟩ := hv.len
  obtain ⟨ra, rc, rfl⟩ := hr.len
  rcases hit_may h6 cm row with ⟨hq, hm⟩ | ⟨hq, hm⟩
  · rw [hq, if_pos rfl, if_pos rfl]
    rw [hm, if_pos rfl] at HFI
    clear hK hv hr h0 hm hq hbl h6 _hrl hl hcm
    generalize buildS (tableS h) cm row = A at *
    generalize (allS A).headD [] = F at *
    generalize (nats row).length = rn at *
    go_enter Tryz.func45, Tryz.ntmps45
    go_wp2_with fail
    refine HBD.out.mono ?_
    rintro e w1 ⟨v1, rfl, hv1, hb1⟩
    obtain ⟨a1, c1, rfl⟩ := hv1.rd.len
    rw [u32s_len] at hv1 ⊢
    have HF := Lib.hid (HFI.out _ _ _ hb1.size hv1)
    have HB1 := Lib.hid hb1
    clear hv1 hb1 HBD HFI
    go_wp2_with fail
    refine HF.out.mono ?_
    rintro e w2 ⟨v2, rfl, hv2, hb2⟩
    have HV2 := Lib.hid hv2
    have HB2 := Lib.hid (HB1.out.trans (hb2.mono HB1.out.size))
    obtain ⟨a2, c2, rfl⟩ := hv2.rd.len
    clear hv2 hb2 HF HB1
    generalize (nats F).length = n2 at *
    go_wp2
    exact bodyPost_ret (v := .tuple #[.slice a2 n2 c2, .int .i64 0]) (by simp [results, Tryz.results45, go_sem]) rfl ⟨_, rfl, HV2.out, HB2.out⟩
  · rw [hq, if_neg (by decide), if_neg (by decide)]
    rw [hm, if_neg (by decide)] at HFI
    clear hK hv hr h0 hm hq hbl h6 _hrl hl hcm
    generalize buildS (tableS h) cm row = A at *
    generalize (nats row).length = rn at *
    go_enter Tryz.func45, Tryz.ntmps45
    go_wp2_with fail
    refine HBD.out.mono ?_
    rintro e w1 ⟨v1, rfl, hv1, hb1⟩
    obtain ⟨a1, c1, rfl⟩ := hv1.rd.len
    rw [u32s_len] at hv1 ⊢
    have HF := Lib.hid (HFI.out _ _ _ hb1.size hv1)
    have HB1 := Lib.hid hb1
    clear hv1 hb1 HBD HFI
    go_wp2_with fail
    refine HF.out.mono ?_
    rintro e w2 ⟨v2, rfl, hv2, hb2⟩
    have HV2 := Lib.hid hv2
    have HB2 := Lib.hid (HB1.out.trans (hb2.mono HB1.out.size))
    obtain ⟨a2, c2, rfl⟩ := hv2.rd.len
    clear hv2 hb2 HF HB1
    generalize (nats []).length = n2 at *
    go_wp2
    exact bodyPost_ret (v := .tuple #[.slice a2 n2 c2, .int .i64 8]) (by simp [results, Tryz.results45, go_sem]) rfl ⟨_, rfl, HV2.out, HB2.out⟩
set_option maxRecDepth 100000 in
set_option maxHeartbeats 2000000 in
theorem rowsOfQ_any (v : Value) (h : List Ev) (w : World) (hK : HasK w) (hv : Evs w v h) (hl : h.length ≤ 65536) (h0 : (checkS h).2 = 0) :
    Calls Tryz.prog 18 #[v] w fun e w' => ∃ v', e = .returned (.tuple #[v', .int .i64 0]) ∧ RowsN w' v' (allS (afterS (tableS h))) ∧ Below w.heap.size w w' := by
  have HAF := Lib.hid (after_any v h w hK hv hl)
  rw [h0, if_pos rfl] at HAF
  have h6 := table_six h0
  have hm := may_after h0
  have HAL := Lib.hid (fun (a : Option Addr) (c : Nat) (W : World) (hR : Rd W (.slice a (afterS (tableS h)).length c) (u32s (afterS (tableS h)))) => all_any a c (afterS (tableS h)) W hR (fun x hx => by have := after_lt (tableS h) h6 x hx; omega) (by rw [afterS_len]; omega))
  rw [hm, if_pos rfl] at HAL
  obtain ⟨ea, ec, rfl⟩ := hv.len
  clear hK hv h0 hm h6 hl
  generalize afterS (tableS h) = A at *
  go_enter Tryz.func18, Tryz.ntmps18
  go_wp2_with fail
  refine HAF.out.mono ?_
  rintro e w1 ⟨v1, rfl, hv1, hb1⟩
  obtain ⟨a1, c1, rfl⟩ := hv1.len
  rw [u32s_len] at hv1 ⊢
  have HF := Lib.hid (HAL.out _ _ _ hv1)
  have HB1 := Lib.hid hb1
  clear hv1 hb1 HAF HAL
  go_wp2_with fail
  refine HF.out.mono ?_
  rintro e w2 ⟨v2, vs, rfl, hv2, ⟨X, hrw⟩, hb2⟩
  have HV2 := Lib.hid (RowsN.of hv2 hrw)
  have HB2 := Lib.hid (HB1.out.trans (hb2.mono HB1.out.size))
  obtain ⟨a2, c2, rfl⟩ := hv2.len
  clear hv2 hb2 HF HB1 hrw
  go_wp2
  exact bodyPost_ret (v := .tuple #[.slice a2 vs.length c2, .int .i64 0]) (by simp [results, Tryz.results18, go_sem]) rfl ⟨_, rfl, HV2.out, HB2.out⟩
end Go.Proofs.YtmnblljenobofaaGreatDoor
/- The walk of package quick's readableOf. -/
namespace Go.Proofs.YtmnblljenobofaaGreatDoor.WPlain
end Go.Proofs.YtmnblljenobofaaGreatDoor.WPlain
namespace Go.Proofs.YtmnblljenobofaaGreatDoor.QPlain
end Go.Proofs.YtmnblljenobofaaGreatDoor.QPlain
namespace Go.Proofs.YtmnblljenobofaaGreatDoor.RPlain
end Go.Proofs.YtmnblljenobofaaGreatDoor.RPlain
namespace Go.Proofs.YtmnblljenobofaaGreatDoor
open Go.RowKit WPlain QPlain RPlain

theorem filter_take {p : Nat → Bool} {L : List Nat} {k : Nat} (h : k < L.length) : (L.take (k + 1)).filter p = if p L[k] = true then (L.take k).filter p ++ [L[k]] else (L.take k).filter p := by
  rw [List.take_add_one, List.getElem?_eq_getElem h, List.filter_append]
  cases hp : p L[k] <;> simp [hp]
theorem u32s_snocQ (L : List Nat) (x : Nat) : u32s L ++ [.int .u32 (x : Int)] = u32s (L ++ [x]) := by simp [u32s]
set_option maxRecDepth 100000 in
set_option maxHeartbeats 4000000 in
theorem readableOfQ_any (v : Value) (h : List Ev) (w : World) (hK : HasK w) (hv : Evs w v h) (hl : h.length ≤ 65536) (hu : errU h = 0) :
    Calls Tryz.prog 17 #[v] w fun e w' => ∃ v', e = .returned (.tuple #[v', .int .i64 0]) ∧ Rd w' v' (u32s ((choicesS (tableS h)).filter (readS (tableS h)))) ∧ Below w.heap.size w w' := by
  obtain ⟨i0, hi0, hz0, hz1, hz2⟩ := info_parts infoU
  have h0 := (errU_zero hu).1
  have h6 := table_six h0
  have h64 := pow_le_64 h6
  have HCH := Lib.hid (choices_any v h w hK hv hl)
  rw [h0, if_pos rfl] at HCH
  have hcl := choices_count (tableS h)
  rw [choices_chL h6] at hcl ⊢
  have HLT : Hid (∀ c ∈ chL (tableS h), c < 4294967296) := fun c hc => by have := (mem_chL.1 hc).1; omega
  have HRB := Lib.hid (fun (c : Nat) (hc : c ∈ chL (tableS h)) (W : World) (hW : Below w.heap.size w W) => readableG_any v h c (HLT.out c hc) W (hK.later hW (Nat.le_refl _)) (hv.below hW (Nat.le_refl _)) hl)
  have HRD : Hid (∀ c ∈ chL (tableS h), rdG h c = readS (tableS h) c ∧ errG h c = 0) := fun c hc => by
    have := quick_errG hu (mem_chL.1 hc).1
    exact ⟨by unfold rdG; rw [if_pos this], this⟩
  obtain ⟨ea, ec, rfl⟩ := hv.len
  clear hK hv h0 h6 h64 hl hu
  generalize chL (tableS h) = cs at *
  generalize readS (tableS h) = p at *
  go_enter Tryz.func17, Tryz.ntmps17
  go_wp2_with fail
  refine HCH.out.mono ?_
  rintro e w2 ⟨v2, rfl, hr2, hb2⟩
  have HR2 := Lib.hid hr2
  obtain ⟨ca, cc, rfl⟩ := hr2.len
  rw [u32s_len] at HR2 ⊢
  have HB2 := Lib.hid hb2
  clear hr2 hb2 HCH
  have HN0 : Hid (w2.ownsRow w2.heap.size 23 1 (.slice none 0 0) ((cs.take 0).filter p).length (u32s ((cs.take 0).filter p))) := by rw [List.take_zero]; exact World.ownsRow_nil _ _ _ _
  have HBB := Lib.hid (Below.refl w2.heap.size w2)
  go_wp2_with fail
  go_loopw [6, 21] (fun y x wr => ∃ k : Nat, k ≤ cs.length ∧ x = .int .i64 k ∧ Hid (wr.ownsRow w2.heap.size 23 1 y ((cs.take k).filter p).length (u32s ((cs.take k).filter p))) ∧ Hid (Below w2.heap.size w2 wr)) (fun _ x _ => cs.length - (intOf x).toNat)
  case atStart => exact ⟨0, by omega, rfl, HN0, HBB⟩
  case round =>
    clear HN0 HBB
    obtain ⟨k, hk, rfl, HR, HB⟩ := hrel
    have hgl : ((cs.take k).filter p).length ≤ 64 := by
      have := List.length_filter_le p (cs.take k)
      rw [List.length_take] at this
      omega
    by_cases hlt : k < cs.length
    · obtain ⟨b, o, pc, he, hbl, hcells⟩ := (HR2.out.below HB.out (Nat.le_refl _)).opened (by rw [u32s_len]; omega)
      rw [u32s_len] at he
      simp only [Value.slice.injEq] at he
      obtain ⟨rfl, -, rfl⟩ := he
      have hcj := hcells k _ (u32s_get hlt)
      have hmem := List.getElem_mem hlt
      have HC := Lib.hid (HRB.out _ hmem wr (HB2.out.trans (HB.out.mono HB2.out.size)))
      obtain ⟨hrd, hre⟩ := HRD.out _ hmem
      rw [hrd, hre] at HC
      have HSK := Lib.hid (filter_take (p := p) hlt)
      clear hcells hrd hre hmem
      generalize cs[k] = ci at *
      generalize (cs.take k).filter p = M at *
      obtain ⟨ma, mc, rfl⟩ := row_slice HR.out
      cases hb : p ci with
      | true =>
        have HS2 : Hid ((cs.take (k + 1)).filter p = M ++ [ci]) := by unfold Hid; rw [HSK.out, if_pos hb]
        rw [hb] at HC
        clear hb HSK
        go_wp2_with fail
        refine HC.out.mono ?_
        rintro e w3 ⟨rfl, hb3⟩
        have hr3 := row_belowT HR.out hb3
        have hbb := HB.out.trans (hb3.mono HB.out.size)
        clear hb3 hcj
        go_wp2_with (at_builtin; go_must (refine wpList_append_own _ rfl _ _ 41 rfl w2.heap.size 23 i0 (.int .u32 0) 1 4 Tryz.underlying41 hi0 hz0 hz1 hz2 rfl (by decide) _ _ _ rfl (hr3.alloc _) ⟨w3.heap.size, 0, none⟩ 1 1 [.int .u32 (ci : Int)] rfl rfl ?c1 ?c2 ?c3 ?c4 ?c5 ?_))
        case c1 => exact cell_one_at w3 _ _
        case c2 => exact one_int _ _
        case c3 => unfold maxLen; omega
        case c4 => omega
        case c5 => have := hbb.size; simp; omega
        intro v5 w5 hv5 hg5 _
        have HB5 : Hid (Below w2.heap.size w2 w5) := (hbb.alloc hbb.size (.cells #[.int .u32 (ci : Int)] 23)).grown hg5 (by have := hbb.size; simp; omega) (fun k' hk' => (hr3.lt k' hk').1)
        have HR5 : Hid (w5.ownsRow w2.heap.size 23 1 v5 (M ++ [ci]).length (u32s (M ++ [ci]))) := by rw [← u32s_snocQ, List.length_append]; exact hv5
        clear hv5 hg5 hr3 hbb HR HB HC
        go_wp2
        go_roundw
        case rel => exact ⟨k + 1, by omega, by go_num, by rw [HS2.out]; exact HR5, HB5⟩
        case measure => simp [intOf]; omega
      | false =>
        have HS2 : Hid ((cs.take (k + 1)).filter p = M) := by unfold Hid; rw [HSK.out, if_neg (by rw [hb]; decide)]
        rw [hb] at HC
        clear hb HSK
        go_wp2_with fail
        refine HC.out.mono ?_
        rintro e w3 ⟨rfl, hb3⟩
        have HR3 := Lib.hid (row_belowT HR.out hb3)
        have HB3 := Lib.hid (HB.out.trans (hb3.mono HB.out.size))
        clear hb3 hcj
        go_wp2_with fail
        go_roundw
        case rel => exact ⟨k + 1, by omega, by go_num, by rw [HS2.out]; exact HR3, HB3⟩
        case measure => simp [intOf]; omega
    · obtain rfl : k = cs.length := by omega
      rw [List.take_length] at HR
      have HB3 := Lib.hid (HB2.out.trans (HB.out.mono HB2.out.size))
      have HRF := Lib.hid (Rd.of_row HR.out)
      obtain ⟨ma, mc, rfl⟩ := row_slice HR.out
      clear HR HB
      go_wp2
      exact bodyPost_ret (v := .tuple #[.slice ma (cs.filter p).length mc, .int .i64 0]) (by simp [results, Tryz.results17, go_sem]) rfl ⟨_, rfl, HRF.out, HB3.out⟩
end Go.Proofs.YtmnblljenobofaaGreatDoor
