/- Merged: ExtW, GphF, GphG, GphH, GphI. -/
import Derived.Test.YtmnblljenobofaaGreatDoorMg1
import Derived.Test.YtmnblljenobofaaGreatDoorGphE
import Derived.Test.YtmnblljenobofaaGreatDoorMg10
import Derived.Test.YtmnblljenobofaaGreatDoorOrdE
import Derived.Test.YtmnblljenobofaaGreatDoorMg12
import Derived.Test.YtmnblljenobofaaGreatDoorMg16
import Derived.Test.YtmnblljenobofaaGreatDoorShelf
import Derived.Deep.QuietTactic
import Derived.Below
import Derived.Deep.RegionHeldLaw
import Derived.Deep.DeepMust
/- A region that draws its order, whose operations only read and whose callees lay blocks of their own: walked once, in the order of the text, at the class of the worlds that lie over one. -/
namespace Go.Proofs.YtmnblljenobofaaGreatDoor
open Go.RowKit

/-- a world that lies over w: what lay in w lies as it lay -/
structure Ext (w : World) where
  wld : World
  below : Below w.heap.size w wld
instance (w : World) : Inhabited (Ext w) := ⟨⟨w, Below.refl _ w⟩⟩
theorem wp_region_ext {P : Program} {id : Nat} {Q : Exit → Act → World → Prop} {a : Act} {w : World} {l : List Oper} (hm : P.follows .mixedOrders = true) (hB : Region.lexB .any l.toArray = true)
    (h : wpQuiet P l.toArray (fun w' => ∃ p : Ext w, w' = p.wld) (fun a' => ∀ w', (∃ p : Ext w, w' = p.wld) → Q .normal a' w') l a) : (Code.region id l.toArray true).wp P Q a w :=
  wp_region_quiet (C := fun w' => ∃ p : Ext w, w' = p.wld) hm hB ⟨⟨w.drew, (Below.refl _ w).drew⟩, rfl⟩ (by simpa using h)
theorem calls_ext {P : Program} {f : FuncId} {args : Array Value} {w : World} {p : Ext w} {v : Value}
    (h : ∀ W, Below w.heap.size w W → Calls P f args W fun e w' => e = .returned v ∧ Below W.heap.size W w') : Calls P f args p.wld fun e w'' => e = .returned v ∧ ∃ q : Ext w, w'' = q.wld :=
  (h p.wld p.below).mono fun _ w' ⟨he, hb⟩ => ⟨he, ⟨w', p.below.trans (hb.mono p.below.size)⟩, rfl⟩
end Go.Proofs.YtmnblljenobofaaGreatDoor
/- The walks of package graph's canRead and isReadable. -/
namespace Go.Proofs.YtmnblljenobofaaGreatDoor.WPlain
end Go.Proofs.YtmnblljenobofaaGreatDoor.WPlain
namespace Go.Proofs.YtmnblljenobofaaGreatDoor.QPlain
end Go.Proofs.YtmnblljenobofaaGreatDoor.QPlain
namespace Go.Proofs.YtmnblljenobofaaGreatDoor.RPlain
end Go.Proofs.YtmnblljenobofaaGreatDoor.RPlain
namespace Go.Proofs.YtmnblljenobofaaGreatDoor.RPlain
open WPlain QPlain

theorem can_none (l : List Tx) (c t n : Nat) (o : Rwo) : canB l c t n o (-1) = true := by unfold canB; rw [if_pos rfl]
theorem can_nobody (l : List Tx) (c t n : Nat) (o : Rwo) : canB l c t n o (-2) = false := by unfold canB; rw [if_neg (by omega), if_pos rfl]
theorem can_own (l : List Tx) (c t n : Nat) (o : Rwo) : canB l c t n o (t : Int) = decide (o.x = lastGv ((opsAt l t).take n) o.v) := by unfold canB; rw [if_neg (by omega), if_neg (by omega), if_pos rfl]
theorem can_other (l : List Tx) (c t n : Nat) (o : Rwo) {k : Nat} (hk : k ≠ t) : canB l c t n o (k : Int) = (c.testBit k && decide (o.x = lastGv (opsAt l k) o.v)) := by
  unfold canB
  rw [if_neg (by omega), if_neg (by omega), if_neg (by omega), Int.toNat_natCast]
theorem src_which {l : List Tx} {t n : Nat} {o : Rwo} (ho : (opsAt l t)[n]? = some o) (hr : o.w = false) : srcS l t n = (t : Int) ∨ srcS l t n = -1 ∨ srcS l t n = -2 ∨ ∃ w : Nat, w < l.length ∧ w ≠ t ∧ srcS l t n = (w : Int) := by
  rcases src_cases ho hr with ⟨_, e2⟩ | ⟨_, _, e3⟩ | ⟨_, _, ⟨w, f1, f2, _, f4⟩ | ⟨_, f2⟩⟩
  · exact .inl e2
  · exact .inr (.inl e3)
  · exact .inr (.inr (.inr ⟨w, f1, f2, f4⟩))
  · exact .inr (.inr (.inl f2))
end Go.Proofs.YtmnblljenobofaaGreatDoor.RPlain
namespace Go.Proofs.YtmnblljenobofaaGreatDoor
open Go.RowKit WPlain QPlain RPlain

set_option maxRecDepth 100000 in
set_option maxHeartbeats 8000000 in
theorem canRead_walk (ta sa : Option Addr) (ln tc sn sc cm : Nat) (l : List Tx) (hln : l.length = ln) (t n : Nat) (o : Rwo) (w : World) (hv : Txs w (.slice ta ln tc) l) (hf : Fine l) (hcm : cm < 4294967296) (ho : (opsAt l t)[n]? = some o) (hr : o.w = false) :
    Calls Tryz.prog 95 #[.agg #[.slice ta ln tc, .slice sa sn sc, .int .u32 (cm : Int)], .int .i64 (t : Int), .int .i64 (n : Int), .int .i64 (srcS l t n)] w fun e w' => e = .returned (.bool (expl1 l cm t n)) ∧ Below w.heap.size w w' := by
  rw [expl_can ho hr]
  have hwh := src_which ho hr
  generalize srcS l t n = s at *
  obtain ⟨R, hR⟩ : ∃ R, canB l cm t n o s = R := ⟨_, rfl⟩
  rw [hR]
  have ht := opsAt_lt ho
  have hl6 := hf.six
  rw [hln] at hl6
  have HLN := Lib.hid hln
  have hoe := opsAt_eq ht
  rw [hoe] at ho
  obtain ⟨hn, hoe2⟩ := List.getElem?_eq_some_iff.1 ho
  obtain ⟨tb, tq, tcc, he⟩ := hv.opened (by omega)
  simp only [Value.slice.injEq] at he
  obtain ⟨rfl, -, -⟩ := he
  obtain ⟨u, x0, x1, x2, x3, x4, q⟩ := hv.get t ht
  have hfx := (hf.ops _ (List.getElem_mem ht)).1
  have hbl := cell_lt x4
  obtain ⟨ua, uc, rfl, huc⟩ := q.len
  obtain ⟨ob, oo, rfl, hobl, c0, c1, c2⟩ := Opv.at q n hn
  rw [hoe2] at c0 c1 c2
  obtain ⟨ow, ov, ox⟩ := o
  dsimp only at *
  subst hr
  have HLW := Lib.hid (fun (W : World) (hW : Below w.heap.size w W) => lastG_any _ (l[t].o.take n) ov W ((q.below hW (Nat.le_refl _)).cut n (Nat.le_of_lt hn)) (by rw [List.length_take]; omega))
  have HLO := Lib.hid (fun (k : Nat) (hk : k < l.length) (W : World) (u : Value) (hu : Opv W u l[k].o) => lastG_any u l[k].o ov W hu (hf.ops _ (List.getElem_mem hk)).1)
  have HV := Lib.hid hv
  have HCM := Lib.hid hcm
  have hba1 : Below w.heap.size w (w.alloc (.cells #[.slice (some ⟨tb, tq, none⟩) ln tc, .slice sa sn sc, .int .u32 (cm : Int)] 90)) := (Below.refl _ w).alloc (Nat.le_refl _) _
  have hba2 := hba1.alloc hba1.size (.cells #[.bool false, .int .i64 ov, .int .i64 ox] 82)
  have hA1 := (At.new w #[.slice (some ⟨tb, tq, none⟩) ln tc, .slice sa sn sc, .int .u32 (cm : Int)] 90).alloc (.cells #[.bool false, .int .i64 ov, .int .i64 ox] 82)
  have hA2 := At.new (w.alloc (.cells #[.slice (some ⟨tb, tq, none⟩) ln tc, .slice sa sn sc, .int .u32 (cm : Int)] 90)) #[.bool false, .int .i64 ov, .int .i64 ox] 82
  have hsz : (w.alloc (.cells #[.slice (some ⟨tb, tq, none⟩) ln tc, .slice sa sn sc, .int .u32 (cm : Int)] 90)).heap.size = w.heap.size + 1 := by simp
  rw [hsz] at hA2
  have HB2 := Lib.hid hba2
  have HA1 := Lib.hid hA1
  have HA2 := Lib.hid hA2
  have x5 := (hba2.cell (p := ⟨tb, tq + t * 5 + 4, none⟩) hbl).trans x4
  have htl : (t : Int) < (ln : Int) := by omega
  have hnl : (n : Int) < (l[t].o.length : Int) := by omega
  have hnu : (n : Int) ≤ (uc : Int) := by omega
  obtain ⟨m, hm⟩ : ∃ m, l[t].o.length = m := ⟨_, rfl⟩
  rw [hm] at x4 x5 hnl huc hfx hn
  have co := @can_own l cm t n ⟨false, ov, ox⟩
  have ck := fun (k : Nat) (hk : k ≠ t) => @can_other l cm t n ⟨false, ov, ox⟩ k hk
  have c1' := can_none l cm t n ⟨false, ov, ox⟩
  have c2' := can_nobody l cm t n ⟨false, ov, ox⟩
  rw [hoe] at co
  dsimp only at co ck
  have CO := Lib.hid co
  have CK := Lib.hid ck
  have CN := Lib.hid c1'
  have CB := Lib.hid c2'
  have htn : t < ln := by omega
  clear hln hv hf hcm hba1 hA1 hA2 hsz q ho x0 x1 x2 x3 hoe co ck c1' c2' hm hba2
  go_enter Tryz.func95, Tryz.ntmps95
  go_upto_region 2 with fail
  generalize (w.alloc (.cells #[.slice (some ⟨tb, tq, none⟩) ln tc, .slice sa sn sc, .int .u32 (cm : Int)] 90)).alloc (.cells #[.bool false, .int .i64 ov, .int .i64 ox] 82) = w2 at *
  clear c0 c1 c2 x4
  rcases hwh with rfl | rfl | rfl | ⟨k, hk, hkt, rfl⟩
  · have t1 : ((t : Int) == -1) = false := by simp
    have t2 : ((t : Int) == -2) = false := by simp
    have t3 : ((t : Int) == (t : Int)) = true := by simp
    have e1 := HA2.out.cell (i := 1) rfl
    have e2 := HA2.out.cell (i := 2) rfl
    have e3 := HA1.out.cell (i := 0) rfl
    rw [CO.out] at hR
    have HRS := Lib.hid hR
    clear hR
    have HSC : Hid (∀ W, Below w2.heap.size w2 W → W.cell? ⟨w.heap.size + 1, 1, none⟩ = some (.int .i64 ov) ∧ W.cell? ⟨w.heap.size + 1, 2, none⟩ = some (.int .i64 ox) ∧ W.cell? ⟨w.heap.size, 0, none⟩ = some (.slice (some ⟨tb, tq, none⟩) ln tc) ∧ W.cell? ⟨tb, tq + t * 5 + 4, none⟩ = some (.slice (some ⟨ob, oo, none⟩) m uc)) := fun W hW =>
      ⟨(HA2.out.below hW HA2.out.lt).cell (i := 1) rfl, (HA2.out.below hW HA2.out.lt).cell (i := 2) rfl, (HA1.out.below hW HA1.out.lt).cell (i := 0) rfl, (hW.cell (p := ⟨tb, tq + t * 5 + 4, none⟩) (cell_lt x5)).trans x5⟩
    have HLW2 := Lib.hid (fun (W : World) (hW : Below w2.heap.size w2 W) => HLW.out W (HB2.out.trans (hW.mono HB2.out.size)))
    have HWB : Hid (∀ W, Below w2.heap.size w2 W → Below w.heap.size w W) := fun W hW => HB2.out.trans (hW.mono HB2.out.size)
    generalize lastGv (l[t].o.take n) ov = lw at *
    clear CO CK CN CB HLO HLW
    go_upto_region 8 with fail
    first
    | go_must (go_region_held_law (fun w' => w'.cell? ⟨w.heap.size + 1, 1, none⟩ = some (.int .i64 ov) ∧ w'.cell? ⟨w.heap.size + 1, 2, none⟩ = some (.int .i64 ox) ∧ w'.cell? ⟨w.heap.size, 0, none⟩ = some (.slice (some ⟨tb, tq, none⟩) ln tc) ∧ w'.cell? ⟨tb, tq + t * 5 + 4, none⟩ = some (.slice (some ⟨ob, oo, none⟩) m uc))
        (first | exact HSC.out _ hb5 | exact HSC.out _ (below_drP _))
        (first
          | (go_at_call 121; refine (HLW2.out _ (below_drP _)).mono ?_; rintro e w5 ⟨rfl, hb⟩; have hb5 := below_stpP hb)))
    | fail
    have HB5 := Lib.hid (HWB.out _ hb5)
    clear hb5 hb HSC HWB HLW2
    go_wp2
    go_ret
    exact ⟨ret_bool (by rw [← HRS.out]; rfl), HB5.out⟩
  · have t1 : ((-1 : Int) == -1) = true := by decide
    rw [CN.out] at hR
    subst hR
    clear CO CK CN CB HLO HLW
    go_wp2
    go_ret
    exact ⟨rfl, HB2.out⟩
  · have t1 : ((-2 : Int) == -1) = false := by decide
    have t2 : ((-2 : Int) == -2) = true := by decide
    rw [CB.out] at hR
    subst hR
    clear CO CK CN CB HLO HLW
    go_wp2
    go_ret
    exact ⟨rfl, HB2.out⟩
  · have t1 : ((k : Int) == -1) = false := by simp
    have t2 : ((k : Int) == -2) = false := by simp
    have t3 : ((k : Int) == (t : Int)) = false := by simp; omega
    have hk32 : k < 32 := by have := HLN.out; omega
    obtain ⟨u3, y0, y1, y2, y3, y4, q3⟩ := HV.out.get k hk
    obtain ⟨ya, yc, rfl, hyc⟩ := q3.len
    have e1 := HA2.out.cell (i := 1) rfl
    have e2 := HA2.out.cell (i := 2) rfl
    have e3 := HA1.out.cell (i := 0) rfl
    have e4 := HA1.out.cell (i := 1) rfl
    have e5 := HA1.out.cell (i := 2) rfl
    have hyb := cell_lt y4
    have y5 := (HB2.out.cell (p := ⟨tb, tq + k * 5 + 4, none⟩) hyb).trans y4
    rw [CK.out k hkt, show opsAt l k = l[k].o from opsAt_eq hk] at hR
    have HRS := Lib.hid hR
    clear hR
    have HCT := Lib.hid (fun (W : World) (_ : Below w2.heap.size w2 W) => commitG_any (some ⟨tb, tq, none⟩) sa ln tc sn sc cm k hk32 HCM.out W)
    have HLW2 := Lib.hid (fun (W : World) (hW : Below w2.heap.size w2 W) => HLO.out k hk W _ (q3.below (HB2.out.trans (hW.mono HB2.out.size)) (Nat.le_refl _)))
    have HWB : Hid (∀ W, Below w2.heap.size w2 W → Below w.heap.size w W) := fun W hW => HB2.out.trans (hW.mono HB2.out.size)
    generalize lastGv l[k].o ov = lw at *
    obtain ⟨mk, hmk⟩ : ∃ mk, l[k].o.length = mk := ⟨_, rfl⟩
    rw [hmk] at y4 y5 hyc HLW2
    have k1 : ∀ p : Ext w2, p.wld.cell? ⟨w.heap.size + 1, 1, none⟩ = some (.int .i64 ov) := fun p => cell_on p.below (HA2.out.cell rfl)
    have k2 : ∀ p : Ext w2, p.wld.cell? ⟨w.heap.size + 1, 2, none⟩ = some (.int .i64 ox) := fun p => cell_on p.below (HA2.out.cell rfl)
    have k3 : ∀ p : Ext w2, p.wld.cell? ⟨w.heap.size, 0, none⟩ = some (.slice (some ⟨tb, tq, none⟩) ln tc) := fun p => cell_on p.below (HA1.out.cell rfl)
    have k4 : ∀ p : Ext w2, p.wld.cell? ⟨w.heap.size, 1, none⟩ = some (.slice sa sn sc) := fun p => cell_on p.below (HA1.out.cell rfl)
    have k5 : ∀ p : Ext w2, p.wld.cell? ⟨w.heap.size, 2, none⟩ = some (.int .u32 (cm : Int)) := fun p => cell_on p.below (HA1.out.cell rfl)
    have k6 : ∀ p : Ext w2, p.wld.cell? ⟨tb, tq + k * 5 + 4, none⟩ = some (.slice ya mk yc) := fun p => cell_on p.below y5
    have mixed : Tryz.prog.follows .mixedOrders = true := by kernel_rfl
    have hkl : (k : Int) < (ln : Int) := by have := HLN.out; omega
    clear CO CK CN CB HLO HLW y0 y1 y2 y3 y4 q3 hmk
    go_upto_region 9 with fail
    cases hb : cm.testBit k with
    | false =>
      rw [hb] at HCT HRS
      clear hb
      have hr := HRS.out
      rw [Bool.false_and] at hr
      subst hr
      refine wp_region_ext mixed (by kernel_rfl) ?_
      repeat (go_big_quiet_step (first
        | (go_at_call 96; refine calls_ext HCT.out)))
      refine wpQuiet_nil ?_
      intro w8 hw8
      obtain ⟨⟨wq, hbq⟩, hq⟩ := hw8
      obtain rfl : w8 = wq := hq
      have HB5 := Lib.hid (HWB.out _ hbq)
      clear hbq HWB HLW2 k1 k2 k3 k4 k5 k6
      go_wp2
      go_ret
      exact ⟨rfl, HB5.out⟩
    | true =>
      rw [hb] at HCT HRS
      rw [Bool.true_and] at HRS
      clear hb
      refine wp_region_ext mixed (by kernel_rfl) ?_
      repeat (go_big_quiet_step (first
        | (go_at_call 96; refine calls_ext HCT.out)
        | (go_at_call 121; refine calls_ext HLW2.out)))
      refine wpQuiet_nil ?_
      intro w8 hw8
      obtain ⟨⟨wq, hbq⟩, hq⟩ := hw8
      obtain rfl : w8 = wq := hq
      have HB5 := Lib.hid (HWB.out _ hbq)
      clear hbq HWB HLW2 k1 k2 k3 k4 k5 k6
      go_wp2
      go_ret
      exact ⟨ret_bool (by rw [← HRS.out]; rfl), HB5.out⟩
theorem canRead_any (ta sa : Option Addr) (tc sn sc cm : Nat) (l : List Tx) (t n : Nat) (o : Rwo) (w : World) (hv : Txs w (.slice ta l.length tc) l) (hf : Fine l) (hcm : cm < 4294967296) (ho : (opsAt l t)[n]? = some o) (hr : o.w = false) :
    Calls Tryz.prog 95 #[.agg #[.slice ta l.length tc, .slice sa sn sc, .int .u32 (cm : Int)], .int .i64 (t : Int), .int .i64 (n : Int), .int .i64 (srcS l t n)] w fun e w' => e = .returned (.bool (expl1 l cm t n)) ∧ Below w.heap.size w w' :=
  canRead_walk ta sa l.length tc sn sc cm l rfl t n o w hv hf hcm ho hr
end Go.Proofs.YtmnblljenobofaaGreatDoor
/- The walk of package graph's isReadable, with its closure. -/
namespace Go.Proofs.YtmnblljenobofaaGreatDoor.WPlain
end Go.Proofs.YtmnblljenobofaaGreatDoor.WPlain
namespace Go.Proofs.YtmnblljenobofaaGreatDoor.QPlain
end Go.Proofs.YtmnblljenobofaaGreatDoor.QPlain
namespace Go.Proofs.YtmnblljenobofaaGreatDoor.RPlain
end Go.Proofs.YtmnblljenobofaaGreatDoor.RPlain
namespace Go.Proofs.YtmnblljenobofaaGreatDoor
open Go.RowKit WPlain QPlain RPlain

/-- what stands from read to read: whether all that was read can be explained -/
def AllJ (l : List Tx) (cm M V : Nat) (cs : Array Value) (t n : Nat) (W : World) : Prop := At W M #[.bool (explTo l cm t n)] 4 ∧ At W V cs 90
theorem allJ (l : List Tx) (cm M V : Nat) (cs : Array Value) : Reads l (AllJ l cm M V cs) :=
  ⟨fun t n w w' h hb => ⟨h.1.below hb h.1.lt, h.2.below hb h.2.lt⟩, fun t n w o h ho hw => ⟨by rw [explTo_next, expl_write ho hw, Bool.and_true]; exact h.1, h.2⟩, fun t w h => ⟨by rw [explTo_row]; exact h.1, h.2⟩⟩
set_option maxRecDepth 100000 in
set_option maxHeartbeats 2000000 in
theorem readC_any (ta sa : Option Addr) (tc sc cm : Nat) (l : List Tx) (M V : Nat) (hne : V ≠ M) (t n : Nat) (o : Rwo) (w : World) (hv : Txs w (.slice ta l.length tc) l) (hf : Fine l) (hcm : cm < 4294967296)
    (hj : AllJ l cm M V #[.slice ta l.length tc, .slice sa l.length sc, .int .u32 (cm : Int)] t n w) (ho : (opsAt l t)[n]? = some o) (hr : o.w = false) :
    Calls Tryz.prog 94 #[.int .i64 (t : Int), .int .i64 (n : Int), .int .i64 (srcS l t n), .pointer (some ⟨M, 0, none⟩), .pointer (some ⟨V, 0, none⟩)] w fun e w' =>
      (∃ v, e = .returned v) ∧ AllJ l cm M V #[.slice ta l.length tc, .slice sa l.length sc, .int .u32 (cm : Int)] t (n + 1) w' ∧ Only (fun b => b = M) w w' := by
  have HC := Lib.hid (canRead_any ta sa tc l.length sc cm l t n o w hv hf hcm ho hr)
  obtain ⟨a1, a2⟩ := hj
  unfold AllJ
  rw [explTo_next]
  have m0 := a1.cell (i := 0) rfl
  have f0 := a1.free 0
  have v0 := a2.cell (i := 0) rfl
  have v1 := a2.cell (i := 1) rfl
  have v2 := a2.cell (i := 2) rfl
  have HA1 := Lib.hid a1
  have HA2 := Lib.hid a2
  have HNE : Hid (V ≠ M) := hne
  have hM := a1.lt
  have hV := a2.lt
  clear hv hf hcm ho hr a1 a2 hne
  generalize explTo l cm t n = e1 at *
  generalize expl1 l cm t n = r at *
  generalize srcS l t n = s at *
  generalize l.length = ln at *
  cases e1 with
  | false =>
    rw [Bool.false_and]
    clear HC
    go_enter Tryz.func94, Tryz.ntmps94
    go_wp2
    go_end0
    exact ⟨⟨_, rfl⟩, ⟨HA1.out.set 0 (.bool false), HA2.out.other (a := ⟨M, 0, none⟩) HNE.out _⟩, Only.setCell (s := fun b => b = M) (Only.refl _ w) (p := ⟨M, 0, none⟩) (fun _ => rfl) _⟩
  | true =>
    rw [Bool.true_and]
    go_enter Tryz.func94, Tryz.ntmps94
    go_wp2_with (go_at_call 95; refine HC.out.mono ?_; rintro e w3 ⟨rfl, hb3⟩; have HB3 := Lib.hid hb3; have HA3 := Lib.hid (HA1.out.below hb3 HA1.out.lt); have m3 := HA3.out.cell (i := 0) rfl; have f3 := HA3.out.free 0)
    go_end0
    exact ⟨⟨_, rfl⟩, ⟨HA3.out.set 0 (.bool r), (HA2.out.below HB3.out HA2.out.lt).other (a := ⟨M, 0, none⟩) HNE.out _⟩, Only.setCell (s := fun b => b = M) (Only.of_below HB3.out) (p := ⟨M, 0, none⟩) (fun _ => rfl) _⟩
set_option maxRecDepth 100000 in
set_option maxHeartbeats 2000000 in
theorem isReadable_any (ta sa : Option Addr) (tc sc cm : Nat) (l : List Tx) (w : World) (hv : Txs w (.slice ta l.length tc) l) (hs : Rows2 w (.slice sa l.length sc) (sourcesS l)) (hf : Fine l) (hcm : cm < 4294967296) :
    Calls Tryz.prog 59 #[.agg #[.slice ta l.length tc, .slice sa l.length sc, .int .u32 (cm : Int)]] w fun e w' => e = .returned (.bool (readS l cm)) ∧ Below w.heap.size w w' := by
  have hb1 : Below w.heap.size w (w.alloc (.cells #[.slice ta l.length tc, .slice sa l.length sc, .int .u32 (cm : Int)] 90)) := (Below.refl _ w).alloc (Nat.le_refl _) _
  have hb2 := hb1.alloc hb1.size (.cells #[.bool true] 4)
  have hA1 := (At.new w #[.slice ta l.length tc, .slice sa l.length sc, .int .u32 (cm : Int)] 90).alloc (.cells #[.bool true] 4)
  have hA2 := At.new (w.alloc (.cells #[.slice ta l.length tc, .slice sa l.length sc, .int .u32 (cm : Int)] 90)) #[.bool true] 4
  have hsz : (w.alloc (.cells #[.slice ta l.length tc, .slice sa l.length sc, .int .u32 (cm : Int)] 90)).heap.size = w.heap.size + 1 := by simp
  rw [hsz] at hA2
  have HE := Lib.hid (eachA_any ta sa tc sc cm l (w.heap.size + 1) w.heap.size (w.heap.size + 1) _ hf (allJ l cm (w.heap.size + 1) w.heap.size #[.slice ta l.length tc, .slice sa l.length sc, .int .u32 (cm : Int)]) w hv hs
    (fun t n o W hW _ hj ho hr => readC_any ta sa tc sc cm l (w.heap.size + 1) w.heap.size (by omega) t n o W (hv.below hW (Nat.le_refl _)) hf hcm hj ho hr) _ hb2 (by omega) hA2.lt ⟨hA2, hA1⟩)
  have HB := Lib.hid hb2
  have HALL := Lib.hid (explTo_all l cm)
  have e0 := hA1.cell (i := 0) rfl
  have e1 := hA1.cell (i := 1) rfl
  have e2 := hA1.cell (i := 2) rfl
  have hN := hA1.lt
  clear hA1 hA2 hsz hb1 hb2 hv hs hf hcm
  go_enter Tryz.func59, Tryz.ntmps59
  go_wp2_with fail
  refine HE.out.mono ?_
  rintro e w3 ⟨⟨rv, rfl⟩, ⟨hj1, -⟩, ho3⟩
  rw [HALL.out] at hj1
  have HB3 := Lib.hid (HB.out.trans ((ho3.below (B := w.heap.size) HB.out.size (fun k _ hk => by rw [hk]; exact Nat.le_succ _)).mono (Nat.le_refl _)))
  have m3 := hj1.cell (i := 0) rfl
  have hM3 := hj1.lt
  clear hj1 ho3 HE e0 e1 e2
  go_wp2
  go_ret
  exact ⟨rfl, HB3.out⟩
end Go.Proofs.YtmnblljenobofaaGreatDoor
/- The walks of package graph's Build's closures, and of putRead. -/
namespace Go.Proofs.YtmnblljenobofaaGreatDoor.WPlain
end Go.Proofs.YtmnblljenobofaaGreatDoor.WPlain
namespace Go.Proofs.YtmnblljenobofaaGreatDoor.QPlain
end Go.Proofs.YtmnblljenobofaaGreatDoor.QPlain
namespace Go.Proofs.YtmnblljenobofaaGreatDoor.RPlain
end Go.Proofs.YtmnblljenobofaaGreatDoor.RPlain
namespace Go.Proofs.YtmnblljenobofaaGreatDoor
open Go.RowKit WPlain QPlain RPlain

theorem u32s_put (A : List Nat) {i : Nat} (k : Nat) (hi : i < A.length) : (u32s A).toArray.setIfInBounds i (.int .u32 ((A[i] ||| 2 ^ k : Nat) : Int)) = (u32s (putGe A (i, k))).toArray := by
  unfold putGe
  dsimp only
  rw [List.getElem?_eq_getElem hi, Option.getD_some]
  apply Array.ext'
  rw [Array.toList_setIfInBounds]
  unfold u32s
  rw [List.map_set]
theorem u32s_at (A : List Nat) {i : Nat} (hi : i < A.length) : (u32s A).toArray[i]? = some (.int .u32 ((A[i] : Nat) : Int)) := by
  simp [u32s, hi]
/-- the graph as it lies, and the boxes of it and of the row -/
structure GrJ (M PA PR n : Nat) (ra : Option Addr) (rc : Nat) (A : List Nat) (w : World) : Prop where
  row : At w M (u32s A).toArray 23
  box : At w PA #[.slice (some ⟨M, 0, none⟩) n n] 41
  who : At w PR #[.slice ra n rc] 24
theorem GrJ.below {M PA PR n : Nat} {ra : Option Addr} {rc : Nat} {A : List Nat} {w w' : World} (h : GrJ M PA PR n ra rc A w) (hb : Below w.heap.size w w') : GrJ M PA PR n ra rc A w' :=
  ⟨h.row.below hb h.row.lt, h.box.below hb h.box.lt, h.who.below hb h.who.lt⟩
set_option maxRecDepth 100000 in
set_option maxHeartbeats 1000000 in
theorem putC_any (A : List Nat) (i k M PA PR n : Nat) (ra : Option Addr) (rc : Nat) (hn : A.length = n) (hi : i < n) (hn6 : n ≤ 6) (hk : k < n) (hfit : Fit32 A) (hne : PA ≠ M) (hne2 : PR ≠ M) (w : World) (hj : GrJ M PA PR n ra rc A w) :
    Calls Tryz.prog 60 #[.int .i64 (i : Int), .int .i64 (k : Int), .pointer (some ⟨PA, 0, none⟩)] w fun e w' => (∃ v, e = .returned v) ∧ GrJ M PA PR n ra rc (putGe A (i, k)) w' ∧ Only (fun b => b = M) w w' := by
  have hi' : i < A.length := by omega
  have hset := u32s_put A k hi'
  have hca := hj.row.cell (u32s_at A hi')
  have hst := hj.row.free i
  have hcb := hj.box.cell (i := 0) rfl
  have hlt2 := hfit _ (List.getElem_mem hi')
  have hlt3 : 2 ^ k < 4294967296 := Nat.pow_lt_pow_right (a := 2) (m := k) (n := 32) (by decide) (by omega)
  have hor := u32_or_nat _ _ hlt2 hlt3
  have hkb := bitG_all k (by omega)
  have HJ := Lib.hid hj
  have HN1 : Hid (PA ≠ M) := hne
  have HN2 : Hid (PR ≠ M) := hne2
  have hil : (i : Int) < (n : Int) := by omega
  obtain ⟨pw, hpw⟩ : ∃ pw, 2 ^ k = pw := ⟨_, rfl⟩
  rw [hpw] at hset hor hkb hlt3
  have HSET := Lib.hid hset
  generalize A[i] = ac at *
  clear hj hpw hset hne hne2 hfit
  go_enter Tryz.func60, Tryz.ntmps60
  go_region_with (go_at_call 61; refine (hkb.out _).mono ?_; rintro e w3 ⟨rfl, rfl⟩)
  all_goals
    go_end0
    exact ⟨⟨_, rfl⟩, ⟨by rw [← HSET.out]; exact HJ.out.row.set i _, HJ.out.box.other (a := ⟨M, i, none⟩) HN1.out _, HJ.out.who.other (a := ⟨M, i, none⟩) HN2.out _⟩, (Only.setCell (s := fun b => b = M) (Only.refl _ w) (p := ⟨M, i, none⟩) (fun _ => rfl) _).drew⟩
end Go.Proofs.YtmnblljenobofaaGreatDoor
/- The walk of package graph's Build's second closure: what is ahead in the row. -/
namespace Go.Proofs.YtmnblljenobofaaGreatDoor.WPlain
end Go.Proofs.YtmnblljenobofaaGreatDoor.WPlain
namespace Go.Proofs.YtmnblljenobofaaGreatDoor.QPlain
end Go.Proofs.YtmnblljenobofaaGreatDoor.QPlain
namespace Go.Proofs.YtmnblljenobofaaGreatDoor.RPlain
end Go.Proofs.YtmnblljenobofaaGreatDoor.RPlain
namespace Go.Proofs.YtmnblljenobofaaGreatDoor
open Go.RowKit WPlain QPlain RPlain

theorem indexP_any (ra : Option Addr) (rc : Nat) (rn : List Nat) (hnd : rn.Nodup) (p : Nat) (hp : p < rn.length) (hl : rn.length ≤ 65536) (w : World) (hr : Rd w (.slice ra rn.length rc) (ints (rn.map (fun x : Nat => (x : Int))))) :
    Calls Tryz.prog 63 #[.slice ra rn.length rc, .int .i64 ((rn[p] : Nat) : Int)] w fun e w' => e = .returned (.int .i64 (p : Int)) ∧ w' = w := by
  obtain ⟨b, o, c, he, hbl, hcs⟩ := hr.opened (by rw [ints_len, List.length_map]; omega)
  simp only [Value.slice.injEq] at he
  obtain ⟨rfl, -, rfl⟩ := he
  have hg : ∀ j (hj : j < rn.length), (rn.map (fun x : Nat => (x : Int))).getD j 0 = ((rn[j] : Nat) : Int) := fun j hj => by
    rw [List.getD_eq_getElem?_getD, List.getElem?_map, List.getElem?_eq_getElem hj]
    rfl
  have h := Tryz.slices_Index_int b o rn.length rc (rn.map (fun x : Nat => (x : Int))) ((rn[p] : Nat) : Int) w (by simp) (by omega) (fun j hj => by
    rw [List.length_map] at hj
    rw [hg j hj]
    exact hcs j _ (by unfold ints; rw [List.getElem?_map, List.getElem?_map, List.getElem?_eq_getElem hj]; rfl))
  rw [Lib.idxOf_hit (rn.map (fun x : Nat => (x : Int))) rn.length p ((rn[p] : Nat) : Int) hp (by simp) (hg p hp) (fun j hj hc => by
    rw [hg j (by omega)] at hc
    have := (List.getElem_inj hnd).1 (Int.ofNat.inj hc)
    omega)] at h
  exact h
set_option maxRecDepth 100000 in
set_option maxHeartbeats 1000000 in
theorem aheadC_any (ra : Option Addr) (rc : Nat) (rn : List Nat) (hnd : rn.Nodup) (hl : rn.length ≤ 65536) (PR a b : Nat) (ha : a ∈ rn) (hb : b ∈ rn) (w : World) (hr : Rd w (.slice ra rn.length rc) (ints (rn.map (fun x : Nat => (x : Int)))))
    (hc : w.cell? ⟨PR, 0, none⟩ = some (.slice ra rn.length rc)) :
    Calls Tryz.prog 62 #[.int .i64 (a : Int), .int .i64 (b : Int), .pointer (some ⟨PR, 0, none⟩)] w fun e w' => e = .returned (.bool (aheadB a b rn)) ∧ Below w.heap.size w w' := by
  obtain ⟨p, hp, rfl⟩ := List.getElem_of_mem ha
  obtain ⟨q, hq, rfl⟩ := List.getElem_of_mem hb
  have hah := ahead_iff hnd hp hq rfl rfl
  have HP : Hid (∀ m, Calls Tryz.prog 63 #[.slice ra rn.length rc, .int .i64 ((rn[p] : Nat) : Int)] (w.drewN m) fun e w' => e = .returned (.int .i64 (p : Int)) ∧ w' = w.drewN m) := fun m => indexP_any ra rc rn hnd p hp hl _ (hr.below (below_drN (Below.refl _ w) m) (Nat.le_refl _))
  have HQ : Hid (∀ m, Calls Tryz.prog 63 #[.slice ra rn.length rc, .int .i64 ((rn[q] : Nat) : Int)] (w.drewN m) fun e w' => e = .returned (.int .i64 (q : Int)) ∧ w' = w.drewN m) := fun m => indexP_any ra rc rn hnd q hq hl _ (hr.below (below_drN (Below.refl _ w) m) (Nat.le_refl _))
  have HR : Hid (decide (p < q) = aheadB rn[p] rn[q] rn) := by
    cases h : aheadB rn[p] rn[q] rn with
    | true => exact decide_eq_true (hah.1 h)
    | false => exact decide_eq_false (fun hc => by rw [hah.2 hc] at h; cases h)
  clear hah hr ha hb hnd
  generalize aheadB rn[p] rn[q] rn = r at *
  generalize rn[p] = a at *
  generalize rn[q] = b at *
  generalize rn.length = rl at *
  have hpw : p ≤ 65536 := by omega
  have hqw : q ≤ 65536 := by omega
  go_enter Tryz.func62, Tryz.ntmps62
  go_wp2_with fail
  go_quiet ((first | (go_at_call 63; with_reducible exact Calls.quiet_of_same (HP.out _)) | (go_at_call 63; with_reducible exact Calls.quiet_of_same (HQ.out _))))
  go_wp2
  go_ret
  exact ⟨ret_bool HR.out, below_drN (Below.refl _ w) _⟩
end Go.Proofs.YtmnblljenobofaaGreatDoor
