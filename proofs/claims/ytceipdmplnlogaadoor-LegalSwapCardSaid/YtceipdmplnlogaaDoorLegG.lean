/- The walk of package legal's Own. -/
import Derived.Test.YtceipdmplnlogaaDoorLegE
import Derived.Test.YtceipdmplnlogaaDoorLegF
import Derived.Deep.RegionHeldLaw
namespace Go.Proofs.YtceipdmplnlogaaDoor.WPlain
end Go.Proofs.YtceipdmplnlogaaDoor.WPlain
namespace Go.Proofs.YtceipdmplnlogaaDoor.QPlain
end Go.Proofs.YtceipdmplnlogaaDoor.QPlain
namespace Go.Proofs.YtceipdmplnlogaaDoor.RPlain
end Go.Proofs.YtceipdmplnlogaaDoor.RPlain
namespace Go.Proofs.YtceipdmplnlogaaDoor.RPlain
open WPlain QPlain

/-- a memory of values -/
def arrM (vs : List Int) : Int → Int := fun u => if 0 ≤ u then vs.getD u.toNat 0 else 0
def ownE (ops : List Rwo) (vs : List Int) : Nat := if vs.length = 8 then (if ops.any (fun o => decide (o.v < 0) || decide (7 < o.v)) = true then 7 else 0) else 1
def ownR (ops : List Rwo) (vs : List Int) : Nat := if ownE ops vs = 0 then ownS (arrM vs) ops else 0
theorem eight {vs : List Int} (h : vs.length = 8) : ∃ a0 a1 a2 a3 a4 a5 a6 a7, vs = [a0, a1, a2, a3, a4, a5, a6, a7] := by
  match vs, h with
  | [a0, a1, a2, a3, a4, a5, a6, a7], _ => exact ⟨a0, a1, a2, a3, a4, a5, a6, a7, rfl⟩
theorem ok_iff (ops : List Rwo) : ops.any (fun o => decide (o.v < 0) || decide (7 < o.v)) = false ↔ okOps ops := by
  rw [List.any_eq_false]
  unfold okOps
  constructor
  · intro h o ho
    have := h o ho
    simp at this
    exact this
  · intro h o ho
    have := h o ho
    simp
    exact this
end Go.Proofs.YtceipdmplnlogaaDoor.RPlain
namespace Go.Proofs.YtceipdmplnlogaaDoor
open Go.RowKit WPlain QPlain RPlain

theorem arr_cells (a0 a1 a2 a3 a4 a5 a6 a7 : Int) : memC (arrM [a0, a1, a2, a3, a4, a5, a6, a7]) = #[.int .i64 a0, .int .i64 a1, .int .i64 a2, .int .i64 a3, .int .i64 a4, .int .i64 a5, .int .i64 a6, .int .i64 a7] := rfl
theorem noVar_fun (ops : List Rwo) : ops.any noVar = ops.any (fun o => decide (o.v < 0) || decide (7 < o.v)) := rfl
set_option maxRecDepth 100000 in
set_option maxHeartbeats 2000000 in
theorem own_any (X : Tx) (ua : Option Addr) (uc : Nat) (v : Value) (vs : List Int) (w : World) (hq : Opv w (.slice ua X.o.length uc) X.o) (hl : X.o.length ≤ 65536) (hr : Rd w v (ints vs)) :
    Calls Tryd.prog 17 #[.agg #[.int .i64 X.n, .int .i64 X.f, .int .i64 X.l, .int .i64 X.s, .slice ua X.o.length uc], v] w fun e w' => e = .returned (.tuple #[.int .i64 ((ownR X.o vs : Nat) : Int), .int .i64 ((ownE X.o vs : Nat) : Int)]) ∧ Below w.heap.size w w' := by
  obtain ⟨va, vc, rfl⟩ := hr.len
  have hil : (ints vs).length = vs.length := by simp [ints]
  rw [hil] at hr ⊢
  clear hil
  have HA := At.new w #[.int .i64 X.n, .int .i64 X.f, .int .i64 X.l, .int .i64 X.s, .slice ua X.o.length uc] 44
  have hb1 := (Below.refl w.heap.size w).alloc (Nat.le_refl _) (.cells #[.int .i64 X.n, .int .i64 X.f, .int .i64 X.l, .int .i64 X.s, .slice ua X.o.length uc] 44)
  by_cases h8 : vs.length = 8
  · obtain ⟨a0, a1, a2, a3, a4, a5, a6, a7, rfl⟩ := eight h8
    have HCN := Lib.hid (containsNV_any _ X.o _ (hq.below hb1 (Nat.le_refl _)) hl)
    rw [noVar_fun] at HCN
    have hE : ownE X.o [a0, a1, a2, a3, a4, a5, a6, a7] = if X.o.any (fun o => decide (o.v < 0) || decide (7 < o.v)) = true then 7 else 0 := by unfold ownE; rw [if_pos h8]
    unfold ownR
    rw [hE]
    have e8 : [a0, a1, a2, a3, a4, a5, a6, a7].length = 8 := rfl
    rw [e8] at hr ⊢
    clear hE h8 e8
    cases hb : X.o.any (fun o => decide (o.v < 0) || decide (7 < o.v)) with
    | true =>
      rw [hb] at HCN
      simp only [if_true, show ¬ (7 : Nat) = 0 from by decide, if_false]
      have HB1 := Lib.hid hb1
      clear hr hb hb1 hq
      go_enter Tryd.func17, Tryd.ntmps17
      go_wp2_with (go_at_call 23; refine HCN.out.mono ?_; rintro e w2 ⟨rfl, hb2⟩)
      go_ret2
      exact ⟨rfl, HB1.out.trans (hb2.mono HB1.out.size)⟩
    | false =>
      rw [hb] at HCN
      simp only [Bool.false_eq_true, if_false, if_true]
      have hok := (ok_iff X.o).1 hb
      have HFW := Lib.hid (fun (W : World) (hW : Opv W (.slice ua X.o.length uc) X.o) => firstWrong_any _ X.o (arrM [a0, a1, a2, a3, a4, a5, a6, a7]) W hW hok hl)
      rw [arr_cells] at HFW
      have HB1 := Lib.hid hb1
      have HQ := Lib.hid hq
      have HR := Lib.hid hr
      have HAA := Lib.hid HA
      have hat : ∀ (b off c : Nat) (W : World), (Instr.arrayAt 63 (.slice (some ⟨b, off, none⟩) 8 c)).run Tryd.prog W = .ok (.pointer (some ⟨b, off, none⟩)) W := fun b off c W => run_arrayAt W 63 _ 8 _ 8 c Tryd.underlying63 (by decide)
      generalize ownS (arrM [a0, a1, a2, a3, a4, a5, a6, a7]) X.o = res at *
      clear hr hb hb1 hq hok HA
      go_enter Tryd.func17, Tryd.ntmps17
      go_wp2_with (go_at_call 23; refine HCN.out.mono ?_; rintro e w2 ⟨rfl, hb2⟩)
      have HB2 := Lib.hid (HB1.out.trans (hb2.mono HB1.out.size))
      have HA2 := Lib.hid (HAA.out.below hb2 HAA.out.lt)
      obtain ⟨b, o, c', he, hbl, hcs⟩ := HR.out.opened (by simp [ints])
      simp only [Value.slice.injEq] at he
      obtain ⟨rfl, -, rfl⟩ := he
      have HC2 : Hid (∀ W, Below w2.heap.size w2 W → W.cell? ⟨w.heap.size, 4, none⟩ = some (.slice ua X.o.length uc) ∧ W.cell? ⟨b, o, none⟩ = some (.int .i64 a0) ∧ W.cell? ⟨b, o + 1, none⟩ = some (.int .i64 a1) ∧ W.cell? ⟨b, o + 2, none⟩ = some (.int .i64 a2) ∧ W.cell? ⟨b, o + 3, none⟩ = some (.int .i64 a3) ∧ W.cell? ⟨b, o + 4, none⟩ = some (.int .i64 a4) ∧ W.cell? ⟨b, o + 5, none⟩ = some (.int .i64 a5) ∧ W.cell? ⟨b, o + 6, none⟩ = some (.int .i64 a6) ∧ W.cell? ⟨b, o + 7, none⟩ = some (.int .i64 a7)) := fun W hW => by
        have hc : ∀ i u, (ints [a0, a1, a2, a3, a4, a5, a6, a7])[i]? = some u → W.cell? ⟨b, o + i, none⟩ = some u := fun i u hu => ((HB2.out.trans (hW.mono HB2.out.size)).cell (p := ⟨b, o + i, none⟩) hbl).trans (hcs i u hu)
        exact ⟨(HA2.out.below hW HA2.out.lt).cell (i := 4) rfl, hc 0 _ rfl, hc 1 _ rfl, hc 2 _ rfl, hc 3 _ rfl, hc 4 _ rfl, hc 5 _ rfl, hc 6 _ rfl, hc 7 _ rfl⟩
      have HQ2 : Hid (∀ W, Below w2.heap.size w2 W → Opv W (.slice ua X.o.length uc) X.o) := fun W hW => HQ.out.below (HB2.out.trans (hW.mono HB2.out.size)) (Nat.le_refl _)
      clear hb2 hcs HCN HB1 HAA HA2 HQ HR
      first
      | go_must (go_region_held_law (fun w' => w'.cell? ⟨w.heap.size, 4, none⟩ = some (.slice ua X.o.length uc) ∧ w'.cell? ⟨b, o, none⟩ = some (.int .i64 a0) ∧ w'.cell? ⟨b, o + 1, none⟩ = some (.int .i64 a1) ∧ w'.cell? ⟨b, o + 2, none⟩ = some (.int .i64 a2) ∧ w'.cell? ⟨b, o + 3, none⟩ = some (.int .i64 a3) ∧ w'.cell? ⟨b, o + 4, none⟩ = some (.int .i64 a4) ∧ w'.cell? ⟨b, o + 5, none⟩ = some (.int .i64 a5) ∧ w'.cell? ⟨b, o + 6, none⟩ = some (.int .i64 a6) ∧ w'.cell? ⟨b, o + 7, none⟩ = some (.int .i64 a7))
          (first | exact HC2.out _ hb5 | exact HC2.out _ (below_drP _))
          (first | (go_at_call 26; refine (HFW.out _ (HQ2.out _ (below_drP _))).mono ?_; rintro e w5 ⟨rfl, hb⟩; have hb5 := below_stpP hb)))
      | fail
      all_goals
        go_wp2
        go_ret2
        exact ⟨rfl, HB2.out.trans (hb5.mono HB2.out.size)⟩
  · have hE : ownE X.o vs = 1 := by unfold ownE; rw [if_neg h8]
    unfold ownR
    rw [hE, if_neg (by decide)]
    have t8 : ((vs.length : Int) != 8) = true := by simp; omega
    clear hE h8 hr hq
    go_enter Tryd.func17, Tryd.ntmps17
    go_wp2
    go_ret2
    exact ⟨rfl, hb1⟩
end Go.Proofs.YtceipdmplnlogaaDoor
