/- The walk of few. -/
import Derived.Test.YtpbkieeheepelaaDoorTabL
import Derived.Test.YtpbkieeheepelaaDoorTabJ
namespace Go.Proofs.YtpbkieeheepelaaDoor.WPlain
end Go.Proofs.YtpbkieeheepelaaDoor.WPlain
namespace Go.Proofs.YtpbkieeheepelaaDoor.QPlain
end Go.Proofs.YtpbkieeheepelaaDoor.QPlain
namespace Go.Proofs.YtpbkieeheepelaaDoor.RPlain
end Go.Proofs.YtpbkieeheepelaaDoor.RPlain
namespace Go.Proofs.YtpbkieeheepelaaDoor
open Go.RowKit WPlain QPlain RPlain

/-- a transaction with its first reads and writes -/
def cutTx (X : Tx) : Tx := ⟨X.n, X.f, X.l, X.s, X.o.take 65⟩
set_option maxRecDepth 100000 in
set_option maxHeartbeats 4000000 in
theorem few_walk (a : Option Addr) (n m c : Nat) (l : List Tx) (w : World) (hn : n ≤ c) (HAE : Hid ((min (n : Int) 10).toNat = m)) (hmn : m ≤ n) (hv : Txs w (.slice a m c) l) (h1 : l.length = m) (hm1 : m ≤ 10) :
    Calls Tryd.prog 12 #[.slice a n c] w fun e w' => ∃ v', e = .returned v' ∧ Txs w' v' (l.map cutTx) ∧ Below w.heap.size w w' := by
  obtain ⟨i0, hi0, hz0, hz1, hz2⟩ := info_parts infoTx
  have HAE2 : Hid (max (min (n : Int) 10) 0 = (m : Int)) := by have := HAE.out; unfold Hid; omega
  have HV := Lib.hid hv
  have HB0 := Lib.hid (Below.refl w.heap.size w)
  have HR0 : Hid (∃ ps : List (Tx × Value), ps.map (·.1) = (l.take 0).map cutTx ∧ w.ownsRow w.heap.size 39 5 (.slice none 0 0) 0 (ps.flatMap txC) ∧ ∀ p ∈ ps, Opv w p.2 p.1.o) := ⟨[], rfl, World.ownsRow_nil _ _ _ _, fun _ h => (List.not_mem_nil h).elim⟩
  clear hv
  go_enter Tryd.func12, Tryd.ntmps12
  go_upto_region 3 with fail
  rw [HAE.out, HAE2.out]
  go_loopw [3, 12] (fun y x wr => ∃ j : Nat, j ≤ m ∧ x = .int .i64 j ∧ Hid (∃ ps : List (Tx × Value), ps.map (·.1) = (l.take j).map cutTx ∧ wr.ownsRow w.heap.size 39 5 y j (ps.flatMap txC) ∧ ∀ p ∈ ps, Opv w p.2 p.1.o) ∧ Hid (Below w.heap.size w wr)) (fun _ x _ => m - (intOf x).toNat)
  case atStart => exact ⟨0, by omega, rfl, HR0, HB0⟩
  case round =>
    clear HR0 HB0
    obtain ⟨j, hj, rfl, HR, HB⟩ := hrel
    obtain ⟨ps, hpm, hrow, hown⟩ := HR.out
    obtain ⟨ya, yc, rfl⟩ := row_slice hrow
    have HROW := Lib.hid hrow
    have HOWN := Lib.hid hown
    have HPM := Lib.hid hpm
    clear hrow hown hpm HR
    by_cases hlj : j < m
    · have hlt : j < l.length := by omega
      have hv2 := HV.out.below HB.out (Nat.le_refl _)
      obtain ⟨b, o, c', he⟩ := hv2.opened (by omega)
      obtain ⟨rfl, rfl⟩ : a = some ⟨b, o, none⟩ ∧ c = c' := by
        simp only [Value.slice.injEq] at he
        exact ⟨he.1, he.2.2⟩
      clear he
      obtain ⟨u, x0, x1, x2, x3, x4, -⟩ := hv2.get j hlt
      obtain ⟨u', -, -, -, -, x4', q⟩ := HV.out.get j hlt
      obtain rfl : u = u' := by
        have h2 := (HB.out.cell (p := ⟨b, o + j * 5 + 4, none⟩) (cell_lt x4')).trans x4'
        rw [x4] at h2
        exact Option.some.inj h2
      have hbl := cell_lt x0
      obtain ⟨ua, uc, rfl, huc⟩ := q.len
      have HTK : Hid ((l.take (j + 1)).map cutTx = (l.take j).map cutTx ++ [cutTx l[j]]) := by unfold Hid; rw [List.take_succ_eq_append_getElem hlt, List.map_append]; rfl
      obtain ⟨X, hX⟩ : ∃ X, l[j] = X := ⟨_, rfl⟩
      rw [hX] at x0 x1 x2 x3 x4 q huc HTK
      clear hX x4' hv2
      obtain ⟨qm, hqm⟩ : ∃ qm, (min (X.o.length : Int) 65).toNat = qm := ⟨_, rfl⟩
      have hq1 : qm ≤ X.o.length := by omega
      have hq2 := q.cut qm hq1
      have HOQ : Hid (X.o.take 65 = X.o.take qm) := by
        unfold Hid
        by_cases h65 : X.o.length ≤ 65
        · rw [List.take_of_length_le (by omega), List.take_of_length_le (by omega)]
        · rw [show qm = 65 from by omega]
      have HQM := Lib.hid hqm
      have HQ := Lib.hid hq2
      obtain ⟨qn, hqn⟩ : ∃ qn, X.o.length = qn := ⟨_, rfl⟩
      rw [hqn] at x4 huc HQM hq1
      clear q hq2 hqm hqn
      have HE := Lib.hid (At.new wr #[.int .i64 X.n, .int .i64 X.f, .int .i64 X.l, .int .i64 X.s, .slice ua qn uc] 39)
      have HBA := Lib.hid (HB.out.alloc HB.out.size (.cells #[.int .i64 X.n, .int .i64 X.f, .int .i64 X.l, .int .i64 X.s, .slice ua qn uc] 39))
      have HRA := Lib.hid (HROW.out.alloc (.cells #[.int .i64 X.n, .int .i64 X.f, .int .i64 X.l, .int .i64 X.s, .slice ua qn uc] 39))
      have HRN : Hid (∀ k, (Value.slice ya j yc).ownBlock = some k → k ≠ wr.heap.size) := fun k hk => by have := (HROW.out.lt k hk).2; omega
      have HNB : Hid (w.heap.size ≤ wr.heap.size) := HB.out.size
      clear HROW HB
      go_upto_region 5 with fail
      generalize wr.alloc (.cells #[.int .i64 X.n, .int .i64 X.f, .int .i64 X.l, .int .i64 X.s, .slice ua qn uc] 39) = w2 at *
      generalize wr.heap.size = N at *
      clear x0 x1 x2 x3 x4
      have z4 := HE.out.cell (i := 4) (v := .slice ua qn uc) rfl
      have f4 := HE.out.free 4
      have HE2 : Hid (At (w2.setCell ⟨N, 4, none⟩ (.slice ua qm uc)) N #[.int .i64 X.n, .int .i64 X.f, .int .i64 X.l, .int .i64 X.s, .slice ua qm uc] 39) := HE.out.set 4 (.slice ua qm uc)
      have HB2 := Lib.hid (HBA.out.setCell (p := ⟨N, 4, none⟩) HNB.out (.slice ua qm uc))
      have HR2 := Lib.hid (ownsRow_setCell_other HRA.out (a := ⟨N, 4, none⟩) (fun hk => HRN.out N hk rfl) (.slice ua qm uc))
      go_upto_region 6 with fail
      rw [HQM.out]
      generalize w2.setCell ⟨N, 4, none⟩ (.slice ua qm uc) = w3 at *
      clear HE HBA HRA HRN HNB z4 f4
      have x0 := HE2.out.cell (i := 0) (v := .int .i64 X.n) rfl
      have x1 := HE2.out.cell (i := 1) (v := .int .i64 X.f) rfl
      have x2 := HE2.out.cell (i := 2) (v := .int .i64 X.l) rfl
      have x3 := HE2.out.cell (i := 3) (v := .int .i64 X.s) rfl
      have x4 := HE2.out.cell (i := 4) (v := .slice ua qm uc) rfl
      have HSZ : Hid (∀ o, w.heap.size ≤ (w3.alloc o).heap.size) := fun o => by have := HB2.out.size; simp; omega
      obtain ⟨PS, hPS⟩ : ∃ PS, ps.flatMap txC = PS := ⟨_, rfl⟩
      rw [hPS] at HR2
      have HPS := Lib.hid hPS
      clear hPS
      go_wp2_with (at_builtin; refine wpList_append_own _ rfl _ _ 23 rfl w.heap.size 39 i0 _ 5 56 Tryd.underlying23 hi0 hz0 hz1 hz2 rfl (by decide) (.slice ya j yc) j PS rfl (HR2.out.alloc _) ⟨w3.heap.size, 0, none⟩ 1 1 [.int .i64 X.n, .int .i64 X.f, .int .i64 X.l, .int .i64 X.s, .slice ua qm uc] rfl rfl (cells_at (At.new w3 #[.int .i64 X.n, .int .i64 X.f, .int .i64 X.l, .int .i64 X.s, .slice ua qm uc] _)) (by intro u hu; simp at hu; rcases hu with rfl | rfl | rfl | rfl | rfl <;> rfl) (by unfold maxLen; omega) (by omega) (HSZ.out _) ?_)
      intro v7 w7 hr7 hg7 _
      obtain ⟨ya7, yc7, rfl⟩ := row_slice hr7
      have HB7 : Hid (Below w.heap.size w w7) := (HB2.out.alloc HB2.out.size (.cells #[.int .i64 X.n, .int .i64 X.f, .int .i64 X.l, .int .i64 X.s, .slice ua qm uc] 39)).grown hg7 (HSZ.out _) (fun k' hk' => (HR2.out.lt k' hk').1)
      have HP7 : Hid (∃ ps : List (Tx × Value), ps.map (·.1) = (l.take (j + 1)).map cutTx ∧ w7.ownsRow w.heap.size 39 5 (.slice ya7 (j + 1) yc7) (j + 1) (ps.flatMap txC) ∧ ∀ p ∈ ps, Opv w p.2 p.1.o) := by
        refine ⟨ps ++ [(cutTx X, .slice ua qm uc)], by rw [List.map_append, HPM.out, HTK.out]; rfl, ?_, fun p hp => ?_⟩
        · rw [List.flatMap_append, HPS.out, List.flatMap_singleton]
          exact hr7
        · rcases List.mem_append.1 hp with hp | hp
          · exact HOWN.out p hp
          · rw [List.mem_singleton.1 hp]
            show Opv w (.slice ua qm uc) (X.o.take 65)
            rw [HOQ.out]
            exact HQ.out
      clear hr7 hg7
      go_wp2
      go_roundw
      case rel => exact ⟨j + 1, by omega, by go_num, HP7, HB7⟩
      case measure => simp [intOf]; omega
    · obtain rfl : j = m := by omega
      have HRES : Hid (Txs wr (.slice ya j yc) (l.map cutTx)) := by
        have hpl : ps.length = j := by
          have h2 := congrArg List.length HPM.out
          rw [List.length_map, List.length_map, List.length_take] at h2
          omega
        refine ⟨ps, by rw [HPM.out, List.take_of_length_le (by omega)], Rws.of_row txC_len (by rw [hpl]; exact HROW.out), fun p hp => (HOWN.out p hp).below HB.out (Nat.le_refl _)⟩
      go_wp2
      refine bodyPost_ret (v := .slice ya j yc) (by simp [results, Tryd.results12, go_sem]) rfl ⟨_, rfl, HRES.out, HB.out⟩
theorem few_any (a : Option Addr) (n c : Nat) (l : List Tx) (w : World) (hn : n ≤ c) (hv : Txs w (.slice a (min (n : Int) 10).toNat c) l) :
    (Calls Tryd.prog 12 #[.slice a n c] w fun e w' => ∃ v', e = .returned v' ∧ Txs w' v' (l.map cutTx) ∧ Below w.heap.size w w') ∧ l.length ≤ 10 := by
  obtain ⟨m, hm⟩ : ∃ m, (min (n : Int) 10).toNat = m := ⟨_, rfl⟩
  rw [hm] at hv
  have hl : l.length = m := by
    obtain ⟨a', c', he⟩ := hv.len
    simp at he
    exact he.2.1.symm
  exact ⟨few_walk a n m c l w hn hm (by omega) hv hl (by omega), by omega⟩
end Go.Proofs.YtpbkieeheepelaaDoor
