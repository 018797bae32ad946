/- The walk of package quick's find: loops left by a label. -/
import Derived.Test.YtmnblljenobofaaGreatDoorMg30
namespace Go.Proofs.YtmnblljenobofaaGreatDoor.WPlain
end Go.Proofs.YtmnblljenobofaaGreatDoor.WPlain
namespace Go.Proofs.YtmnblljenobofaaGreatDoor.QPlain
end Go.Proofs.YtmnblljenobofaaGreatDoor.QPlain
namespace Go.Proofs.YtmnblljenobofaaGreatDoor.RPlain
end Go.Proofs.YtmnblljenobofaaGreatDoor.RPlain
namespace Go.Proofs.YtmnblljenobofaaGreatDoor
open Go.RowKit WPlain QPlain RPlain

set_option maxRecDepth 100000 in
set_option maxHeartbeats 8000000 in
theorem findQ_any (v cv wv : Value) (h : List Ev) (cs : List Nat) (B : Nat) (w : World) (hK : HasK w) (hv : Evs w v h) (hl : h.length ≤ 65536) (hu : errU h = 0)
    (hc : Rd w cv (u32s cs)) (hcs : ∀ c ∈ cs, c < 2 ^ (tableS h).length ∧ readS (tableS h) c = true) (hcl : cs.length ≤ 65536) (hr : RowsN w wv (allS (afterS (tableS h)))) (hB : B ≤ 1000000) :
    Calls Tryz.prog 19 #[v, cv, wv, .int .i64 (B : Int)] w fun e w' => ∃ rv, e = .returned (.tuple #[fndV (quickG B (tableS h) cs 0).1 (quickG B (tableS h) cs 0).2.1 rv (quickG B (tableS h) cs 0).2.2.2, .int .i64 0]) ∧
      RdX (fun k => k < w.heap.size) w' rv (nats (quickG B (tableS h) cs 0).2.2.1) ∧ Below w.heap.size w w' := by
  have h6 := table_six (errU_zero hu).1
  have h64 := pow_le_64 h6
  obtain ⟨N, hN⟩ : ∃ N, w.heap.size = N := ⟨_, rfl⟩
  have hrn := rows_few (L := afterS (tableS h)) (by rw [afterS_len]; exact h6)
  have HFQ : Hid (∀ (ci : Nat) (row : List Nat) (ra : Option Addr) (rc : Nat) (W : World), ci < 2 ^ (tableS h).length → readS (tableS h) ci = true → row ∈ allS (afterS (tableS h)) → Below N w W → Rd W (.slice ra row.length rc) (nats row) →
      Calls Tryz.prog 45 #[v, .int .u32 (ci : Int), .slice ra row.length rc] W fun e w' => ∃ v', e = .returned (.tuple #[v', .int .i64 (((if hitQ (tableS h) ci row = true then 0 else 8 : Nat) : Nat) : Int)]) ∧
      RdX (fun k => k < W.heap.size) w' v' (nats (if hitQ (tableS h) ci row = true then (allS (buildS (tableS h) ci row)).headD [] else [])) ∧ Below W.heap.size W w') := fun ci row ra rc W h1 h2 h3 h4 h5 =>
    firstQ_any v _ h ci row W (by omega) (hK.later h4 (by omega)) (hv.below h4 (by omega)) hl h5 (by have := all_len h3; rw [afterS_len] at this; omega) (quick_errB hu h1 h2 h3) h6
  have HCS := Lib.hid hcs
  have HNX : Hid (∀ i (hi : i < cs.length) s, quickG B (tableS h) (cs.drop i) s = nxtQ B (tableS h) (cs.drop (i + 1)) (rowsQ B (tableS h) cs[i] ((allS (afterS (tableS h))).drop 0) s)) := fun i hi s => by
    rw [List.drop_eq_getElem_cons hi, List.drop_zero]
    exact quick_step (hcs _ (List.getElem_mem hi)).2
  have HEND : Hid (∀ s, quickG B (tableS h) (cs.drop cs.length) s = (1, 0, [], s)) := fun s => by rw [List.drop_length]; rfl
  obtain ⟨x0, hx0⟩ : ∃ x0, quickG B (tableS h) cs 0 = x0 := ⟨_, rfl⟩
  rw [hx0]
  have HZ0 : Hid (quickG B (tableS h) (cs.drop 0) 0 = x0) := by rw [List.drop_zero]; exact hx0
  obtain ⟨ea, ec, rfl⟩ := hv.len
  obtain ⟨ca, cc, rfl⟩ := hc.len
  obtain ⟨wa, wc, rfl⟩ := hr.len
  rw [u32s_len] at hc ⊢
  have HC := Lib.hid hc
  have HR := Lib.hid hr
  clear hK hv hu hc hcs hr hx0 h64
  generalize tableS h = l at *
  generalize allS (afterS l) = rows at *
  have HNN := Lib.hid hN
  clear h6 hN
  have HB0 : Hid (Below w.heap.size w ((w.alloc (.cells #[.int .i64 0, .int .u32 0, .slice none 0 0, .int .i64 0] 26)).alloc (.cells #[.int .i64 0, .int .u32 0, .slice none 0 0, .int .i64 0] 26))) := ((Below.refl _ w).alloc (Nat.le_refl _) _).alloc (by simp) _
  have HA0 : Hid (At ((w.alloc (.cells #[.int .i64 0, .int .u32 0, .slice none 0 0, .int .i64 0] 26)).alloc (.cells #[.int .i64 0, .int .u32 0, .slice none 0 0, .int .i64 0] 26)) w.heap.size (fnd 0 0 (.slice none 0 0) 0) 26) := (At.new w _ _).alloc _
  have HO0 : Hid (At ((w.alloc (.cells #[.int .i64 0, .int .u32 0, .slice none 0 0, .int .i64 0] 26)).alloc (.cells #[.int .i64 0, .int .u32 0, .slice none 0 0, .int .i64 0] 26)) (w.heap.size + 1) (fnd 0 0 (.slice none 0 0) 0) 26) := by
    have := At.new (w.alloc (.cells #[.int .i64 0, .int .u32 0, .slice none 0 0, .int .i64 0] 26)) (fnd 0 0 (.slice none 0 0) 0) 26
    rwa [World.size_alloc] at this
  have q0 : ((w.alloc (.cells #[.int .i64 0, .int .u32 0, .slice none 0 0, .int .i64 0] 26)).alloc (.cells #[.int .i64 0, .int .u32 0, .slice none 0 0, .int .i64 0] 26)).cell? ⟨w.heap.size + 1, 0, none⟩ = some (.int .i64 0) := HO0.out.cell rfl
  have q1 : ((w.alloc (.cells #[.int .i64 0, .int .u32 0, .slice none 0 0, .int .i64 0] 26)).alloc (.cells #[.int .i64 0, .int .u32 0, .slice none 0 0, .int .i64 0] 26)).cell? ⟨w.heap.size + 1, 1, none⟩ = some (.int .u32 0) := HO0.out.cell rfl
  have q2 : ((w.alloc (.cells #[.int .i64 0, .int .u32 0, .slice none 0 0, .int .i64 0] 26)).alloc (.cells #[.int .i64 0, .int .u32 0, .slice none 0 0, .int .i64 0] 26)).cell? ⟨w.heap.size + 1, 2, none⟩ = some (.slice none 0 0) := HO0.out.cell rfl
  have q3 : ((w.alloc (.cells #[.int .i64 0, .int .u32 0, .slice none 0 0, .int .i64 0] 26)).alloc (.cells #[.int .i64 0, .int .u32 0, .slice none 0 0, .int .i64 0] 26)).cell? ⟨w.heap.size + 1, 3, none⟩ = some (.int .i64 0) := HO0.out.cell rfl
  have f0 : ((w.alloc (.cells #[.int .i64 0, .int .u32 0, .slice none 0 0, .int .i64 0] 26)).alloc (.cells #[.int .i64 0, .int .u32 0, .slice none 0 0, .int .i64 0] 26)).frozen? ⟨w.heap.size + 1, 0, none⟩ = false := HO0.out.free 0
  have f1 : ((w.alloc (.cells #[.int .i64 0, .int .u32 0, .slice none 0 0, .int .i64 0] 26)).alloc (.cells #[.int .i64 0, .int .u32 0, .slice none 0 0, .int .i64 0] 26)).frozen? ⟨w.heap.size + 1, 1, none⟩ = false := HO0.out.free 1
  have f2 : ((w.alloc (.cells #[.int .i64 0, .int .u32 0, .slice none 0 0, .int .i64 0] 26)).alloc (.cells #[.int .i64 0, .int .u32 0, .slice none 0 0, .int .i64 0] 26)).frozen? ⟨w.heap.size + 1, 2, none⟩ = false := HO0.out.free 2
  have f3 : ((w.alloc (.cells #[.int .i64 0, .int .u32 0, .slice none 0 0, .int .i64 0] 26)).alloc (.cells #[.int .i64 0, .int .u32 0, .slice none 0 0, .int .i64 0] 26)).frozen? ⟨w.heap.size + 1, 3, none⟩ = false := HO0.out.free 3
  go_enter Tryz.func19, Tryz.ntmps19
  go_wp2_with fail
  go_step3
  go_wp2_with fail
  clear q0 q1 q2 q3 f0 f1 f2 f3 HB0 HA0 HO0
  obtain ⟨w1, hw1⟩ : ∃ w1, (w.alloc (.cells #[.int .i64 0, .int .u32 0, .slice none 0 0, .int .i64 0] 26)).alloc (.cells #[.int .i64 1, .int .u32 0, .slice none 0 0, .int .i64 0] 26) = w1 := ⟨_, rfl⟩
  have HB1 : Hid (Below w.heap.size w w1) := by
    rw [← hw1]
    exact ((Below.refl _ w).alloc (Nat.le_refl _) _).alloc (by simp) _
  have HA1 : Hid (At w1 w.heap.size (fnd 0 0 (.slice none 0 0) 0) 26) := by
    rw [← hw1]
    exact (At.new w _ _).alloc _
  have HO1 : Hid (At w1 (w.heap.size + 1) (fnd 1 0 (.slice none 0 0) 0) 26) := by
    rw [← hw1]
    have := At.new (w.alloc (.cells #[.int .i64 0, .int .u32 0, .slice none 0 0, .int .i64 0] 26)) (fnd 1 0 (.slice none 0 0) 0) 26
    rwa [World.size_alloc] at this
  rw [hw1]
  clear hw1
  have hN : w.heap.size = N := HNN.out
  rw [hN] at HB1 HA1 HO1 ⊢
  have HC := Lib.hid (fun (W : World) (hW : Below N w W) => HC.out.below hW (by omega))
  have HR := Lib.hid (fun (W : World) (hW : Below N w W) => HR.out.below (by rw [hN]; exact hW))
  clear hN
  go_step3
  go_wp2_with fail
  go_loopw [20] (fun x wr => ∃ i s : Nat, i ≤ cs.length ∧ x = .int .i64 i ∧ s ≤ B ∧ Hid (quickG B l (cs.drop i) s = x0) ∧ Hid (At wr (N + 1) (fnd 1 0 (.slice none 0 0) s) 26) ∧ Hid (At wr N (fnd 0 0 (.slice none 0 0) 0) 26) ∧ Hid (Below N w wr)) (fun x _ => cs.length - (intOf x).toNat)
  case atStart => exact ⟨0, 0, by omega, rfl, by omega, HZ0, HO1, HA1, HB1⟩
  case round =>
    clear HZ0 HO1 HA1 HB1
    obtain ⟨i, s, hi, rfl, hs, HT, HO, HA, HB⟩ := hrel
    by_cases hlt : i < cs.length
    · obtain ⟨b, o, pc, he, hbl, hcells⟩ := (HC.out wr HB.out).opened (by rw [u32s_len]; omega)
      rw [u32s_len] at he
      simp only [Value.slice.injEq] at he
      obtain ⟨rfl, -, rfl⟩ := he
      have hcj := hcells i _ (u32s_get hlt)
      obtain ⟨hcp, hcr⟩ := HCS.out _ (List.getElem_mem hlt)
      have hnx := HNX.out i hlt s
      rw [HT.out] at hnx
      have HT2 := Lib.hid hnx.symm
      clear hcells hbl hnx HT
      generalize cs[i] = ci at *
      have HFQ2 := Lib.hid (fun (row : List Nat) (ra : Option Addr) (rc : Nat) (W : World) => HFQ.out ci row ra rc W hcp hcr)
      clear hcp hcr
      go_wp2_with fail
      go_loopw [26] (fun x wr => ∃ j s : Nat, j ≤ rows.length ∧ x = .int .i64 j ∧ s ≤ B ∧ Hid (nxtQ B l (cs.drop (i + 1)) (rowsQ B l ci (rows.drop j) s) = x0) ∧ Hid (At wr (N + 1) (fnd 1 0 (.slice none 0 0) s) 26) ∧ Hid (At wr N (fnd 0 0 (.slice none 0 0) 0) 26) ∧ Hid (Below N w wr)) (fun x _ => rows.length - (intOf x).toNat)
      case atStart => exact ⟨0, s, by omega, rfl, hs, HT2, HO, HA, HB⟩
      case round =>
        clear HT2 HO HA HB hs hcj
        obtain ⟨j, s, hj, rfl, hs, HT, HO, HA, HB⟩ := hrel
        have e0 : wr.cell? ⟨N + 1, 0, none⟩ = some (.int .i64 1) := HO.out.cell rfl
        have e1 : wr.cell? ⟨N + 1, 1, none⟩ = some (.int .u32 0) := HO.out.cell rfl
        have e2 : wr.cell? ⟨N + 1, 2, none⟩ = some (.slice none 0 0) := HO.out.cell rfl
        have e3 : wr.cell? ⟨N + 1, 3, none⟩ = some (.int .i64 (s : Int)) := HO.out.cell rfl
        have g0 : wr.frozen? ⟨N + 1, 0, none⟩ = false := HO.out.free 0
        have g3 : wr.frozen? ⟨N + 1, 3, none⟩ = false := HO.out.free 3
        by_cases hlt2 : j < rows.length
        · obtain ⟨b2, o2, ra, rc, rfl, hbl2, hcj0, hrr⟩ := (HR.out w (Below.refl _ _)).get j hlt2
          have hcj2 := (HB.out.cell (p := ⟨b2, o2 + j, none⟩) (by show b2 < N; rw [← HNN.out]; exact hbl2)).trans hcj0
          have hrow := List.getElem_mem hlt2
          have HF := Lib.hid (fun (W : World) (h1 : Below N w W) (h2 : Rd W (.slice ra rows[j].length rc) (nats rows[j])) => HFQ2.out rows[j] ra rc W hrow h1 h2)
          have HRR := Lib.hid (fun (W : World) (hW : Below N w W) => hrr.below hW (Nat.le_of_eq HNN.out))
          have hdr := List.drop_eq_getElem_cons hlt2
          have HTX := HT.out
          rw [hdr] at HTX
          clear hdr hrow hrr hbl2 hcj0 HT
          generalize rows[j] = row at *
          by_cases hsB : s = B
          · subst hsB
            rw [rowsQ_full] at HTX
            subst HTX
            clear HF HRR HFQ2 HFQ
            go_upto_region 19 with fail
            have HF6 : Hid (At (wr.setCell ⟨N + 1, 0, none⟩ (.int .i64 2)) (N + 1) (fnd 2 0 (.slice none 0 0) s) 26) := HO.out.set 0 _
            have HO6 := Lib.hid ((Only.refl (fun k => k = N + 1) wr).setCell (p := ⟨N + 1, 0, none⟩) (fun _ => rfl) (.int .i64 2))
            generalize wr.setCell ⟨N + 1, 0, none⟩ (.int .i64 2) = w6 at *
            have HA6 : Hid (At w6 N (fnd 0 0 (.slice none 0 0) 0) 26) := HA.out.only HO6.out (by omega)
            have HB6 : Hid (Below N w w6) := HB.out.trans (HO6.out.below (Nat.le_of_lt HA.out.lt) (fun k _ hk => by omega))
            clear e0 e1 e2 e3 g0 g3 HO HA HB
            have q0 : w6.cell? ⟨N, 0, none⟩ = some (.int .i64 0) := HA6.out.cell rfl
            have q1 : w6.cell? ⟨N, 1, none⟩ = some (.int .u32 0) := HA6.out.cell rfl
            have q2 : w6.cell? ⟨N, 2, none⟩ = some (.slice none 0 0) := HA6.out.cell rfl
            have q3 : w6.cell? ⟨N, 3, none⟩ = some (.int .i64 0) := HA6.out.cell rfl
            have f0 : w6.frozen? ⟨N, 0, none⟩ = false := HA6.out.free 0
            have f1 : w6.frozen? ⟨N, 1, none⟩ = false := HA6.out.free 1
            have f2 : w6.frozen? ⟨N, 2, none⟩ = false := HA6.out.free 2
            have f3 : w6.frozen? ⟨N, 3, none⟩ = false := HA6.out.free 3
            have u0 : w6.cell? ⟨N + 1, 0, none⟩ = some (.int .i64 2) := HF6.out.cell rfl
            have u1 : w6.cell? ⟨N + 1, 1, none⟩ = some (.int .u32 0) := HF6.out.cell rfl
            have u2 : w6.cell? ⟨N + 1, 2, none⟩ = some (.slice none 0 0) := HF6.out.cell rfl
            have u3 : w6.cell? ⟨N + 1, 3, none⟩ = some (.int .i64 (s : Int)) := HF6.out.cell rfl
            go_wp2_with fail
            have HZ7 : Hid (At ((((w6.setCell ⟨N, 0, none⟩ (.int .i64 2)).setCell ⟨N, 1, none⟩ (.int .u32 0)).setCell ⟨N, 2, none⟩ (.slice none 0 0)).setCell ⟨N, 3, none⟩ (.int .i64 (s : Int))) N (fnd 2 0 (.slice none 0 0) s) 26) := fnd_set HA6.out
            have HO7 := Lib.hid (fnd_only w6 N (.int .i64 2) (.int .u32 0) (.slice none 0 0) (.int .i64 (s : Int)))
            generalize (((w6.setCell ⟨N, 0, none⟩ (.int .i64 2)).setCell ⟨N, 1, none⟩ (.int .u32 0)).setCell ⟨N, 2, none⟩ (.slice none 0 0)).setCell ⟨N, 3, none⟩ (.int .i64 (s : Int)) = w7 at *
            clear q0 q1 q2 q3 f0 f1 f2 f3
            have q0 : w7.cell? ⟨N, 0, none⟩ = some (.int .i64 2) := HZ7.out.cell rfl
            have q1 : w7.cell? ⟨N, 1, none⟩ = some (.int .u32 0) := HZ7.out.cell rfl
            have q2 : w7.cell? ⟨N, 2, none⟩ = some (.slice none 0 0) := HZ7.out.cell rfl
            have q3 : w7.cell? ⟨N, 3, none⟩ = some (.int .i64 (s : Int)) := HZ7.out.cell rfl
            have HB7 : Hid (Below N w w7) := HB6.out.trans (HO7.out.below (Nat.le_of_lt HA6.out.lt) (fun k _ hk => Nat.le_of_eq hk.symm))
            try rw [Exit.noGoto_ret]
            refine bodyPost_ret (v := .tuple #[fndV 2 0 (.slice none 0 0) s, .int .i64 0]) (by simp [results, Tryz.results19, go_sem, q0, q1, q2, q3]; rfl) rfl ?_
            exact ⟨_, rfl, .inl ⟨rfl, _, _, rfl⟩, by rw [HNN.out]; exact HB7.out⟩
          · have HTM := Lib.hid (fun hh => (rowsQ_miss (r := cs.drop (i + 1)) (t := rows.drop (j + 1)) hsB hh).symm.trans HTX)
            have HTH := Lib.hid (fun hh => (rowsQ_hit (r := cs.drop (i + 1)) (t := rows.drop (j + 1)) hsB hh).symm.trans HTX)
            have tsB : ((s : Int) == (B : Int)) = false := by rw [beq_eq_false_iff_ne]; omega
            have hs2 : s + 1 ≤ B := by omega
            clear HTX hsB HFQ2 HFQ
            cases hh : hitQ l ci row with
            | true =>
              rw [hh, if_pos rfl, if_pos rfl] at HF
              have HTX := HTH.out hh
              subst HTX
              clear HTM HTH hh
              generalize hF : (allS (buildS l ci row)).headD [] = F at *
              generalize hrl : row.length = rl at *
              go_wp2_with fail
              have HO3 : Hid (At (wr.setCell ⟨N + 1, 3, none⟩ (.int .i64 ((s : Int) + 1))) (N + 1) (fnd 1 0 (.slice none 0 0) (s + 1)) 26) := HO.out.set 3 _
              have HO6 := Lib.hid ((Only.refl (fun k => k = N + 1) wr).setCell (p := ⟨N + 1, 3, none⟩) (fun _ => rfl) (.int .i64 ((s : Int) + 1)))
              generalize wr.setCell ⟨N + 1, 3, none⟩ (.int .i64 ((s : Int) + 1)) = w3 at *
              have HA3 : Hid (At w3 N (fnd 0 0 (.slice none 0 0) 0) 26) := HA.out.only HO6.out (by omega)
              have HB3 : Hid (Below N w w3) := HB.out.trans (HO6.out.below (Nat.le_of_lt HA.out.lt) (fun k _ hk => by omega))
              refine (HF.out w3 HB3.out (HRR.out w3 HB3.out)).mono ?_
              rintro e w4 ⟨v4, rfl, hr4, hb4⟩
              obtain ⟨ra4, rc4, rfl⟩ := hr4.rd.len
              generalize hn4 : (nats F).length = rn4 at *
              have HR4 := Lib.hid hr4
              have HO4 := Lib.hid (HO3.out.below hb4 HO3.out.lt)
              have HA4 := Lib.hid (HA3.out.below hb4 HA3.out.lt)
              have HB4 := Lib.hid (HB3.out.trans (hb4.mono (Nat.le_of_lt HA3.out.lt)))
              have HLW : Hid (N + 1 < w3.heap.size) := HO3.out.lt
              clear hr4 hb4 HF HRR HO3 HA3 HB3 HO6 hcj2 e0 e1 e2 e3 g0 g3 HO HA HB
              have e0 : w4.cell? ⟨N + 1, 0, none⟩ = some (.int .i64 1) := HO4.out.cell rfl
              have e1 : w4.cell? ⟨N + 1, 1, none⟩ = some (.int .u32 0) := HO4.out.cell rfl
              have e2 : w4.cell? ⟨N + 1, 2, none⟩ = some (.slice none 0 0) := HO4.out.cell rfl
              have g0 : w4.frozen? ⟨N + 1, 0, none⟩ = false := HO4.out.free 0
              have g1 : w4.frozen? ⟨N + 1, 1, none⟩ = false := HO4.out.free 1
              have g2 : w4.frozen? ⟨N + 1, 2, none⟩ = false := HO4.out.free 2
              go_upto_region 19 with fail
              have HF6 : Hid (At (((w4.setCell ⟨N + 1, 0, none⟩ (.int .i64 0)).setCell ⟨N + 1, 1, none⟩ (.int .u32 (ci : Int))).setCell ⟨N + 1, 2, none⟩ (.slice ra4 rn4 rc4)) (N + 1) (fnd 0 ci (.slice ra4 rn4 rc4) (s + 1)) 26) := ((HO4.out.set 0 _).set 1 _).set 2 _
              have HO6 := Lib.hid ((((Only.refl (fun k => k = N + 1) w4).setCell (p := ⟨N + 1, 0, none⟩) (fun _ => rfl) (.int .i64 0)).setCell (p := ⟨N + 1, 1, none⟩) (fun _ => rfl) (.int .u32 (ci : Int))).setCell (p := ⟨N + 1, 2, none⟩) (fun _ => rfl) (.slice ra4 rn4 rc4))
              generalize ((w4.setCell ⟨N + 1, 0, none⟩ (.int .i64 0)).setCell ⟨N + 1, 1, none⟩ (.int .u32 (ci : Int))).setCell ⟨N + 1, 2, none⟩ (.slice ra4 rn4 rc4) = w6 at *
              have HA6 : Hid (At w6 N (fnd 0 0 (.slice none 0 0) 0) 26) := HA4.out.only HO6.out (by omega)
              have HB6 : Hid (Below N w w6) := HB4.out.trans (HO6.out.below (Nat.le_of_lt HA4.out.lt) (fun k _ hk => by omega))
              have HR6 : Hid (RdX (fun k => k < w3.heap.size) w6 (.slice ra4 rn4 rc4) (nats F)) := HR4.out.only HO6.out (fun k hk => by show k < _; have := HLW.out; omega)
              clear e0 e1 e2 g0 g1 g2 HO4 HA4 HB4 HR4
              have q0 : w6.cell? ⟨N, 0, none⟩ = some (.int .i64 0) := HA6.out.cell rfl
              have q1 : w6.cell? ⟨N, 1, none⟩ = some (.int .u32 0) := HA6.out.cell rfl
              have q2 : w6.cell? ⟨N, 2, none⟩ = some (.slice none 0 0) := HA6.out.cell rfl
              have q3 : w6.cell? ⟨N, 3, none⟩ = some (.int .i64 0) := HA6.out.cell rfl
              have f0 : w6.frozen? ⟨N, 0, none⟩ = false := HA6.out.free 0
              have f1 : w6.frozen? ⟨N, 1, none⟩ = false := HA6.out.free 1
              have f2 : w6.frozen? ⟨N, 2, none⟩ = false := HA6.out.free 2
              have f3 : w6.frozen? ⟨N, 3, none⟩ = false := HA6.out.free 3
              have u0 : w6.cell? ⟨N + 1, 0, none⟩ = some (.int .i64 0) := HF6.out.cell rfl
              have u1 : w6.cell? ⟨N + 1, 1, none⟩ = some (.int .u32 (ci : Int)) := HF6.out.cell rfl
              have u2 : w6.cell? ⟨N + 1, 2, none⟩ = some (.slice ra4 rn4 rc4) := HF6.out.cell rfl
              have u3 : w6.cell? ⟨N + 1, 3, none⟩ = some (.int .i64 ((s : Int) + 1)) := HF6.out.cell rfl
              go_wp2_with fail
              have HZ7 : Hid (At ((((w6.setCell ⟨N, 0, none⟩ (.int .i64 0)).setCell ⟨N, 1, none⟩ (.int .u32 (ci : Int))).setCell ⟨N, 2, none⟩ (.slice ra4 rn4 rc4)).setCell ⟨N, 3, none⟩ (.int .i64 ((s : Int) + 1))) N (fnd 0 ci (.slice ra4 rn4 rc4) (s + 1)) 26) := fnd_set HA6.out
              have HO7 := Lib.hid (fnd_only w6 N (.int .i64 0) (.int .u32 (ci : Int)) (.slice ra4 rn4 rc4) (.int .i64 ((s : Int) + 1)))
              generalize (((w6.setCell ⟨N, 0, none⟩ (.int .i64 0)).setCell ⟨N, 1, none⟩ (.int .u32 (ci : Int))).setCell ⟨N, 2, none⟩ (.slice ra4 rn4 rc4)).setCell ⟨N, 3, none⟩ (.int .i64 ((s : Int) + 1)) = w7 at *
              clear q0 q1 q2 q3 f0 f1 f2 f3
              have q0 : w7.cell? ⟨N, 0, none⟩ = some (.int .i64 0) := HZ7.out.cell rfl
              have q1 : w7.cell? ⟨N, 1, none⟩ = some (.int .u32 (ci : Int)) := HZ7.out.cell rfl
              have q2 : w7.cell? ⟨N, 2, none⟩ = some (.slice ra4 rn4 rc4) := HZ7.out.cell rfl
              have q3 : w7.cell? ⟨N, 3, none⟩ = some (.int .i64 ((s : Int) + 1)) := HZ7.out.cell rfl
              have HB7 : Hid (Below N w w7) := HB6.out.trans (HO7.out.below (Nat.le_of_lt HA6.out.lt) (fun k _ hk => Nat.le_of_eq hk.symm))
              have HR7 : Hid (RdX (fun k => k < w3.heap.size) w7 (.slice ra4 rn4 rc4) (nats F)) := HR6.out.only HO7.out (fun k hk => by show k < _; have := HLW.out; omega)
              try rw [Exit.noGoto_ret]
              refine bodyPost_ret (v := .tuple #[fndV 0 ci (.slice ra4 rn4 rc4) (s + 1), .int .i64 0]) (by simp [results, Tryz.results19, go_sem, q0, q1, q2, q3]; rfl) rfl ?_
              exact ⟨_, rfl, (by show RdX _ w7 _ (nats ((allS (buildS l ci row)).headD [])); rw [hF]; exact HR7.out.less (fun k hk => by show k < _; have hk2 : k < w.heap.size := hk; have := HLW.out; have := HNN.out; omega)), by rw [HNN.out]; exact HB7.out⟩
            | false =>
              rw [hh, if_neg (by decide), if_neg (by decide)] at HF
              have HTX := Lib.hid (HTM.out hh)
              clear HTM HTH hh
              generalize hrl : row.length = rl at *
              go_wp2_with fail
              have HO3 : Hid (At (wr.setCell ⟨N + 1, 3, none⟩ (.int .i64 ((s : Int) + 1))) (N + 1) (fnd 1 0 (.slice none 0 0) (s + 1)) 26) := HO.out.set 3 _
              have HO6 := Lib.hid ((Only.refl (fun k => k = N + 1) wr).setCell (p := ⟨N + 1, 3, none⟩) (fun _ => rfl) (.int .i64 ((s : Int) + 1)))
              generalize wr.setCell ⟨N + 1, 3, none⟩ (.int .i64 ((s : Int) + 1)) = w3 at *
              have HA3 : Hid (At w3 N (fnd 0 0 (.slice none 0 0) 0) 26) := HA.out.only HO6.out (by omega)
              have HB3 : Hid (Below N w w3) := HB.out.trans (HO6.out.below (Nat.le_of_lt HA.out.lt) (fun k _ hk => by omega))
              refine (HF.out w3 HB3.out (HRR.out w3 HB3.out)).mono ?_
              rintro e w4 ⟨v4, rfl, hr4, hb4⟩
              obtain ⟨ra4, rc4, rfl⟩ := hr4.rd.len
              generalize hn4 : (nats []).length = rn4 at *
              have HR4 := Lib.hid hr4
              have HO4 := Lib.hid (HO3.out.below hb4 HO3.out.lt)
              have HA4 := Lib.hid (HA3.out.below hb4 HA3.out.lt)
              have HB4 := Lib.hid (HB3.out.trans (hb4.mono (Nat.le_of_lt HA3.out.lt)))
              have HLW : Hid (N + 1 < w3.heap.size) := HO3.out.lt
              clear hr4 hb4 HF HRR HO3 HA3 HB3 HO6 hcj2 e0 e1 e2 e3 g0 g3 HO HA HB
              go_wp2_with fail
              go_roundw
              case rel => exact ⟨j + 1, s + 1, by omega, by go_num, hs2, HTX, HO4, HA4, HB4⟩
              case measure => simp [intOf]; omega
        · obtain rfl : j = rows.length := by omega
          have HTX := HT.out
          rw [List.drop_length, rowsQ_end] at HTX
          have HT3 := Lib.hid HTX
          clear HTX HT e0 e1 e2 e3 g0 g3
          go_wp2_with fail
          go_roundw
          case rel => exact ⟨i + 1, s, by omega, by go_num, hs, HT3, HO, HA, HB⟩
          case measure => simp [intOf]; omega
    · obtain rfl : i = cs.length := by omega
      have HTX := HT.out
      rw [HEND.out] at HTX
      subst HTX
      clear HT
      go_upto_region 19 with fail
      have HF6 := HO
      have HA6 := HA
      have HB6 := HB
      clear HO HA HB
      have q0 : wr.cell? ⟨N, 0, none⟩ = some (.int .i64 0) := HA6.out.cell rfl
      have q1 : wr.cell? ⟨N, 1, none⟩ = some (.int .u32 0) := HA6.out.cell rfl
      have q2 : wr.cell? ⟨N, 2, none⟩ = some (.slice none 0 0) := HA6.out.cell rfl
      have q3 : wr.cell? ⟨N, 3, none⟩ = some (.int .i64 0) := HA6.out.cell rfl
      have f0 : wr.frozen? ⟨N, 0, none⟩ = false := HA6.out.free 0
      have f1 : wr.frozen? ⟨N, 1, none⟩ = false := HA6.out.free 1
      have f2 : wr.frozen? ⟨N, 2, none⟩ = false := HA6.out.free 2
      have f3 : wr.frozen? ⟨N, 3, none⟩ = false := HA6.out.free 3
      have u0 : wr.cell? ⟨N + 1, 0, none⟩ = some (.int .i64 1) := HF6.out.cell rfl
      have u1 : wr.cell? ⟨N + 1, 1, none⟩ = some (.int .u32 0) := HF6.out.cell rfl
      have u2 : wr.cell? ⟨N + 1, 2, none⟩ = some (.slice none 0 0) := HF6.out.cell rfl
      have u3 : wr.cell? ⟨N + 1, 3, none⟩ = some (.int .i64 (s : Int)) := HF6.out.cell rfl
      go_wp2_with fail
      have HZ7 : Hid (At ((((wr.setCell ⟨N, 0, none⟩ (.int .i64 1)).setCell ⟨N, 1, none⟩ (.int .u32 0)).setCell ⟨N, 2, none⟩ (.slice none 0 0)).setCell ⟨N, 3, none⟩ (.int .i64 (s : Int))) N (fnd 1 0 (.slice none 0 0) s) 26) := fnd_set HA6.out
      have HO7 := Lib.hid (fnd_only wr N (.int .i64 1) (.int .u32 0) (.slice none 0 0) (.int .i64 (s : Int)))
      generalize (((wr.setCell ⟨N, 0, none⟩ (.int .i64 1)).setCell ⟨N, 1, none⟩ (.int .u32 0)).setCell ⟨N, 2, none⟩ (.slice none 0 0)).setCell ⟨N, 3, none⟩ (.int .i64 (s : Int)) = w7 at *
      clear q0 q1 q2 q3 f0 f1 f2 f3
      have q0 : w7.cell? ⟨N, 0, none⟩ = some (.int .i64 1) := HZ7.out.cell rfl
      have q1 : w7.cell? ⟨N, 1, none⟩ = some (.int .u32 0) := HZ7.out.cell rfl
      have q2 : w7.cell? ⟨N, 2, none⟩ = some (.slice none 0 0) := HZ7.out.cell rfl
      have q3 : w7.cell? ⟨N, 3, none⟩ = some (.int .i64 (s : Int)) := HZ7.out.cell rfl
      have HB7 : Hid (Below N w w7) := HB6.out.trans (HO7.out.below (Nat.le_of_lt HA6.out.lt) (fun k _ hk => Nat.le_of_eq hk.symm))
      try rw [Exit.noGoto_ret]
      refine bodyPost_ret (v := .tuple #[fndV 1 0 (.slice none 0 0) s, .int .i64 0]) (by simp [results, Tryz.results19, go_sem, q0, q1, q2, q3]; rfl) rfl ?_
      exact ⟨_, rfl, .inl ⟨rfl, _, _, rfl⟩, by rw [HNN.out]; exact HB7.out⟩
end Go.Proofs.YtmnblljenobofaaGreatDoor
