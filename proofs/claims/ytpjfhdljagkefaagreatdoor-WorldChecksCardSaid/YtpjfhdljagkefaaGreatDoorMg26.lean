/- Merged: SrlI, SrlJ, SrlK, SrlL. -/
import Derived.Test.YtpjfhdljagkefaaGreatDoorMg22
import Derived.Test.YtpjfhdljagkefaaGreatDoorSrlC
import Derived.Test.YtpjfhdljagkefaaGreatDoorMg24
import Derived.Test.YtpjfhdljagkefaaGreatDoorMg4
import Derived.Test.YtpjfhdljagkefaaGreatDoorMg16
import Derived.Test.YtpjfhdljagkefaaGreatDoorMg11
import Derived.Deep.QuietTactic
import Derived.BigQuiet
import Derived.Deep.RegionHeld
import Derived.Deep.DeepMust
/- The walk of the reference's From. -/
namespace Go.Proofs.YtpjfhdljagkefaaGreatDoor.WPlain
end Go.Proofs.YtpjfhdljagkefaaGreatDoor.WPlain
namespace Go.Proofs.YtpjfhdljagkefaaGreatDoor.QPlain
end Go.Proofs.YtpjfhdljagkefaaGreatDoor.QPlain
namespace Go.Proofs.YtpjfhdljagkefaaGreatDoor.RPlain
end Go.Proofs.YtpjfhdljagkefaaGreatDoor.RPlain
namespace Go.Proofs.YtpjfhdljagkefaaGreatDoor
open Go.RowKit WPlain QPlain RPlain

/-- how the reference says what is found from a row on -/
def refX (c : Nat) (x : Nat × List Nat × Nat) (rv : Value) : Value := fndV x.1 (if x.1 = 0 then c else 0) rv x.2.2
set_option maxRecDepth 100000 in
set_option maxHeartbeats 8000000 in
theorem refFrom_any (h : List Ev) (h0 : (checkS h).2 = 0) (w0 : World) (lv : Value) (who c B : Nat) (hv : Txs w0 lv (tableS h)) (hw : who < 2 ^ (tableS h).length) (hc : c < 4294967296) (hBd : B ≤ 1000000) (hol : ∀ i, (opsAt (tableS h) i).length ≤ 60) :
    ∀ (f : Nat) (X : Nat → Prop) (row : List Nat) (s : Nat) (rv : Value) (w : World), (∀ k, X k → k < w.heap.size) → Below w0.heap.size w0 w → RdX X w rv (nats row) → SrcN rv → CapV rv → row.Nodup → (∀ k ∈ row, k < (tableS h).length) → s ≤ B → (leftS (tableS h) who row).length < f →
    Calls Tryz.prog 52 #[.agg (gC lv who c B), rv, .int .i64 (s : Int)] w fun e w' => ∃ rv', e = .returned (refX c (fromS B (tableS h) who c f row s) rv') ∧ RdX X w' rv' (nats (fromS B (tableS h) who c f row s).2.1) ∧ Below w.heap.size w w' := by
  intro f
  induction f with
  | zero => intro X row s rv w _ _ _ _ _ _ _ _ hf; omega
  | succ f ih =>
    intro X row s rv w hX hb hrx hsrc hcap hn hlt hs hf
    have h6 := table_six h0
    have hr := hrx.rd
    have HRX := Lib.hid hrx
    have HX := Lib.hid hX
    have hrl : row.length ≤ 6 := by
      have := nodup_le row (List.range (tableS h).length) hn (fun x hx => List.mem_range.2 (hlt x hx))
      rw [List.length_range] at this
      omega
    have hw32 : who < 4294967296 := by have := pow_le_64 h6; omega
    have hvw := hv.below hb (Nat.le_refl _)
    clear hrx hX
    obtain ⟨la, lc, rfl⟩ := hv.len
    obtain ⟨N, hN⟩ : ∃ N, w.heap.size = N := ⟨_, rfl⟩
    obtain ⟨w1, hw1⟩ : ∃ w1, (w.alloc (.cells #[.slice la (tableS h).length lc, .int .u32 (who : Int), .int .u32 (c : Int), .int .i64 (B : Int)] 94)).alloc (.cells #[.int .i64 0, .int .u32 0, .slice none 0 0, .int .i64 0] 26) = w1 := ⟨_, rfl⟩
    have hg1 : At w1 N (gC (.slice la (tableS h).length lc) who c B) 94 := by
      rw [← hw1, ← hN]
      exact (At.new w _ _).alloc _
    have hf1 : At w1 (N + 1) (fnd 0 0 (.slice none 0 0) 0) 26 := by
      rw [← hw1, ← hN]
      have := At.new (w.alloc (.cells #[.slice la (tableS h).length lc, .int .u32 (who : Int), .int .u32 (c : Int), .int .i64 (B : Int)] 94)) #[.int .i64 0, .int .u32 0, .slice none 0 0, .int .i64 0] 26
      rwa [World.size_alloc] at this
    have hb1 : Below N w w1 := by
      rw [← hw1, ← hN]
      exact ((Below.refl _ w).alloc (Nat.le_refl _) _).alloc (by simp) _
    have HV0 := Lib.hid hv
    have HG1 := Lib.hid hg1
    have HF1 := Lib.hid hf1
    have HB1 := Lib.hid hb1
    have HBW := Lib.hid hb
    have HR := Lib.hid hr
    have HN1 : Hid (N + 1 < w1.heap.size) := hf1.lt
    have HSR := Lib.hid hsrc
    have HCP := Lib.hid hcap
    have HN := Lib.hid hn
    have HLT := Lib.hid hlt
    have HLEFT := Lib.hid (refLeft_any (.slice la (tableS h).length lc) rv (tableS h) who c B row w1 (hvw.below hb1 (by omega)) h6 hw32 (hr.below hb1 (by omega)) (by omega))
    have g0 : w1.cell? ⟨N, 0, none⟩ = some (.slice la (tableS h).length lc) := hg1.cell rfl
    have g1 : w1.cell? ⟨N, 1, none⟩ = some (.int .u32 (who : Int)) := hg1.cell rfl
    have g2 : w1.cell? ⟨N, 2, none⟩ = some (.int .u32 (c : Int)) := hg1.cell rfl
    have g3 : w1.cell? ⟨N, 3, none⟩ = some (.int .i64 (B : Int)) := hg1.cell rfl
    unfold gC at HLEFT
    obtain ⟨ra, rc, rfl⟩ := hr.len
    rw [nats_len] at *
    rw [fromS]
    by_cases hl : leftS (tableS h) who row = []
    · rw [if_pos hl]
      rw [hl] at HLEFT
      unfold gC
      clear hv hvw hg1 hf1 hb1 hb hr hsrc hcap hn hlt ih hf hl
      go_enter Tryz.func52, Tryz.ntmps52
      go_wp2_with fail
      refine HLEFT.out.mono ?_
      rintro e w2 ⟨v2, rfl, ho2, hb2⟩
      obtain ⟨a2, c2, rfl⟩ := row_slice ho2
      have HBC := Lib.hid (HB1.out.trans (hb2.mono (by have := HB1.out.size; omega)))
      have HFC := Lib.hid (HF1.out.below hb2 HF1.out.lt)
      have k2 : w2.cell? ⟨N, 2, none⟩ = some (.int .u32 (c : Int)) := (HG1.out.below hb2 HG1.out.lt).cell rfl
      have z0 : w2.cell? ⟨N + 1, 0, none⟩ = some (.int .i64 0) := HFC.out.cell rfl
      have z1 : w2.cell? ⟨N + 1, 1, none⟩ = some (.int .u32 0) := HFC.out.cell rfl
      have z2 : w2.cell? ⟨N + 1, 2, none⟩ = some (.slice none 0 0) := HFC.out.cell rfl
      have z3 : w2.cell? ⟨N + 1, 3, none⟩ = some (.int .i64 0) := HFC.out.cell rfl
      have y0 : w2.frozen? ⟨N + 1, 0, none⟩ = false := HFC.out.free 0
      have y1 : w2.frozen? ⟨N + 1, 1, none⟩ = false := HFC.out.free 1
      have y2 : w2.frozen? ⟨N + 1, 2, none⟩ = false := HFC.out.free 2
      have y3 : w2.frozen? ⟨N + 1, 3, none⟩ = false := HFC.out.free 3
      clear ho2 hb2 g0 g1 g2 g3 HLEFT
      go_wp2_with fail
      have HZ : Hid (At ((((w2.setCell ⟨N + 1, 0, none⟩ (.int .i64 0)).setCell ⟨N + 1, 1, none⟩ (.int .u32 (c : Int))).setCell ⟨N + 1, 2, none⟩ (.slice ra row.length rc)).setCell ⟨N + 1, 3, none⟩ (.int .i64 (s : Int))) (N + 1) (fnd 0 c (.slice ra row.length rc) s) 26) := fnd_set (v' := 0) (c' := c) (s' := s) HFC.out
      have HO := Lib.hid (fnd_only w2 (N + 1) (.int .i64 0) (.int .u32 (c : Int)) (.slice ra row.length rc) (.int .i64 (s : Int)))
      generalize (((w2.setCell ⟨N + 1, 0, none⟩ (.int .i64 0)).setCell ⟨N + 1, 1, none⟩ (.int .u32 (c : Int))).setCell ⟨N + 1, 2, none⟩ (.slice ra row.length rc)).setCell ⟨N + 1, 3, none⟩ (.int .i64 (s : Int)) = w9 at *
      clear z0 z1 z2 z3 y0 y1 y2 y3
      have z0 : w9.cell? ⟨N + 1, 0, none⟩ = some (.int .i64 0) := HZ.out.cell rfl
      have z1 : w9.cell? ⟨N + 1, 1, none⟩ = some (.int .u32 (c : Int)) := HZ.out.cell rfl
      have z2 : w9.cell? ⟨N + 1, 2, none⟩ = some (.slice ra row.length rc) := HZ.out.cell rfl
      have z3 : w9.cell? ⟨N + 1, 3, none⟩ = some (.int .i64 (s : Int)) := HZ.out.cell rfl
      have HBF : Hid (Below N w w9) := HBC.out.trans (HO.out.below (by have := HBC.out.size; omega) (fun k _ hk => by omega))
      refine bodyPost_ret (v := fndV 0 c (.slice ra row.length rc) s) (by simp [results, Tryz.results52, go_sem, z0, z1, z2, z3]; rfl) rfl ?_
      exact ⟨_, rfl, HRX.out.below (by rw [hN]; exact HBF.out), by first | exact HBF.out | (rw [hN]; exact HBF.out)⟩
    · rw [if_neg hl]
      have hlp : 0 < (leftS (tableS h) who row).length := List.length_pos_iff.2 hl
      have hll := left_le (tableS h) who row
      have HIH := Lib.hid ih
      have HLL : Hid (∀ p, p ∈ leftS (tableS h) who row → (leftS (tableS h) who (row ++ [p])).length < f) := fun p hp => by have := left_len hp; omega
      have HMEM : Hid (∀ p, p ∈ leftS (tableS h) who row → p < (tableS h).length ∧ p ∉ row) := fun p hp => ⟨(left_mem.1 hp).1, (left_mem.1 hp).2.2⟩
      have HZR : Hid (loopS B (fromS B (tableS h) who c f) (tableS h) c (leftS (tableS h) who row) row ((leftS (tableS h) who row).drop 0) s = loopS B (fromS B (tableS h) who c f) (tableS h) c (leftS (tableS h) who row) row (leftS (tableS h) who row) s) := rfl
      have HANS := Lib.hid (fun (p s' : Nat) (hs' : s' ≤ B) (hp : (leftS (tableS h) who (row ++ [p])).length < f) => from_ans (B := B) (l := tableS h) (who := who) (c := c) f (row ++ [p]) s' hs' hp)
      obtain ⟨x0, hx0⟩ : ∃ x0, loopS B (fromS B (tableS h) who c f) (tableS h) c (leftS (tableS h) who row) row (leftS (tableS h) who row) s = x0 := ⟨_, rfl⟩
      rw [hx0] at HZR ⊢
      obtain ⟨lft, hlft⟩ : ∃ lft, leftS (tableS h) who row = lft := ⟨_, rfl⟩
      rw [hlft] at HLEFT HZR HLL HMEM hlp hll
      have HST : Hid (∀ j (hj : j < lft.length) s', loopS B (fromS B (tableS h) who c f) (tableS h) c lft row (lft.drop j) s' = if freeS (tableS h) lft lft[j] = false then loopS B (fromS B (tableS h) who c f) (tableS h) c lft row (lft.drop (j + 1)) s' else if s' = B then (2, [], s')
          else if okL (tableS h) c (row ++ [lft[j]]) = true then (if (fromS B (tableS h) who c f (row ++ [lft[j]]) (s' + 1)).1 = 1 then loopS B (fromS B (tableS h) who c f) (tableS h) c lft row (lft.drop (j + 1)) (fromS B (tableS h) who c f (row ++ [lft[j]]) (s' + 1)).2.2 else fromS B (tableS h) who c f (row ++ [lft[j]]) (s' + 1))
          else loopS B (fromS B (tableS h) who c f) (tableS h) c lft row (lft.drop (j + 1)) (s' + 1)) := fun j hj s' => by rw [List.drop_eq_getElem_cons hj, loopS]
      have HEND : Hid (∀ s', loopS B (fromS B (tableS h) who c f) (tableS h) c lft row (lft.drop lft.length) s' = (1, [], s')) := fun s' => by rw [List.drop_length]; rfl
      have HOL := Lib.hid hol
      have HC := Lib.hid hc
      unfold gC
      clear hv hvw hg1 hf1 hb1 hb hr hsrc hcap hn hlt ih hf hl hx0 hlft hol hc
      go_enter Tryz.func52, Tryz.ntmps52
      go_wp2_with fail
      refine HLEFT.out.mono ?_
      rintro e w2 ⟨v2, rfl, ho2, hb2⟩
      have HL2 := Lib.hid (Rd.of_row ho2)
      have hw12 := hb2.size
      obtain ⟨a2, c2, rfl⟩ := row_slice ho2
      have HB2 := Lib.hid (HB1.out.trans (hb2.mono (by have := HB1.out.size; omega)))
      have HF2 := Lib.hid (HF1.out.below hb2 HF1.out.lt)
      have HG2 := Lib.hid (HG1.out.below hb2 HG1.out.lt)
      have tl : ((lft.length : Int) == 0) = false := by rw [beq_eq_false_iff_ne]; omega
      clear ho2 hb2 g0 g1 g2 g3 HLEFT hw1 HG1 HF1
      go_wp2_with fail
      go_loopw [2, 25] (fun y x wr => ∃ j s' : Nat, j ≤ lft.length ∧ x = .int .i64 j ∧ y = .int .i64 s' ∧ s' ≤ B ∧ Hid (loopS B (fromS B (tableS h) who c f) (tableS h) c lft row (lft.drop j) s' = x0) ∧ Hid (Below w2.heap.size w2 wr)) (fun _ x _ => lft.length - (intOf x).toNat)
      case atStart => exact ⟨0, s, by omega, rfl, rfl, hs, HZR, Below.refl _ _⟩
      case round =>
        clear HZR
        obtain ⟨j, s', hj, rfl, rfl, hs', HT, HBR⟩ := hrel
        have hbs := HBR.out.size
        have HBC := Lib.hid (HB2.out.trans (HBR.out.mono (by have := HB2.out.size; omega)))
        have HFC := Lib.hid (HF2.out.below HBR.out HF2.out.lt)
        have HGC := Lib.hid (HG2.out.below HBR.out HG2.out.lt)
        by_cases hlj : j < lft.length
        · obtain ⟨b, o, pc, he, hbl, hcs⟩ := (HL2.out.below HBR.out (Nat.le_refl _)).opened (by rw [nats_len]; omega)
          rw [nats_len] at he
          simp only [Value.slice.injEq] at he
          obtain ⟨rfl, -, rfl⟩ := he
          have hcj : wr.cell? ⟨b, o + j, none⟩ = some (.int .i64 (lft[j] : Int)) := hcs j _ (nats_get hlj)
          have hjm := List.getElem_mem hlj
          obtain ⟨hjl, hjr⟩ := HMEM.out _ hjm
          have hjf := HLL.out _ hjm
          have HFREE := Lib.hid (refFree_any (.slice la (tableS h).length lc) (.slice (some ⟨b, o, none⟩) lft.length c2) (tableS h) who c B lft lft[j] wr (HV0.out.below (HBW.out.trans (HBC.out.mono (by have := HBW.out.size; omega))) (Nat.le_refl _)) h6 (HL2.out.below HBR.out (Nat.le_refl _)) (fun i hi => (HMEM.out i hi).1) hjl (by omega))
          have HT2 := Lib.hid ((HST.out j hlj s').symm.trans HT.out)
          have g0 : wr.cell? ⟨N, 0, none⟩ = some (.slice la (tableS h).length lc) := HGC.out.cell rfl
          have g1 : wr.cell? ⟨N, 1, none⟩ = some (.int .u32 (who : Int)) := HGC.out.cell rfl
          have g2 : wr.cell? ⟨N, 2, none⟩ = some (.int .u32 (c : Int)) := HGC.out.cell rfl
          have g3 : wr.cell? ⟨N, 3, none⟩ = some (.int .i64 (B : Int)) := HGC.out.cell rfl
          unfold gC at HFREE
          clear hcs hbl hjm HT
          generalize lft[j] = p at *
          cases hfr : freeS (tableS h) lft p with
          | false =>
            rw [hfr] at HFREE
            have HT3 := HT2.out
            rw [hfr, if_pos rfl] at HT3
            have HT4 := Lib.hid HT3
            clear HT2 HT3 hfr
            go_wp2_with fail
            refine HFREE.out.mono ?_
            rintro e w3 ⟨rfl, hb3⟩
            have HB3 := Lib.hid (HBR.out.trans (hb3.mono hbs))
            clear hb3 HFREE
            go_wp2_with fail
            go_roundw
            case rel => exact ⟨j + 1, s', by omega, by go_num, rfl, hs', HT4, HB3⟩
            case measure => simp [intOf]; omega
          | true =>
            rw [hfr] at HFREE
            have HT3 := HT2.out
            rw [hfr, if_neg (by decide)] at HT3
            by_cases hsB : s' = B
            · rw [if_pos hsB] at HT3
              subst hsB
              subst HT3
              clear HT2 hfr
              go_wp2_with fail
              refine HFREE.out.mono ?_
              rintro e w3 ⟨rfl, hb3⟩
              have k3 := cell_on hb3 g3
              have HBC3 := Lib.hid (HBC.out.trans (hb3.mono (by have := HBC.out.size; omega)))
              have HFC3 := Lib.hid (HFC.out.below hb3 HFC.out.lt)
              clear hb3 HFREE g0 g1 g2 g3 HBC HFC
              have HBC := HBC3
              have HFC := HFC3
              have z0 : w3.cell? ⟨N + 1, 0, none⟩ = some (.int .i64 0) := HFC.out.cell rfl
              have z1 : w3.cell? ⟨N + 1, 1, none⟩ = some (.int .u32 0) := HFC.out.cell rfl
              have z2 : w3.cell? ⟨N + 1, 2, none⟩ = some (.slice none 0 0) := HFC.out.cell rfl
              have z3 : w3.cell? ⟨N + 1, 3, none⟩ = some (.int .i64 0) := HFC.out.cell rfl
              have y0 : w3.frozen? ⟨N + 1, 0, none⟩ = false := HFC.out.free 0
              have y1 : w3.frozen? ⟨N + 1, 1, none⟩ = false := HFC.out.free 1
              have y2 : w3.frozen? ⟨N + 1, 2, none⟩ = false := HFC.out.free 2
              have y3 : w3.frozen? ⟨N + 1, 3, none⟩ = false := HFC.out.free 3
              go_wp2_with fail
              have HZ : Hid (At ((((w3.setCell ⟨N + 1, 0, none⟩ (.int .i64 2)).setCell ⟨N + 1, 1, none⟩ (.int .u32 0)).setCell ⟨N + 1, 2, none⟩ (.slice none 0 0)).setCell ⟨N + 1, 3, none⟩ (.int .i64 (s' : Int))) (N + 1) (fnd 2 0 (.slice none 0 0) s') 26) := fnd_set (v' := 2) (c' := 0) (s' := s') HFC.out
              have HO := Lib.hid (fnd_only w3 (N + 1) (.int .i64 2) (.int .u32 0) (.slice none 0 0) (.int .i64 (s' : Int)))
              generalize (((w3.setCell ⟨N + 1, 0, none⟩ (.int .i64 2)).setCell ⟨N + 1, 1, none⟩ (.int .u32 0)).setCell ⟨N + 1, 2, none⟩ (.slice none 0 0)).setCell ⟨N + 1, 3, none⟩ (.int .i64 (s' : Int)) = w9 at *
              clear z0 z1 z2 z3 y0 y1 y2 y3
              have z0 : w9.cell? ⟨N + 1, 0, none⟩ = some (.int .i64 2) := HZ.out.cell rfl
              have z1 : w9.cell? ⟨N + 1, 1, none⟩ = some (.int .u32 0) := HZ.out.cell rfl
              have z2 : w9.cell? ⟨N + 1, 2, none⟩ = some (.slice none 0 0) := HZ.out.cell rfl
              have z3 : w9.cell? ⟨N + 1, 3, none⟩ = some (.int .i64 (s' : Int)) := HZ.out.cell rfl
              have HBF : Hid (Below N w w9) := HBC.out.trans (HO.out.below (by have := HBC.out.size; omega) (fun k _ hk => by omega))
              refine bodyPost_ret (v := fndV 2 0 (.slice none 0 0) s') (by simp [results, Tryz.results52, go_sem, z0, z1, z2, z3]; rfl) rfl ?_
              exact ⟨_, rfl, .inl ⟨rfl, _, _, rfl⟩, by first | exact HBF.out | (rw [hN]; exact HBF.out)⟩
            · rw [if_neg hsB] at HT3
              have HT4 := Lib.hid HT3
              have hsB2 : s' < B := by omega
              have tB : ((s' : Int) == (B : Int)) = false := by rw [beq_eq_false_iff_ne]; omega
              clear HT2 HT3 hfr hsB
              go_wp2_with fail
              refine HFREE.out.mono ?_
              rintro e w3 ⟨rfl, hb3⟩
              have k0 := cell_on hb3 g0
              have k1 := cell_on hb3 g1
              have k2 := cell_on hb3 g2
              have k3 := cell_on hb3 g3
              have HB3 := Lib.hid (HBR.out.trans (hb3.mono hbs))
              have HBC3 := Lib.hid (HBC.out.trans (hb3.mono (by have := HBC.out.size; omega)))
              have HWITH := Lib.hid (refWithS_any (.slice ra row.length rc) row p w3 (HR.out.below HBC3.out (by omega)) HSR.out (by omega))
              clear hb3 HFREE g0 g1 g2 g3
              go_wp2_with fail
              refine HWITH.out.mono ?_
              rintro e w4 ⟨v4, rfl, ho4, hs4, hb4⟩
              obtain ⟨n4, hn4⟩ : ∃ n4, (row ++ [p]).length = n4 := ⟨_, rfl⟩
              have hn4' : row.length + 1 = n4 := by rw [← hn4]; simp
              rw [hn4'] at ho4
              obtain ⟨a4, c4, rfl⟩ := row_slice ho4
              have HR4 := Lib.hid (RdX.of_row (X := fun k => k < w1.heap.size) ho4 (fun k hk => by have := HB3.out.size; have := hw12; omega))
              have HC4 := Lib.hid (CapV.of_row ho4)
              have HS4 := Lib.hid hs4
              have HB4 := Lib.hid (HB3.out.trans (hb4.mono HB3.out.size))
              have HBC4 := Lib.hid (HBC3.out.trans (hb4.mono (by have := HBC3.out.size; omega)))
              have x0' := cell_on hb4 k0
              have x1 := cell_on hb4 k1
              have x2 := cell_on hb4 k2
              have x3 := cell_on hb4 k3
              have HN4 : Hid (row ++ [p]).Nodup := List.nodup_append.2 ⟨HN.out, by simp, fun x hx y hy => by
                rw [List.mem_singleton] at hy
                subst hy
                rintro rfl
                exact hjr hx⟩
              have HLT4 : Hid (∀ k ∈ row ++ [p], k < (tableS h).length) := fun k hk => by
                rcases List.mem_append.1 hk with hk | hk
                · exact HLT.out k hk
                · rw [List.mem_singleton] at hk; omega
              have HLEG := Lib.hid (refLegal_any (.slice la (tableS h).length lc) (.slice a4 n4 c4) (tableS h) (row ++ [p]) c w4 (HV0.out.below (HBW.out.trans (HBC4.out.mono (by have := HBW.out.size; omega))) (Nat.le_refl _)) (by rw [← nats_intsS]; exact HR4.out.rd) HC4.out HLT4.out h6 HOL.out (by omega) HC.out)
              have hokd : (((legalS (tableS h) c (row ++ [p]) : Nat) : Int) == (n4 : Int)) = okL (tableS h) c (row ++ [p]) := by
                unfold okL
                rw [hn4, Bool.eq_iff_iff, beq_iff_eq, decide_eq_true_eq]
                omega
              clear ho4 hs4 hb4 hn4 HWITH k0 k1 k2 k3
              generalize legalS (tableS h) c (row ++ [p]) = lg at *
              cases hok : okL (tableS h) c (row ++ [p]) with
              | false =>
                rw [hok] at hokd
                have HT5 := HT4.out
                rw [hok, if_neg (by decide)] at HT5
                have HT6 := Lib.hid HT5
                clear HT5 HT4 hok
                go_wp2_with fail
                refine HLEG.out.mono ?_
                rintro e w5 ⟨rfl, hb5⟩
                have HB5 := Lib.hid (HB4.out.trans (hb5.mono HB4.out.size))
                clear hb5 HLEG
                go_wp2_with fail
                go_roundw
                case rel => exact ⟨j + 1, s' + 1, by omega, by go_num, by go_num, by omega, HT6, HB5⟩
                case measure => simp [intOf]; omega
              | true =>
                rw [hok] at hokd
                have HT5 := HT4.out
                rw [hok, if_pos rfl] at HT5
                have HT6 := Lib.hid HT5
                clear HT5 HT4 hok
                go_wp2_with fail
                refine HLEG.out.mono ?_
                rintro e w5 ⟨rfl, hb5⟩
                have HB5 := Lib.hid (HB4.out.trans (hb5.mono HB4.out.size))
                have HBC5 := Lib.hid (HBC4.out.trans (hb5.mono (by have := HBC4.out.size; omega)))
                have t0 := cell_on hb5 x0'
                have t1 := cell_on hb5 x1
                have t2 := cell_on hb5 x2
                have t3 := cell_on hb5 x3
                have HREC := Lib.hid (HIH.out (fun k => k < w1.heap.size) (row ++ [p]) (s' + 1) (.slice a4 n4 c4) w5 (fun k hk => by have := HB2.out.size; have := hw12; have := HB5.out.size; omega) (HBW.out.trans (HBC5.out.mono (by have := HBW.out.size; omega))) (HR4.out.below hb5) HS4.out HC4.out HN4.out HLT4.out (by omega) hjf)
                have HAN := Lib.hid (HANS.out p (s' + 1) (by omega) hjf)
                obtain ⟨x, hx⟩ : ∃ x, fromS B (tableS h) who c f (row ++ [p]) (s' + 1) = x := ⟨_, rfl⟩
                rw [hx] at HREC HAN HT6
                clear hb5 HLEG hx x0' x1 x2 x3
                unfold gC refX fndV at HREC
                obtain ⟨cc, hcc⟩ : ∃ cc, (if x.1 = 0 then c else 0) = cc := ⟨_, rfl⟩
                have HCC := Lib.hid hcc
                rw [hcc] at HREC
                clear hcc
                have hs1 : ((s' + 1 : Nat) : Int) = (s' : Int) + 1 := by omega
                rw [hs1] at HREC
                clear hs1
                go_wp2_with fail
                refine HREC.out.mono ?_
                rintro e w6 ⟨rv6, rfl, hr6, hb6⟩
                obtain ⟨a6, c6, rfl⟩ := hr6.rd.len
                obtain ⟨n6, hn6⟩ : ∃ z, (nats x.2.1).length = z := ⟨_, rfl⟩
                rw [hn6] at hr6 ⊢
                clear hn6
                obtain ⟨N7, hN7⟩ : ∃ z, w6.heap.size = z := ⟨_, rfl⟩
                obtain ⟨w7, hw7⟩ : ∃ z, w6.alloc (.cells #[.int .i64 (x.1 : Int), .int .u32 (cc : Int), .slice a6 n6 c6, .int .i64 (x.2.2 : Int)] 26) = z := ⟨_, rfl⟩
                have ha7 : At w7 N7 #[.int .i64 (x.1 : Int), .int .u32 (cc : Int), .slice a6 n6 c6, .int .i64 (x.2.2 : Int)] 26 := by
                  rw [← hw7, ← hN7]; exact At.new w6 _ _
                have hb67 : Below w6.heap.size w6 w7 := by rw [← hw7]; exact (Below.refl _ w6).alloc (Nat.le_refl _) _
                have hb57 := hb6.trans (hb67.mono hb6.size)
                have HB7 := Lib.hid (HB5.out.trans (hb57.mono HB5.out.size))
                have HBC7 := Lib.hid (HBC5.out.trans (hb57.mono (by have := HBC5.out.size; omega)))
                have HR7 := Lib.hid (hr6.below hb67)
                have q0 : w7.cell? ⟨N7, 0, none⟩ = some (.int .i64 (x.1 : Int)) := ha7.cell rfl
                have q1 : w7.cell? ⟨N7, 1, none⟩ = some (.int .u32 (cc : Int)) := ha7.cell rfl
                have q2 : w7.cell? ⟨N7, 2, none⟩ = some (.slice a6 n6 c6) := ha7.cell rfl
                have q3 : w7.cell? ⟨N7, 3, none⟩ = some (.int .i64 (x.2.2 : Int)) := ha7.cell rfl
                have HNW : Hid (N + 1 < w6.heap.size) := by
                  have := HF2.out.lt
                  have := HB5.out.size
                  have := hb6.size
                  show _ < _
                  omega
                clear t0 t1 t2 t3 ha7 hb67 hb57 hr6 hb6
                have hle := HAN.out.le
                by_cases hx1 : x.1 = 1
                · have tx : ((x.1 : Int) != 1) = false := by rw [hx1]; rfl
                  have HT7 := HT6.out
                  rw [if_pos hx1] at HT7
                  have HT8 := Lib.hid HT7
                  clear HT6 HT7 hx1
                  go_wp2_with fail
                  go_roundw
                  case rel => exact ⟨j + 1, x.2.2, by omega, by go_num, rfl, hle, HT8, HB7⟩
                  case measure => simp [intOf]; omega
                · have tx : ((x.1 : Int) != 1) = true := by simp; omega
                  have HT7 := HT6.out
                  rw [if_neg hx1] at HT7
                  subst HT7
                  have HFC7 := Lib.hid (HF2.out.below HB7.out HF2.out.lt)
                  clear HT6 hx1 HBC HFC
                  have HBC := HBC7
                  have HFC := HFC7
                  have z0 : w7.cell? ⟨N + 1, 0, none⟩ = some (.int .i64 0) := HFC.out.cell rfl
                  have z1 : w7.cell? ⟨N + 1, 1, none⟩ = some (.int .u32 0) := HFC.out.cell rfl
                  have z2 : w7.cell? ⟨N + 1, 2, none⟩ = some (.slice none 0 0) := HFC.out.cell rfl
                  have z3 : w7.cell? ⟨N + 1, 3, none⟩ = some (.int .i64 0) := HFC.out.cell rfl
                  have y0 : w7.frozen? ⟨N + 1, 0, none⟩ = false := HFC.out.free 0
                  have y1 : w7.frozen? ⟨N + 1, 1, none⟩ = false := HFC.out.free 1
                  have y2 : w7.frozen? ⟨N + 1, 2, none⟩ = false := HFC.out.free 2
                  have y3 : w7.frozen? ⟨N + 1, 3, none⟩ = false := HFC.out.free 3
                  go_wp2_with fail
                  have HZ : Hid (At ((((w7.setCell ⟨N + 1, 0, none⟩ (.int .i64 (x.1 : Int))).setCell ⟨N + 1, 1, none⟩ (.int .u32 (cc : Int))).setCell ⟨N + 1, 2, none⟩ (.slice a6 n6 c6)).setCell ⟨N + 1, 3, none⟩ (.int .i64 (x.2.2 : Int))) (N + 1) (fnd x.1 cc (.slice a6 n6 c6) x.2.2) 26) := fnd_set (v' := x.1) (c' := cc) (s' := x.2.2) HFC.out
                  have HO := Lib.hid (fnd_only w7 (N + 1) (.int .i64 (x.1 : Int)) (.int .u32 (cc : Int)) (.slice a6 n6 c6) (.int .i64 (x.2.2 : Int)))
                  generalize (((w7.setCell ⟨N + 1, 0, none⟩ (.int .i64 (x.1 : Int))).setCell ⟨N + 1, 1, none⟩ (.int .u32 (cc : Int))).setCell ⟨N + 1, 2, none⟩ (.slice a6 n6 c6)).setCell ⟨N + 1, 3, none⟩ (.int .i64 (x.2.2 : Int)) = w9 at *
                  clear z0 z1 z2 z3 y0 y1 y2 y3
                  have z0 : w9.cell? ⟨N + 1, 0, none⟩ = some (.int .i64 (x.1 : Int)) := HZ.out.cell rfl
                  have z1 : w9.cell? ⟨N + 1, 1, none⟩ = some (.int .u32 (cc : Int)) := HZ.out.cell rfl
                  have z2 : w9.cell? ⟨N + 1, 2, none⟩ = some (.slice a6 n6 c6) := HZ.out.cell rfl
                  have z3 : w9.cell? ⟨N + 1, 3, none⟩ = some (.int .i64 (x.2.2 : Int)) := HZ.out.cell rfl
                  have HBF : Hid (Below N w w9) := HBC.out.trans (HO.out.below (by have := HBC.out.size; omega) (fun k _ hk => by omega))
                  refine bodyPost_ret (v := fndV x.1 cc (.slice a6 n6 c6) x.2.2) (by simp [results, Tryz.results52, go_sem, z0, z1, z2, z3]; rfl) rfl ?_
                  exact ⟨.slice a6 n6 c6, by unfold refX; rw [HCC.out], ((HR7.out.only HO.out (fun k hk => by rw [hk]; exact HN1.out)).less (Y := X) (fun k hk => by have := HX.out k hk; have := HB1.out.size; omega)), by first | exact HBF.out | (rw [hN]; exact HBF.out)⟩
        · obtain rfl : j = lft.length := by omega
          have HT2 := HT.out
          rw [HEND.out] at HT2
          subst HT2
          clear HT
          have z0 : wr.cell? ⟨N + 1, 0, none⟩ = some (.int .i64 0) := HFC.out.cell rfl
          have z1 : wr.cell? ⟨N + 1, 1, none⟩ = some (.int .u32 0) := HFC.out.cell rfl
          have z2 : wr.cell? ⟨N + 1, 2, none⟩ = some (.slice none 0 0) := HFC.out.cell rfl
          have z3 : wr.cell? ⟨N + 1, 3, none⟩ = some (.int .i64 0) := HFC.out.cell rfl
          have y0 : wr.frozen? ⟨N + 1, 0, none⟩ = false := HFC.out.free 0
          have y1 : wr.frozen? ⟨N + 1, 1, none⟩ = false := HFC.out.free 1
          have y2 : wr.frozen? ⟨N + 1, 2, none⟩ = false := HFC.out.free 2
          have y3 : wr.frozen? ⟨N + 1, 3, none⟩ = false := HFC.out.free 3
          go_wp2_with fail
          have HZ : Hid (At ((((wr.setCell ⟨N + 1, 0, none⟩ (.int .i64 1)).setCell ⟨N + 1, 1, none⟩ (.int .u32 0)).setCell ⟨N + 1, 2, none⟩ (.slice none 0 0)).setCell ⟨N + 1, 3, none⟩ (.int .i64 (s' : Int))) (N + 1) (fnd 1 0 (.slice none 0 0) s') 26) := fnd_set (v' := 1) (c' := 0) (s' := s') HFC.out
          have HO := Lib.hid (fnd_only wr (N + 1) (.int .i64 1) (.int .u32 0) (.slice none 0 0) (.int .i64 (s' : Int)))
          generalize (((wr.setCell ⟨N + 1, 0, none⟩ (.int .i64 1)).setCell ⟨N + 1, 1, none⟩ (.int .u32 0)).setCell ⟨N + 1, 2, none⟩ (.slice none 0 0)).setCell ⟨N + 1, 3, none⟩ (.int .i64 (s' : Int)) = w9 at *
          clear z0 z1 z2 z3 y0 y1 y2 y3
          have z0 : w9.cell? ⟨N + 1, 0, none⟩ = some (.int .i64 1) := HZ.out.cell rfl
          have z1 : w9.cell? ⟨N + 1, 1, none⟩ = some (.int .u32 0) := HZ.out.cell rfl
          have z2 : w9.cell? ⟨N + 1, 2, none⟩ = some (.slice none 0 0) := HZ.out.cell rfl
          have z3 : w9.cell? ⟨N + 1, 3, none⟩ = some (.int .i64 (s' : Int)) := HZ.out.cell rfl
          have HBF : Hid (Below N w w9) := HBC.out.trans (HO.out.below (by have := HBC.out.size; omega) (fun k _ hk => by omega))
          refine bodyPost_ret (v := fndV 1 0 (.slice none 0 0) s') (by simp [results, Tryz.results52, go_sem, z0, z1, z2, z3]; rfl) rfl ?_
          exact ⟨_, rfl, .inl ⟨rfl, _, _, rfl⟩, by first | exact HBF.out | (rw [hN]; exact HBF.out)⟩
end Go.Proofs.YtpjfhdljagkefaaGreatDoor
/- The walk of the reference's Search. -/
namespace Go.Proofs.YtpjfhdljagkefaaGreatDoor.WPlain
end Go.Proofs.YtpjfhdljagkefaaGreatDoor.WPlain
namespace Go.Proofs.YtpjfhdljagkefaaGreatDoor.QPlain
end Go.Proofs.YtpjfhdljagkefaaGreatDoor.QPlain
namespace Go.Proofs.YtpjfhdljagkefaaGreatDoor.RPlain
end Go.Proofs.YtpjfhdljagkefaaGreatDoor.RPlain
namespace Go.Proofs.YtpjfhdljagkefaaGreatDoor
open Go.RowKit WPlain QPlain RPlain

theorem capE {a : Option Addr} {n c : Nat} (h : n ≤ c) : ∀ a' n' c', Value.slice a n c = .slice a' n' c' → n' ≤ c' := fun _ _ _ he => by
  simp only [Value.slice.injEq] at he
  omega
theorem ops_sixty {h : List Ev} (h0 : (checkS h).2 = 0) : ∀ i, (opsAt (tableS h) i).length ≤ 60 := fun i => by
  unfold opsAt
  cases hg : (tableS h)[i]? with
  | none => exact Nat.zero_le _
  | some X => exact (table_ops h0 _ (List.mem_of_getElem? hg)).2
end Go.Proofs.YtpjfhdljagkefaaGreatDoor
/- The walks of recantref01's Ints at any two rows, of slices.Equal, and of both packages' call that tells whether two findings are the same. -/
namespace Go.Proofs.YtpjfhdljagkefaaGreatDoor.WPlain
end Go.Proofs.YtpjfhdljagkefaaGreatDoor.WPlain
namespace Go.Proofs.YtpjfhdljagkefaaGreatDoor.QPlain
end Go.Proofs.YtpjfhdljagkefaaGreatDoor.QPlain
namespace Go.Proofs.YtpjfhdljagkefaaGreatDoor.RPlain
end Go.Proofs.YtpjfhdljagkefaaGreatDoor.RPlain
namespace Go.Proofs.YtpjfhdljagkefaaGreatDoor
open Go.RowKit WPlain QPlain RPlain

theorem beq_false' {a b : Int} (h : ¬ a = b) : (a == b) = false := by rw [beq_eq_false_iff_ne]; exact h
theorem ints_getI {xs : List Int} {k : Nat} (h : k < xs.length) : (ints xs)[k]? = some (.int .i64 xs[k]) := by
  unfold ints
  rw [List.getElem?_map, List.getElem?_eq_getElem h]; rfl
theorem take_differ {xs ys : List Int} {k : Nat} (hx : k < xs.length) (_hy : k < ys.length) (h : ¬ xs[k] = ys[k]) : ¬ xs = ys := by
  rintro rfl
  exact h rfl
set_option maxRecDepth 100000 in
set_option maxHeartbeats 1000000 in
theorem refIntsM_any (v1 v2 : Value) (xs ys : List Int) (w : World) (h1 : Rd w v1 (ints xs)) (h2 : Rd w v2 (ints ys)) (hx : xs.length ≤ 9223372036854775807) :
    Calls Tryz.prog 23 #[v1, v2] w fun e w' => e = .returned (.bool (decide (xs = ys))) ∧ ∃ n, w' = w.drewN n := by
  have H1 := Lib.hid h1
  have H2 := Lib.hid h2
  obtain ⟨a1, c1, rfl⟩ := h1.len
  obtain ⟨a2, c2, rfl⟩ := h2.len
  rw [ints_len] at H1 H2 ⊢
  rw [ints_len]
  clear h1 h2
  by_cases hl : xs.length = ys.length
  · have HL := Lib.hid hl
    have HD := Lib.hid (fun (k : Nat) (hx : k < xs.length) (hy : k < ys.length) (h : ¬ xs[k] = ys[k]) => take_differ hx hy h)
    obtain ⟨res, hres⟩ : ∃ res, decide (xs = ys) = res := ⟨_, rfl⟩
    have HRES := Lib.hid hres
    rw [hres]
    have HT0 : Hid (xs.take 0 = ys.take 0) := rfl
    have HNX : Hid (∀ k (hx : k < xs.length) (hy : k < ys.length), xs.take k = ys.take k → xs[k] = ys[k] → xs.take (k + 1) = ys.take (k + 1)) := fun k hx hy h1 h2 => by
      rw [List.take_succ_eq_append_getElem hx, List.take_succ_eq_append_getElem hy, h1, h2]
    have HFN : Hid (xs.take xs.length = ys.take xs.length → xs = ys) := fun h => by
      rw [List.take_length, hl, List.take_length] at h
      exact h
    obtain ⟨nx, hnx⟩ : ∃ nx, xs.length = nx := ⟨_, rfl⟩
    obtain ⟨ny, hny⟩ : ∃ ny, ys.length = ny := ⟨_, rfl⟩
    have tl : ((nx : Int) != (ny : Int)) = false := by simp; omega
    have HNXE := Lib.hid hnx
    have HNYE := Lib.hid hny
    rw [hnx] at H1 hx ⊢
    rw [hny] at H2 ⊢
    have hxy : nx ≤ ny ∧ ny ≤ nx := by omega
    clear hl hres hnx hny
    obtain ⟨hxy1, hxy2⟩ := hxy
    go_enter Tryz.func23, Tryz.ntmps23
    go_wp2_with fail
    go_loopw [13] (fun x wr => ∃ k n : Nat, k ≤ nx ∧ x = .int .i64 k ∧ Hid (xs.take k = ys.take k) ∧ wr = w.drewN n) (fun x _ => nx - (intOf x).toNat)
    case atStart => exact ⟨0, 0, by omega, rfl, HT0, rfl⟩
    case round =>
      clear HT0
      obtain ⟨k, n, hk, rfl, HT, rfl⟩ := hrel
      by_cases hlt : k < nx
      · have hkx : k < xs.length := by have := HNXE.out; omega
        have hky : k < ys.length := by have := HNYE.out; omega
        obtain ⟨b1, o1, d1, he1, -, hc1⟩ := H1.out.opened (by rw [ints_len]; omega)
        obtain ⟨b2, o2, d2, he2, -, hc2⟩ := H2.out.opened (by rw [ints_len]; omega)
        have g1 := hc1 k _ (ints_getI hkx)
        have g2 := hc2 k _ (ints_getI hky)
        rw [ints_len, HNXE.out] at he1
        rw [ints_len, HNYE.out] at he2
        simp only [Value.slice.injEq] at he1 he2
        obtain ⟨rfl, -, rfl⟩ := he1
        obtain ⟨rfl, -, rfl⟩ := he2
        have HDK := Lib.hid (HD.out k hkx hky)
        have HNK := Lib.hid (HNX.out k hkx hky HT.out)
        have k1 : (k : Int) < (nx : Int) := by omega
        have k2 : (k : Int) < (ny : Int) := by omega
        clear hc1 hc2 HT
        generalize xs[k] = y at *
        generalize ys[k] = z at *
        clear hkx hky
        by_cases hyz : y = z
        · have HT2 := Lib.hid (HNK.out hyz)
          subst hyz
          clear HDK HNK
          go_wp2
          go_quiet (fail)
          go_wp2
          go_roundw
          case rel => exact ⟨k + 1, _, by omega, by go_num, HT2, rfl⟩
          case measure => simp [intOf]; omega
        · have HF : Hid (res = false) := by
            unfold Hid
            rw [← HRES.out]
            exact decide_eq_false (HDK.out hyz)
          have tne : (y != z) = true := by simp [hyz]
          clear HDK HNK
          go_wp2
          go_quiet (fail)
          go_wp2
          go_ret
          exact ⟨by rw [HF.out]; rfl, n + nq, by rw [World.drewN_drewN]⟩
      · obtain rfl : k = nx := by omega
        have HF : Hid (res = true) := by
          unfold Hid
          rw [← HRES.out]
          refine decide_eq_true (HFN.out ?_)
          rw [HNXE.out]
          exact HT.out
        clear HT
        go_wp2
        go_ret
        exact ⟨by rw [HF.out]; rfl, n, rfl⟩
  · have hne : ¬ xs = ys := fun h => hl (by rw [h])
    rw [decide_eq_false hne]
    generalize xs.length = nx at *
    generalize ys.length = ny at *
    have tl : ((nx : Int) != (ny : Int)) = true := by simp; omega
    clear hl
    go_enter Tryz.func23, Tryz.ntmps23
    go_wp2_with fail
    go_ret
    exact ⟨rfl, 0, rfl⟩
theorem equalM_any (v1 v2 : Value) (xs ys : List Int) (w : World) (h1 : Rd w v1 (ints xs)) (h2 : Rd w v2 (ints ys)) (hx : xs.length ≤ 9223372036854775807) (hy : ys.length ≤ 9223372036854775807) :
    Calls Tryz.prog 29 #[v1, v2] w fun e w' => e = .returned (.bool (decide (xs = ys))) ∧ ∃ n, w' = w.drewN n := by
  by_cases h0 : xs.length = 0
  · have hx0 : xs = [] := List.length_eq_zero_iff.1 h0
    subst hx0
    obtain ⟨a1, c1, rfl⟩ := h1.len
    obtain ⟨a2, c2, rfl⟩ := h2.len
    rw [ints_len]
    rw [ints_len]
    refine (Tryz.slices_Equal_int_empty a1 a2 c1 ys.length c2 w (by omega)).mono ?_
    rintro e w' ⟨rfl, rfl⟩
    refine ⟨?_, 0, rfl⟩
    congr 2
    rw [decide_eq_decide]
    constructor
    · intro h; exact (List.length_eq_zero_iff.1 h).symm
    · intro h; rw [← h]; rfl
  · by_cases hl : xs.length = ys.length
    · obtain ⟨b1, o1, d1, rfl, -, hc1⟩ := h1.opened (by rw [ints_len]; omega)
      obtain ⟨b2, o2, d2, rfl, -, hc2⟩ := h2.opened (by rw [ints_len]; omega)
      rw [ints_len]
      rw [ints_len]
      refine (Tryz.slices_Equal_int b1 o1 xs.length d1 b2 o2 ys.length d2 xs ys w (Nat.le_refl _) (Nat.le_refl _) (by omega) (by omega) ?_ ?_).mono ?_
      · intro j hj
        rw [hc1 j _ (ints_getI hj), List.getD_eq_getElem?_getD, List.getElem?_eq_getElem hj]; rfl
      · intro j hj
        rw [hc2 j _ (ints_getI hj), List.getD_eq_getElem?_getD, List.getElem?_eq_getElem hj]; rfl
      · rintro e w' ⟨rfl, n, rfl⟩
        refine ⟨?_, n, rfl⟩
        rw [List.take_length, List.take_length]
        congr 2
        rw [Bool.eq_iff_iff, beq_iff_eq, decide_eq_true_eq]
    · obtain ⟨a1, c1, rfl⟩ := h1.len
      obtain ⟨a2, c2, rfl⟩ := h2.len
      rw [ints_len]
      rw [ints_len]
      refine (Tryz.slices_Equal_int_lens a1 a2 xs.length c1 ys.length c2 w hl).mono ?_
      rintro e w' ⟨rfl, rfl⟩
      refine ⟨?_, 0, rfl⟩
      rw [decide_eq_false (fun h => hl (by rw [h]))]
/-- are two findings the same? -/
def sameF (v1 c1 s1 v2 c2 s2 : Int) (xs ys : List Int) : Bool := decide (v1 = v2 ∧ c1 = c2 ∧ xs = ys ∧ s1 = s2)
set_option maxRecDepth 100000 in
set_option maxHeartbeats 2000000 in
theorem likeM_any (v1 c1 s1 v2 c2 s2 : Int) (r1 r2 : Value) (xs ys : List Int) (w : World) (h1 : Rd w r1 (ints xs)) (h2 : Rd w r2 (ints ys)) (hx : xs.length ≤ 9223372036854775807) (hy : ys.length ≤ 9223372036854775807) :
    Calls Tryz.prog 31 #[.agg #[.int .i64 v1, .int .u32 c1, r1, .int .i64 s1], .agg #[.int .i64 v2, .int .u32 c2, r2, .int .i64 s2]] w fun e w' => e = .returned (.bool (sameF v1 c1 s1 v2 c2 s2 xs ys)) ∧ Below w.heap.size w w' := by
  obtain ⟨a1, d1, rfl⟩ := h1.len
  obtain ⟨a2, d2, rfl⟩ := h2.len
  obtain ⟨n1, hn1⟩ : ∃ z, (ints xs).length = z := ⟨_, rfl⟩
  obtain ⟨n2, hn2⟩ : ∃ z, (ints ys).length = z := ⟨_, rfl⟩
  rw [hn1] at h1 ⊢
  rw [hn2] at h2 ⊢
  obtain ⟨N, hN⟩ : ∃ z, w.heap.size = z := ⟨_, rfl⟩
  obtain ⟨w1, hw1⟩ : ∃ z, (w.alloc (.cells #[.int .i64 v1, .int .u32 c1, .slice a1 n1 d1, .int .i64 s1] 26)).alloc (.cells #[.int .i64 v2, .int .u32 c2, .slice a2 n2 d2, .int .i64 s2] 26) = z := ⟨_, rfl⟩
  have ha : At w1 N #[.int .i64 v1, .int .u32 c1, .slice a1 n1 d1, .int .i64 s1] 26 := by
    rw [← hw1, ← hN]; exact (At.new w _ _).alloc _
  have hb : At w1 (N + 1) #[.int .i64 v2, .int .u32 c2, .slice a2 n2 d2, .int .i64 s2] 26 := by
    rw [← hw1, ← hN]
    have := At.new (w.alloc (.cells #[.int .i64 v1, .int .u32 c1, .slice a1 n1 d1, .int .i64 s1] 26)) #[.int .i64 v2, .int .u32 c2, .slice a2 n2 d2, .int .i64 s2] 26
    rwa [World.size_alloc] at this
  have hb1 : Below N w w1 := by
    rw [← hw1, ← hN]; exact ((Below.refl _ w).alloc (Nat.le_refl _) _).alloc (by simp) _
  have HC := Lib.hid (equalM_any (.slice a1 n1 d1) (.slice a2 n2 d2) xs ys w1 (h1.below hb1 (by omega)) (h2.below hb1 (by omega)) hx hy)
  have HB1 : Hid (Below w.heap.size w w1) := by rw [← hN] at hb1; exact hb1
  have p0 : w1.cell? ⟨N, 0, none⟩ = some (.int .i64 v1) := ha.cell rfl
  have p1 : w1.cell? ⟨N, 1, none⟩ = some (.int .u32 c1) := ha.cell rfl
  have p2 : w1.cell? ⟨N, 2, none⟩ = some (.slice a1 n1 d1) := ha.cell rfl
  have p3 : w1.cell? ⟨N, 3, none⟩ = some (.int .i64 s1) := ha.cell rfl
  have q0 : w1.cell? ⟨N + 1, 0, none⟩ = some (.int .i64 v2) := hb.cell rfl
  have q1 : w1.cell? ⟨N + 1, 1, none⟩ = some (.int .u32 c2) := hb.cell rfl
  have q2 : w1.cell? ⟨N + 1, 2, none⟩ = some (.slice a2 n2 d2) := hb.cell rfl
  have q3 : w1.cell? ⟨N + 1, 3, none⟩ = some (.int .i64 s2) := hb.cell rfl
  unfold sameF
  clear ha hb hb1 h1 h2 hn1 hn2
  by_cases e0 : v1 = v2
  · by_cases e1 : c1 = c2
    · by_cases e2 : xs = ys
      · rw [decide_eq_true e2] at HC
        by_cases e3 : s1 = s2
        · rw [decide_eq_true ⟨e0, e1, e2, e3⟩]
          have t0 : (v1 == v2) = true := by simp [e0]
          have t1 : (c1 == c2) = true := by simp [e1]
          have t3 : (s1 == s2) = true := by simp [e3]
          clear e0 e1 e2 e3
          go_enter Tryz.func31, Tryz.ntmps31
          go_wp2_with (go_at_call 29; refine HC.out.mono ?_; rintro e w3 ⟨rfl, n, hw3⟩; rw [hw3]; clear hw3)
          go_ret
          exact ⟨rfl, below_drN HB1.out _⟩
        · rw [decide_eq_false (fun h => e3 h.2.2.2)]
          have t0 : (v1 == v2) = true := by simp [e0]
          have t1 : (c1 == c2) = true := by simp [e1]
          have t3 := beq_false' e3
          clear e0 e1 e2 e3
          go_enter Tryz.func31, Tryz.ntmps31
          go_wp2_with (go_at_call 29; refine HC.out.mono ?_; rintro e w3 ⟨rfl, n, hw3⟩; rw [hw3]; clear hw3)
          go_ret
          exact ⟨rfl, below_drN HB1.out _⟩
      · rw [decide_eq_false e2] at HC
        rw [decide_eq_false (fun h => e2 h.2.2.1)]
        have t0 : (v1 == v2) = true := by simp [e0]
        have t1 : (c1 == c2) = true := by simp [e1]
        clear e0 e1 e2
        go_enter Tryz.func31, Tryz.ntmps31
        go_wp2_with (go_at_call 29; refine HC.out.mono ?_; rintro e w3 ⟨rfl, n, hw3⟩; rw [hw3]; clear hw3)
        go_ret
        exact ⟨rfl, below_drN HB1.out _⟩
    · rw [decide_eq_false (fun h => e1 h.2.1)]
      have t0 : (v1 == v2) = true := by simp [e0]
      have t1 := beq_false' e1
      clear e0 e1
      go_enter Tryz.func31, Tryz.ntmps31
      go_wp2_with fail
      go_ret
      exact ⟨rfl, HB1.out⟩
  · rw [decide_eq_false (fun h => e0 h.1)]
    have t0 := beq_false' e0
    clear e0
    go_enter Tryz.func31, Tryz.ntmps31
    go_wp2_with fail
    go_ret
    exact ⟨rfl, HB1.out⟩
set_option maxRecDepth 100000 in
set_option maxHeartbeats 2000000 in
theorem refSameM_any (v1 c1 s1 v2 c2 s2 : Int) (r1 r2 : Value) (xs ys : List Int) (w : World) (h1 : Rd w r1 (ints xs)) (h2 : Rd w r2 (ints ys)) (hx : xs.length ≤ 9223372036854775807) :
    Calls Tryz.prog 11 #[.agg #[.int .i64 v1, .int .u32 c1, r1, .int .i64 s1], .agg #[.int .i64 v2, .int .u32 c2, r2, .int .i64 s2]] w fun e w' => e = .returned (.bool (sameF v1 c1 s1 v2 c2 s2 xs ys)) ∧ Below w.heap.size w w' := by
  obtain ⟨a1, d1, rfl⟩ := h1.len
  obtain ⟨a2, d2, rfl⟩ := h2.len
  obtain ⟨n1, hn1⟩ : ∃ z, (ints xs).length = z := ⟨_, rfl⟩
  obtain ⟨n2, hn2⟩ : ∃ z, (ints ys).length = z := ⟨_, rfl⟩
  rw [hn1] at h1 ⊢
  rw [hn2] at h2 ⊢
  obtain ⟨N, hN⟩ : ∃ z, w.heap.size = z := ⟨_, rfl⟩
  obtain ⟨w1, hw1⟩ : ∃ z, (w.alloc (.cells #[.int .i64 v1, .int .u32 c1, .slice a1 n1 d1, .int .i64 s1] 26)).alloc (.cells #[.int .i64 v2, .int .u32 c2, .slice a2 n2 d2, .int .i64 s2] 26) = z := ⟨_, rfl⟩
  have ha : At w1 N #[.int .i64 v1, .int .u32 c1, .slice a1 n1 d1, .int .i64 s1] 26 := by
    rw [← hw1, ← hN]; exact (At.new w _ _).alloc _
  have hb : At w1 (N + 1) #[.int .i64 v2, .int .u32 c2, .slice a2 n2 d2, .int .i64 s2] 26 := by
    rw [← hw1, ← hN]
    have := At.new (w.alloc (.cells #[.int .i64 v1, .int .u32 c1, .slice a1 n1 d1, .int .i64 s1] 26)) #[.int .i64 v2, .int .u32 c2, .slice a2 n2 d2, .int .i64 s2] 26
    rwa [World.size_alloc] at this
  have hb1 : Below N w w1 := by
    rw [← hw1, ← hN]; exact ((Below.refl _ w).alloc (Nat.le_refl _) _).alloc (by simp) _
  have HC := Lib.hid (refIntsM_any (.slice a1 n1 d1) (.slice a2 n2 d2) xs ys w1 (h1.below hb1 (by omega)) (h2.below hb1 (by omega)) hx)
  have HB1 : Hid (Below w.heap.size w w1) := by rw [← hN] at hb1; exact hb1
  have p0 : w1.cell? ⟨N, 0, none⟩ = some (.int .i64 v1) := ha.cell rfl
  have p1 : w1.cell? ⟨N, 1, none⟩ = some (.int .u32 c1) := ha.cell rfl
  have p2 : w1.cell? ⟨N, 2, none⟩ = some (.slice a1 n1 d1) := ha.cell rfl
  have p3 : w1.cell? ⟨N, 3, none⟩ = some (.int .i64 s1) := ha.cell rfl
  have q0 : w1.cell? ⟨N + 1, 0, none⟩ = some (.int .i64 v2) := hb.cell rfl
  have q1 : w1.cell? ⟨N + 1, 1, none⟩ = some (.int .u32 c2) := hb.cell rfl
  have q2 : w1.cell? ⟨N + 1, 2, none⟩ = some (.slice a2 n2 d2) := hb.cell rfl
  have q3 : w1.cell? ⟨N + 1, 3, none⟩ = some (.int .i64 s2) := hb.cell rfl
  unfold sameF
  clear ha hb hb1 h1 h2 hn1 hn2
  by_cases e0 : v1 = v2
  · by_cases e1 : c1 = c2
    · by_cases e3 : s1 = s2
      · by_cases e2 : xs = ys
        · rw [decide_eq_true e2] at HC
          rw [decide_eq_true ⟨e0, e1, e2, e3⟩]
          have t0 : (v1 == v2) = true := by simp [e0]
          have t1 : (c1 == c2) = true := by simp [e1]
          have t3 : (s1 == s2) = true := by simp [e3]
          clear e0 e1 e2 e3
          go_enter Tryz.func11, Tryz.ntmps11
          go_wp2_with (go_at_call 23; refine HC.out.mono ?_; rintro e w3 ⟨rfl, n, hw3⟩; rw [hw3]; clear hw3)
          go_ret
          exact ⟨rfl, below_drN HB1.out _⟩
        · rw [decide_eq_false e2] at HC
          rw [decide_eq_false (fun h => e2 h.2.2.1)]
          have t0 : (v1 == v2) = true := by simp [e0]
          have t1 : (c1 == c2) = true := by simp [e1]
          have t3 : (s1 == s2) = true := by simp [e3]
          clear e0 e1 e2 e3
          go_enter Tryz.func11, Tryz.ntmps11
          go_wp2_with (go_at_call 23; refine HC.out.mono ?_; rintro e w3 ⟨rfl, n, hw3⟩; rw [hw3]; clear hw3)
          go_ret
          exact ⟨rfl, below_drN HB1.out _⟩
      · rw [decide_eq_false (fun h => e3 h.2.2.2)]
        have t0 : (v1 == v2) = true := by simp [e0]
        have t1 : (c1 == c2) = true := by simp [e1]
        have t3 := beq_false' e3
        clear e0 e1 e3
        go_enter Tryz.func11, Tryz.ntmps11
        go_wp2_with fail
        go_ret
        exact ⟨rfl, HB1.out⟩
    · rw [decide_eq_false (fun h => e1 h.2.1)]
      have t0 : (v1 == v2) = true := by simp [e0]
      have t1 := beq_false' e1
      clear e0 e1
      go_enter Tryz.func11, Tryz.ntmps11
      go_wp2_with fail
      go_ret
      exact ⟨rfl, HB1.out⟩
  · rw [decide_eq_false (fun h => e0 h.1)]
    have t0 := beq_false' e0
    clear e0
    go_enter Tryz.func11, Tryz.ntmps11
    go_wp2_with fail
    go_ret
    exact ⟨rfl, HB1.out⟩
theorem refSameS_any (v1 c1 s1 v2 c2 s2 : Int) (r1 r2 : Value) (xs ys : List Int) (w : World) (h1 : Rd w r1 (ints xs)) (h2 : Rd w r2 (ints ys)) (hx : xs.length ≤ 65536) :
    Calls Tryz.prog 11 #[.agg #[.int .i64 v1, .int .u32 c1, r1, .int .i64 s1], .agg #[.int .i64 v2, .int .u32 c2, r2, .int .i64 s2]] w fun e w' => e = .returned (.bool (sameF v1 c1 s1 v2 c2 s2 xs ys)) ∧ Below w.heap.size w w' := refSameM_any v1 c1 s1 v2 c2 s2 r1 r2 xs ys w h1 h2 (by omega)
end Go.Proofs.YtpjfhdljagkefaaGreatDoor
/- The walk of SerialRows. -/
namespace Go.Proofs.YtpjfhdljagkefaaGreatDoor.WPlain
end Go.Proofs.YtpjfhdljagkefaaGreatDoor.WPlain
namespace Go.Proofs.YtpjfhdljagkefaaGreatDoor.QPlain
end Go.Proofs.YtpjfhdljagkefaaGreatDoor.QPlain
namespace Go.Proofs.YtpjfhdljagkefaaGreatDoor.RPlain
end Go.Proofs.YtpjfhdljagkefaaGreatDoor.RPlain
namespace Go.Proofs.YtpjfhdljagkefaaGreatDoor
open Go.RowKit WPlain QPlain RPlain

theorem sameF_self (v c s : Int) (xs : List Int) : sameF v c s v c s xs xs = true := by unfold sameF; simp
theorem refSame_same (v c s : Nat) (R : List Nat) (r1 r2 : Value) (w : World) (h1 : Rd w r1 (nats R)) (h2 : Rd w r2 (nats R)) (hl : R.length ≤ 65536) :
    Calls Tryz.prog 11 #[.agg #[.int .i64 (v : Int), .int .u32 (c : Int), r1, .int .i64 (s : Int)], .agg #[.int .i64 (v : Int), .int .u32 (c : Int), r2, .int .i64 (s : Int)]] w fun e w' => e = .returned (.bool true) ∧ Below w.heap.size w w' := by
  have h := refSameS_any v c s v c s r1 r2 (R.map fun x : Nat => (x : Int)) (R.map fun x : Nat => (x : Int)) w (by rw [← nats_intsS]; exact h1) (by rw [← nats_intsS]; exact h2) (by rw [List.length_map]; exact hl)
  rw [sameF_self] at h
  exact h
end Go.Proofs.YtpjfhdljagkefaaGreatDoor
