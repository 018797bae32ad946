/- The walk of the reference's From. -/
import Derived.Test.YtoemcdcabamgiaaDoorMg21
import Derived.Test.YtoemcdcabamgiaaDoorSrlC
import Derived.Test.YtoemcdcabamgiaaDoorMg16
namespace Go.Proofs.YtoemcdcabamgiaaDoor.WPlain
end Go.Proofs.YtoemcdcabamgiaaDoor.WPlain
namespace Go.Proofs.YtoemcdcabamgiaaDoor.QPlain
end Go.Proofs.YtoemcdcabamgiaaDoor.QPlain
namespace Go.Proofs.YtoemcdcabamgiaaDoor.RPlain
end Go.Proofs.YtoemcdcabamgiaaDoor.RPlain
namespace Go.Proofs.YtoemcdcabamgiaaDoor
open Go.RowKit WPlain QPlain RPlain

/-- how the reference says what is found from a row on -/
def refX (c : Nat) (x : Nat × List Nat × Nat) (rv : Value) : Value := fndV x.1 (if x.1 = 0 then c else 0) rv x.2.2
set_option maxRecDepth 100000 in
set_option maxHeartbeats 8000000 in
theorem refFrom_any (h : List Ev) (h0 : (checkS h).2 = 0) (w0 : World) (lv : Value) (who c B : Nat) (hv : Txs w0 lv (tableS h)) (hw : who < 2 ^ (tableS h).length) (hc : c < 4294967296) (hBd : B ≤ 1000000) (hol : ∀ i, (opsAt (tableS h) i).length ≤ 60) :
    ∀ (f : Nat) (X : Nat → Prop) (row : List Nat) (s : Nat) (rv : Value) (w : World), (∀ k, X k → k < w.heap.size) → Below w0.heap.size w0 w → RdX X w rv (nats row) → SrcN rv → CapV rv → row.Nodup → (∀ k ∈ row, k < (tableS h).length) → s ≤ B → (leftS (tableS h) who row).length < f →
    Calls Tryd.prog 25 #[.agg (gC lv who c B), rv, .int .i64 (s : Int)] w fun e w' => ∃ rv', e = .returned (refX c (fromS B (tableS h) who c f row s) rv') ∧ RdX X w' rv' (nats (fromS B (tableS h) who c f row s).2.1) ∧ Below w.heap.size w w' := by
  intro f
  induction f with
  | zero => intro X row s rv w _ _ _ _ _ _ _ _ hf; omega
  | succ f ih =>
    intro X row s rv w hX hb hrx hsrc hcap hn hlt hs hf
    have h6 := table_six h0
    have hr := hrx.rd
    have HRX := Lib.hid hrx
    have HX := Lib.hid hX
    have hrl : row.length ≤ 6 := by
      have := nodup_le row (List.range (tableS h).length) hn (fun x hx => List.mem_range.2 (hlt x hx))
      rw [List.length_range] at this
      omega
    have hw32 : who < 4294967296 := by have := pow_le_64 h6; omega
    have hvw := hv.below hb (Nat.le_refl _)
    clear hrx hX
    obtain ⟨la, lc, rfl⟩ := hv.len
    obtain ⟨N, hN⟩ : ∃ N, w.heap.size = N := ⟨_, rfl⟩
    obtain ⟨w1, hw1⟩ : ∃ w1, (w.alloc (.cells #[.slice la (tableS h).length lc, .int .u32 (who : Int), .int .u32 (c : Int), .int .i64 (B : Int)] 63)).alloc (.cells #[.int .i64 0, .int .u32 0, .slice none 0 0, .int .i64 0] 26) = w1 := ⟨_, rfl⟩
    have hg1 : At w1 N (gC (.slice la (tableS h).length lc) who c B) 63 := by
      rw [← hw1, ← hN]
      exact (At.new w _ _).alloc _
    have hf1 : At w1 (N + 1) (fnd 0 0 (.slice none 0 0) 0) 26 := by
      rw [← hw1, ← hN]
      have := At.new (w.alloc (.cells #[.slice la (tableS h).length lc, .int .u32 (who : Int), .int .u32 (c : Int), .int .i64 (B : Int)] 63)) #[.int .i64 0, .int .u32 0, .slice none 0 0, .int .i64 0] 26
      rwa [World.size_alloc] at this
    have hb1 : Below N w w1 := by
      rw [← hw1, ← hN]
      exact ((Below.refl _ w).alloc (Nat.le_refl _) _).alloc (by simp) _
    have HV0 := Lib.hid hv
    have HG1 := Lib.hid hg1
    have HF1 := Lib.hid hf1
    have HB1 := Lib.hid hb1
    have HBW := Lib.hid hb
    have HR := Lib.hid hr
    have HN1 : Hid (N + 1 < w1.heap.size) := hf1.lt
    have HSR := Lib.hid hsrc
    have HCP := Lib.hid hcap
    have HN := Lib.hid hn
    have HLT := Lib.hid hlt
    have HLEFT := Lib.hid (refLeft_any (.slice la (tableS h).length lc) rv (tableS h) who c B row w1 (hvw.below hb1 (by omega)) h6 hw32 (hr.below hb1 (by omega)) (by omega))
    have g0 : w1.cell? ⟨N, 0, none⟩ = some (.slice la (tableS h).length lc) := hg1.cell rfl
    have g1 : w1.cell? ⟨N, 1, none⟩ = some (.int .u32 (who : Int)) := hg1.cell rfl
    have g2 : w1.cell? ⟨N, 2, none⟩ = some (.int .u32 (c : Int)) := hg1.cell rfl
    have g3 : w1.cell? ⟨N, 3, none⟩ = some (.int .i64 (B : Int)) := hg1.cell rfl
    unfold gC at HLEFT
    obtain ⟨ra, rc, rfl⟩ := hr.len
    rw [nats_len] at *
    rw [fromS]
    by_cases hl : leftS (tableS h) who row = []
    · rw [if_pos hl]
      rw [hl] at HLEFT
      unfold gC
      clear hv hvw hg1 hf1 hb1 hb hr hsrc hcap hn hlt ih hf hl
      go_enter Tryd.func25, Tryd.ntmps25
      go_wp2_with fail
      refine HLEFT.out.mono ?_
      rintro e w2 ⟨v2, rfl, ho2, hb2⟩
      obtain ⟨a2, c2, rfl⟩ := row_slice ho2
      have HBC := Lib.hid (HB1.out.trans (hb2.mono (by have := HB1.out.size; omega)))
      have HFC := Lib.hid (HF1.out.below hb2 HF1.out.lt)
      have k2 : w2.cell? ⟨N, 2, none⟩ = some (.int .u32 (c : Int)) := (HG1.out.below hb2 HG1.out.lt).cell rfl
      have z0 : w2.cell? ⟨N + 1, 0, none⟩ = some (.int .i64 0) := HFC.out.cell rfl
      have z1 : w2.cell? ⟨N + 1, 1, none⟩ = some (.int .u32 0) := HFC.out.cell rfl
      have z2 : w2.cell? ⟨N + 1, 2, none⟩ = some (.slice none 0 0) := HFC.out.cell rfl
      have z3 : w2.cell? ⟨N + 1, 3, none⟩ = some (.int .i64 0) := HFC.out.cell rfl
      have y0 : w2.frozen? ⟨N + 1, 0, none⟩ = false := HFC.out.free 0
      have y1 : w2.frozen? ⟨N + 1, 1, none⟩ = false := HFC.out.free 1
      have y2 : w2.frozen? ⟨N + 1, 2, none⟩ = false := HFC.out.free 2
      have y3 : w2.frozen? ⟨N + 1, 3, none⟩ = false := HFC.out.free 3
      clear ho2 hb2 g0 g1 g2 g3 HLEFT
      go_wp2_with fail
      have HZ : Hid (At ((((w2.setCell ⟨N + 1, 0, none⟩ (.int .i64 0)).setCell ⟨N + 1, 1, none⟩ (.int .u32 (c : Int))).setCell ⟨N + 1, 2, none⟩ (.slice ra row.length rc)).setCell ⟨N + 1, 3, none⟩ (.int .i64 (s : Int))) (N + 1) (fnd 0 c (.slice ra row.length rc) s) 26) := fnd_set (v' := 0) (c' := c) (s' := s) HFC.out
      have HO := Lib.hid (fnd_only w2 (N + 1) (.int .i64 0) (.int .u32 (c : Int)) (.slice ra row.length rc) (.int .i64 (s : Int)))
      generalize (((w2.setCell ⟨N + 1, 0, none⟩ (.int .i64 0)).setCell ⟨N + 1, 1, none⟩ (.int .u32 (c : Int))).setCell ⟨N + 1, 2, none⟩ (.slice ra row.length rc)).setCell ⟨N + 1, 3, none⟩ (.int .i64 (s : Int)) = w9 at *
      clear z0 z1 z2 z3 y0 y1 y2 y3
      have z0 : w9.cell? ⟨N + 1, 0, none⟩ = some (.int .i64 0) := HZ.out.cell rfl
      have z1 : w9.cell? ⟨N + 1, 1, none⟩ = some (.int .u32 (c : Int)) := HZ.out.cell rfl
      have z2 : w9.cell? ⟨N + 1, 2, none⟩ = some (.slice ra row.length rc) := HZ.out.cell rfl
      have z3 : w9.cell? ⟨N + 1, 3, none⟩ = some (.int .i64 (s : Int)) := HZ.out.cell rfl
      have HBF : Hid (Below N w w9) := HBC.out.trans (HO.out.below (by have := HBC.out.size; omega) (fun k _ hk => by omega))
      refine bodyPost_ret (v := fndV 0 c (.slice ra row.length rc) s) (by simp [results, Tryd.results25, go_sem, z0, z1, z2, z3]; rfl) rfl ?_
      exact ⟨_, rfl, HRX.out.below (by rw [hN]; exact HBF.out), by first | exact HBF.out | (rw [hN]; exact HBF.out)⟩
    · rw [if_neg hl]
      have hlp : 0 < (leftS (tableS h) who row).length := List.length_pos_iff.2 hl
      have hll := left_le (tableS h) who row
      have HIH := Lib.hid ih
      have HLL : Hid (∀ p, p ∈ leftS (tableS h) who row → (leftS (tableS h) who (row ++ [p])).length < f) := fun p hp => by have := left_len hp; omega
      have HMEM : Hid (∀ p, p ∈ leftS (tableS h) who row → p < (tableS h).length ∧ p ∉ row) := fun p hp => ⟨(left_mem.1 hp).1, (left_mem.1 hp).2.2⟩
      have HZR : Hid (loopS B (fromS B (tableS h) who c f) (tableS h) c (leftS (tableS h) who row) row ((leftS (tableS h) who row).drop 0) s = loopS B (fromS B (tableS h) who c f) (tableS h) c (leftS (tableS h) who row) row (leftS (tableS h) who row) s) := rfl
      have HANS := Lib.hid (fun (p s' : Nat) (hs' : s' ≤ B) (hp : (leftS (tableS h) who (row ++ [p])).length < f) => from_ans (B := B) (l := tableS h) (who := who) (c := c) f (row ++ [p]) s' hs' hp)
      obtain ⟨x0, hx0⟩ : ∃ x0, loopS B (fromS B (tableS h) who c f) (tableS h) c (leftS (tableS h) who row) row (leftS (tableS h) who row) s = x0 := ⟨_, rfl⟩
      rw [hx0] at HZR ⊢
      obtain ⟨lft, hlft⟩ : ∃ lft, leftS (tableS h) who row = lft := ⟨_, rfl⟩
      rw [hlft] at HLEFT HZR HLL HMEM hlp hll
      have HST : Hid (∀ j (hj : j < lft.length) s', loopS B (fromS B (tableS h) who c f) (tableS h) c lft row (lft.drop j) s' = if freeS (tableS h) lft lft[j] = false then loopS B (fromS B (tableS h) who c f) (tableS h) c lft row (lft.drop (j + 1)) s' else if s' = B then (2, [], s')
          else if okL (tableS h) c (row ++ [lft[j]]) = true then (if (fromS B (tableS h) who c f (row ++ [lft[j]]) (s' + 1)).1 = 1 then loopS B (fromS B (tableS h) who c f) (tableS h) c lft row (lft.drop (j + 1)) (fromS B (tableS h) who c f (row ++ [lft[j]]) (s' + 1)).2.2 else fromS B (tableS h) who c f (row ++ [lft[j]]) (s' + 1))
          else loopS B (fromS B (tableS h) who c f) (tableS h) c lft row (lft.drop (j + 1)) (s' + 1)) := fun j hj s' => by rw [List.drop_eq_getElem_cons hj, loopS]
      have HEND : Hid (∀ s', loopS B (fromS B (tableS h) who c f) (tableS h) c lft row (lft.drop lft.length) s' = (1, [], s')) := fun s' => by rw [List.drop_length]; rfl
      have HOL := Lib.hid hol
      have HC := Lib.hid hc
      unfold gC
      clear hv hvw hg1 hf1 hb1 hb hr hsrc hcap hn hlt ih hf hl hx0 hlft hol hc
      go_enter Tryd.func25, Tryd.ntmps25
      go_wp2_with fail
      refine HLEFT.out.mono ?_
      rintro e w2 ⟨v2, rfl, ho2, hb2⟩
      have HL2 := Lib.hid (Rd.of_row ho2)
      have hw12 := hb2.size
      obtain ⟨a2, c2, rfl⟩ := row_slice ho2
      have HB2 := Lib.hid (HB1.out.trans (hb2.mono (by have := HB1.out.size; omega)))
      have HF2 := Lib.hid (HF1.out.below hb2 HF1.out.lt)
      have HG2 := Lib.hid (HG1.out.below hb2 HG1.out.lt)
      have tl : ((lft.length : Int) == 0) = false := by rw [beq_eq_false_iff_ne]; omega
      clear ho2 hb2 g0 g1 g2 g3 HLEFT hw1 HG1 HF1
      go_wp2_with fail
      go_loopw [2, 25] (fun y x wr => ∃ j s' : Nat, j ≤ lft.length ∧ x = .int .i64 j ∧ y = .int .i64 s' ∧ s' ≤ B ∧ Hid (loopS B (fromS B (tableS h) who c f) (tableS h) c lft row (lft.drop j) s' = x0) ∧ Hid (Below w2.heap.size w2 wr)) (fun _ x _ => lft.length - (intOf x).toNat)
      case atStart => exact ⟨0, s, by omega, rfl, rfl, hs, HZR, Below.refl _ _⟩
      case round =>
        clear HZR
        obtain ⟨j, s', hj, rfl, rfl, hs', HT, HBR⟩ := hrel
        have hbs := HBR.out.size
        have HBC := Lib.hid (HB2.out.trans (HBR.out.mono (by have := HB2.out.size; omega)))
        have HFC := Lib.hid (HF2.out.below HBR.out HF2.out.lt)
        have HGC := Lib.hid (HG2.out.below HBR.out HG2.out.lt)
        by_cases hlj : j < lft.length
        · obtain ⟨b, o, pc, he, hbl, hcs⟩ := (HL2.out.below HBR.out (Nat.le_refl _)).opened (by rw [nats_len]; omega)
          rw [nats_len] at he
          simp only [Value.slice.injEq] at he
          obtain ⟨rfl, -, rfl⟩ := he
          have hcj : wr.cell? ⟨b, o + j, none⟩ = some (.int .i64 (lft[j] : Int)) := hcs j _ (nats_get hlj)
          have hjm := List.getElem_mem hlj
          obtain ⟨hjl, hjr⟩ := HMEM.out _ hjm
          have hjf := HLL.out _ hjm
          have HFREE := Lib.hid (refFree_any (.slice la (tableS h).length lc) (.slice (some ⟨b, o, none⟩) lft.length c2) (tableS h) who c B lft lft[j] wr (HV0.out.below (HBW.out.trans (HBC.out.mono (by have := HBW.out.size; omega))) (Nat.le_refl _)) h6 (HL2.out.below HBR.out (Nat.le_refl _)) (fun i hi => (HMEM.out i hi).1) hjl (by omega))
          have HT2 := Lib.hid ((HST.out j hlj s').symm.trans HT.out)
          have g0 : wr.cell? ⟨N, 0, none⟩ = some (.slice la (tableS h).length lc) := HGC.out.cell rfl
          have g1 : wr.cell? ⟨N, 1, none⟩ = some (.int .u32 (who : Int)) := HGC.out.cell rfl
          have g2 : wr.cell? ⟨N, 2, none⟩ = some (.int .u32 (c : Int)) := HGC.out.cell rfl
          have g3 : wr.cell? ⟨N, 3, none⟩ = some (.int .i64 (B : Int)) := HGC.out.cell rfl
          unfold gC at HFREE
          clear hcs hbl hjm HT
          generalize lft[j] = p at *
          cases hfr : freeS (tableS h) lft p with
          | false =>
            rw [hfr] at HFREE
            have HT3 := HT2.out
            rw [hfr, if_pos rfl] at HT3
            have HT4 := Lib.hid HT3
            clear HT2 HT3 hfr
            go_wp2_with fail
            refine HFREE.out.mono ?_
            rintro e w3 ⟨rfl, hb3⟩
            have HB3 := Lib.hid (HBR.out.trans (hb3.mono hbs))
            clear hb3 HFREE
            go_wp2_with fail
            go_roundw
            case rel => exact ⟨j + 1, s', by omega, by go_num, rfl, hs', HT4, HB3⟩
            case measure => simp [intOf]; omega
          | true =>
            rw [hfr] at HFREE
            have HT3 := HT2.out
            rw [hfr, if_neg (by decide)] at HT3
            by_cases hsB : s' = B
            · rw [if_pos hsB] at HT3
              subst hsB
              subst HT3
              clear HT2 hfr
              go_wp2_with fail
              refine HFREE.out.mono ?_
              rintro e w3 ⟨rfl, hb3⟩
              have k3 := cell_on hb3 g3
              have HBC3 := Lib.hid (HBC.out.trans (hb3.mono (by have := HBC.out.size; omega)))
              have HFC3 := Lib.hid (HFC.out.below hb3 HFC.out.lt)
              clear hb3 HFREE g0 g1 g2 g3 HBC HFC
              have HBC := HBC3
              have HFC := HFC3
              have z0 : w3.cell? ⟨N + 1, 0, none⟩ = some (.int .i64 0) := HFC.out.cell rfl
              have z1 : w3.cell? ⟨N + 1, 1, none⟩ = some (.int .u32 0) := HFC.out.cell rfl
              have z2 : w3.cell? ⟨N + 1, 2, none⟩ = some (.slice none 0 0) := HFC.out.cell rfl
              have z3 : w3.cell? ⟨N + 1, 3, none⟩ = some (.int .i64 0) := HFC.out.cell rfl
              have y0 : w3.frozen? ⟨N + 1, 0, none⟩ = false := HFC.out.free 0
              have y1 : w3.frozen? ⟨N + 1, 1, none⟩ = false := HFC.out.free 1
              have y2 : w3.frozen? ⟨N + 1, 2, none⟩ = false := HFC.out.free 2
              have y3 : w3.frozen? ⟨N + 1, 3, none⟩ = false := HFC.out.free 3
              go_wp2_with fail
              have HZ : Hid (At ((((w3.setCell ⟨N + 1, 0, none⟩ (.int .i64 2)).setCell ⟨N + 1, 1, none⟩ (.int .u32 0)).setCell ⟨N + 1, 2, none⟩ (.slice none 0 0)).setCell ⟨N + 1, 3, none⟩ (.int .i64 (s' : Int))) (N + 1) (fnd 2 0 (.slice none 0 0) s') 26) := fnd_set (v' := 2) (c' := 0) (s' := s') HFC.out
              have HO := Lib.hid (fnd_only w3 (N + 1) (.int .i64 2) (.int .u32 0) (.slice none 0 0) (.int .i64 (s' : Int)))
              generalize (((w3.setCell ⟨N + 1, 0, none⟩ (.int .i64 2)).setCell ⟨N + 1, 1, none⟩ (.int .u32 0)).setCell ⟨N + 1, 2, none⟩ (.slice none 0 0)).setCell ⟨N + 1, 3, none⟩ (.int .i64 (s' : Int)) = w9 at *
              clear z0 z1 z2 z3 y0 y1 y2 y3
              have z0 : w9.cell? ⟨N + 1, 0, none⟩ = some (.int .i64 2) := HZ.out.cell rfl
              have z1 : w9.cell? ⟨N + 1, 1, none⟩ = some (.int .u32 0) := HZ.out.cell rfl
              have z2 : w9.cell? ⟨N + 1, 2, none⟩ = some (.slice none 0 0) := HZ.out.cell rfl
              have z3 : w9.cell? ⟨N + 1, 3, none⟩ = some (.int .i64 (s' : Int)) := HZ.out.cell rfl
              have HBF : Hid (Below N w w9) := HBC.out.trans (HO.out.below (by have := HBC.out.size; omega) (fun k _ hk => by omega))
              refine bodyPost_ret (v := fndV 2 0 (.slice none 0 0) s') (by simp [results, Tryd.results25, go_sem, z0, z1, z2, z3]; rfl) rfl ?_
              exact ⟨_, rfl, .inl ⟨rfl, _, _, rfl⟩, by first | exact HBF.out | (rw [hN]; exact HBF.out)⟩
            · rw [if_neg hsB] at HT3
              have HT4 := Lib.hid HT3
              have hsB2 : s' < B := by omega
              have tB : ((s' : Int) == (B : Int)) = false := by rw [beq_eq_false_iff_ne]; omega
              clear HT2 HT3 hfr hsB
              go_wp2_with fail
              refine HFREE.out.mono ?_
              rintro e w3 ⟨rfl, hb3⟩
              have k0 := cell_on hb3 g0
              have k1 := cell_on hb3 g1
              have k2 := cell_on hb3 g2
              have k3 := cell_on hb3 g3
              have HB3 := Lib.hid (HBR.out.trans (hb3.mono hbs))
              have HBC3 := Lib.hid (HBC.out.trans (hb3.mono (by have := HBC.out.size; omega)))
              have HWITH := Lib.hid (refWithS_any (.slice ra row.length rc) row p w3 (HR.out.below HBC3.out (by omega)) HSR.out (by omega))
              clear hb3 HFREE g0 g1 g2 g3
              go_wp2_with fail
              refine HWITH.out.mono ?_
              rintro e w4 ⟨v4, rfl, ho4, hs4, hb4⟩
              obtain ⟨n4, hn4⟩ : ∃ n4, (row ++ [p]).length = n4 := ⟨_, rfl⟩
              have hn4' : row.length + 1 = n4 := by rw [← hn4]; simp
              rw [hn4'] at ho4
              obtain ⟨a4, c4, rfl⟩ := row_slice ho4
              have HR4 := Lib.hid (RdX.of_row (X := fun k => k < w1.heap.size) ho4 (fun k hk => by have := HB3.out.size; have := hw12; omega))
              have HC4 := Lib.hid (CapV.of_row ho4)
              have HS4 := Lib.hid hs4
              have HB4 := Lib.hid (HB3.out.trans (hb4.mono HB3.out.size))
              have HBC4 := Lib.hid (HBC3.out.trans (hb4.mono (by have := HBC3.out.size; omega)))
              have x0' := cell_on hb4 k0
              have x1 := cell_on hb4 k1
              have x2 := cell_on hb4 k2
              have x3 := cell_on hb4 k3
              have HN4 : Hid (row ++ [p]).Nodup := List.nodup_append.2 ⟨HN.out, by simp, fun x hx y hy => by
                rw [List.mem_singleton] at hy
                subst hy
                rintro rfl
                exact hjr hx⟩
              have HLT4 : Hid (∀ k ∈ row ++ [p], k < (tableS h).length) := fun k hk => by
                rcases List.mem_append.1 hk with hk | hk
                · exact HLT.out k hk
                · rw [List.mem_singleton] at hk; omega
              have HLEG := Lib.hid (refLegal_any (.slice la (tableS h).length lc) (.slice a4 n4 c4) (tableS h) (row ++ [p]) c w4 (HV0.out.below (HBW.out.trans (HBC4.out.mono (by have := HBW.out.size; omega))) (Nat.le_refl _)) (by rw [← nats_intsS]; exact HR4.out.rd) HC4.out HLT4.out h6 HOL.out (by omega) HC.out)
              have hokd : (((legalS (tableS h) c (row ++ [p]) : Nat) : Int) == (n4 : Int)) = okL (tableS h) c (row ++ [p]) := by
                unfold okL
                rw [hn4, Bool.eq_iff_iff, beq_iff_eq, decide_eq_true_eq]
                omega
              clear ho4 hs4 hb4 hn4 HWITH k0 k1 k2 k3
              generalize legalS (tableS h) c (row ++ [p]) = lg at *
              cases hok : okL (tableS h) c (row ++ [p]) with
              | false =>
                rw [hok] at hokd
                have HT5 := HT4.out
                rw [hok, if_neg (by decide)] at HT5
                have HT6 := Lib.hid HT5
                clear HT5 HT4 hok
                go_wp2_with fail
                refine HLEG.out.mono ?_
                rintro e w5 ⟨rfl, hb5⟩
                have HB5 := Lib.hid (HB4.out.trans (hb5.mono HB4.out.size))
                clear hb5 HLEG
                go_wp2_with fail
                go_roundw
                case rel => exact ⟨j + 1, s' + 1, by omega, by go_num, by go_num, by omega, HT6, HB5⟩
                case measure => simp [intOf]; omega
              | true =>
                rw [hok] at hokd
                have HT5 := HT4.out
                rw [hok, if_pos rfl] at HT5
                have HT6 := Lib.hid HT5
                clear HT5 HT4 hok
                go_wp2_with fail
                refine HLEG.out.mono ?_
                rintro e w5 ⟨rfl, hb5⟩
                have HB5 := Lib.hid (HB4.out.trans (hb5.mono HB4.out.size))
                have HBC5 := Lib.hid (HBC4.out.trans (hb5.mono (by have := HBC4.out.size; omega)))
                have t0 := cell_on hb5 x0'
                have t1 := cell_on hb5 x1
                have t2 := cell_on hb5 x2
                have t3 := cell_on hb5 x3
                have HREC := Lib.hid (HIH.out (fun k => k < w1.heap.size) (row ++ [p]) (s' + 1) (.slice a4 n4 c4) w5 (fun k hk => by have := HB2.out.size; have := hw12; have := HB5.out.size; omega) (HBW.out.trans (HBC5.out.mono (by have := HBW.out.size; omega))) (HR4.out.below hb5) HS4.out HC4.out HN4.out HLT4.out (by omega) hjf)
                have HAN := Lib.hid (HANS.out p (s' + 1) (by omega) hjf)
                obtain ⟨x, hx⟩ : ∃ x, fromS B (tableS h) who c f (row ++ [p]) (s' + 1) = x := ⟨_, rfl⟩
                rw [hx] at HREC HAN HT6
                clear hb5 HLEG hx x0' x1 x2 x3
                unfold gC refX fndV at HREC
                obtain ⟨cc, hcc⟩ : ∃ cc, (if x.1 = 0 then c else 0) = cc := ⟨_, rfl⟩
                have HCC := Lib.hid hcc
                rw [hcc] at HREC
                clear hcc
                have hs1 : ((s' + 1 : Nat) : Int) = (s' : Int) + 1 := by omega
                rw [hs1] at HREC
                clear hs1
                go_wp2_with fail
                refine HREC.out.mono ?_
                rintro e w6 ⟨rv6, rfl, hr6, hb6⟩
                obtain ⟨a6, c6, rfl⟩ := hr6.rd.len
                obtain ⟨n6, hn6⟩ : ∃ z, (nats x.2.1).length = z := ⟨_, rfl⟩
                rw [hn6] at hr6 ⊢
                clear hn6
                obtain ⟨N7, hN7⟩ : ∃ z, w6.heap.size = z := ⟨_, rfl⟩
                obtain ⟨w7, hw7⟩ : ∃ z, w6.alloc (.cells #[.int .i64 (x.1 : Int), .int .u32 (cc : Int), .slice a6 n6 c6, .int .i64 (x.2.2 : Int)] 26) = z := ⟨_, rfl⟩
                have ha7 : At w7 N7 #[.int .i64 (x.1 : Int), .int .u32 (cc : Int), .slice a6 n6 c6, .int .i64 (x.2.2 : Int)] 26 := by
                  rw [← hw7, ← hN7]; exact At.new w6 _ _
                have hb67 : Below w6.heap.size w6 w7 := by rw [← hw7]; exact (Below.refl _ w6).alloc (Nat.le_refl _) _
                have hb57 := hb6.trans (hb67.mono hb6.size)
                have HB7 := Lib.hid (HB5.out.trans (hb57.mono HB5.out.size))
                have HBC7 := Lib.hid (HBC5.out.trans (hb57.mono (by have := HBC5.out.size; omega)))
                have HR7 := Lib.hid (hr6.below hb67)
                have q0 : w7.cell? ⟨N7, 0, none⟩ = some (.int .i64 (x.1 : Int)) := ha7.cell rfl
                have q1 : w7.cell? ⟨N7, 1, none⟩ = some (.int .u32 (cc : Int)) := ha7.cell rfl
                have q2 : w7.cell? ⟨N7, 2, none⟩ = some (.slice a6 n6 c6) := ha7.cell rfl
                have q3 : w7.cell? ⟨N7, 3, none⟩ = some (.int .i64 (x.2.2 : Int)) := ha7.cell rfl
                have HNW : Hid (N + 1 < w6.heap.size) := by
                  have := HF2.out.lt
                  have := HB5.out.size
                  have := hb6.size
                  show _ < _
                  omega
                clear t0 t1 t2 t3 ha7 hb67 hb57 hr6 hb6
                have hle := HAN.out.le
                by_cases hx1 : x.1 = 1
                · have tx : ((x.1 : Int) != 1) = false := by rw [hx1]; rfl
                  have HT7 := HT6.out
                  rw [if_pos hx1] at HT7
                  have HT8 := Lib.hid HT7
                  clear HT6 HT7 hx1
                  go_wp2_with fail
                  go_roundw
                  case rel => exact ⟨j + 1, x.2.2, by omega, by go_num, rfl, hle, HT8, HB7⟩
                  case measure => simp [intOf]; omega
                · have tx : ((x.1 : Int) != 1) = true := by simp; omega
                  have HT7 := HT6.out
                  rw [if_neg hx1] at HT7
                  subst HT7
                  have HFC7 := Lib.hid (HF2.out.below HB7.out HF2.out.lt)
                  clear HT6 hx1 HBC HFC
                  have HBC := HBC7
                  have HFC := HFC7
                  have z0 : w7.cell? ⟨N + 1, 0, none⟩ = some (.int .i64 0) := HFC.out.cell rfl
                  have z1 : w7.cell? ⟨N + 1, 1, none⟩ = some (.int .u32 0) := HFC.out.cell rfl
                  have z2 : w7.cell? ⟨N + 1, 2, none⟩ = some (.slice none 0 0) := HFC.out.cell rfl
                  have z3 : w7.cell? ⟨N + 1, 3, none⟩ = some (.int .i64 0) := HFC.out.cell rfl
                  have y0 : w7.frozen? ⟨N + 1, 0, none⟩ = false := HFC.out.free 0
                  have y1 : w7.frozen? ⟨N + 1, 1, none⟩ = false := HFC.out.free 1
                  have y2 : w7.frozen? ⟨N + 1, 2, none⟩ = false := HFC.out.free 2
                  have y3 : w7.frozen? ⟨N + 1, 3, none⟩ = false := HFC.out.free 3
                  go_wp2_with fail
                  have HZ : Hid (At ((((w7.setCell ⟨N + 1, 0, none⟩ (.int .i64 (x.1 : Int))).setCell ⟨N + 1, 1, none⟩ (.int .u32 (cc : Int))).setCell ⟨N + 1, 2, none⟩ (.slice a6 n6 c6)).setCell ⟨N + 1, 3, none⟩ (.int .i64 (x.2.2 : Int))) (N + 1) (fnd x.1 cc (.slice a6 n6 c6) x.2.2) 26) := fnd_set (v' := x.1) (c' := cc) (s' := x.2.2) HFC.out
                  have HO := Lib.hid (fnd_only w7 (N + 1) (.int .i64 (x.1 : Int)) (.int .u32 (cc : Int)) (.slice a6 n6 c6) (.int .i64 (x.2.2 : Int)))
                  generalize (((w7.setCell ⟨N + 1, 0, none⟩ (.int .i64 (x.1 : Int))).setCell ⟨N + 1, 1, none⟩ (.int .u32 (cc : Int))).setCell ⟨N + 1, 2, none⟩ (.slice a6 n6 c6)).setCell ⟨N + 1, 3, none⟩ (.int .i64 (x.2.2 : Int)) = w9 at *
                  clear z0 z1 z2 z3 y0 y1 y2 y3
                  have z0 : w9.cell? ⟨N + 1, 0, none⟩ = some (.int .i64 (x.1 : Int)) := HZ.out.cell rfl
                  have z1 : w9.cell? ⟨N + 1, 1, none⟩ = some (.int .u32 (cc : Int)) := HZ.out.cell rfl
                  have z2 : w9.cell? ⟨N + 1, 2, none⟩ = some (.slice a6 n6 c6) := HZ.out.cell rfl
                  have z3 : w9.cell? ⟨N + 1, 3, none⟩ = some (.int .i64 (x.2.2 : Int)) := HZ.out.cell rfl
                  have HBF : Hid (Below N w w9) := HBC.out.trans (HO.out.below (by have := HBC.out.size; omega) (fun k _ hk => by omega))
                  refine bodyPost_ret (v := fndV x.1 cc (.slice a6 n6 c6) x.2.2) (by simp [results, Tryd.results25, go_sem, z0, z1, z2, z3]; rfl) rfl ?_
                  exact ⟨.slice a6 n6 c6, by unfold refX; rw [HCC.out], ((HR7.out.only HO.out (fun k hk => by rw [hk]; exact HN1.out)).less (Y := X) (fun k hk => by have := HX.out k hk; have := HB1.out.size; omega)), by first | exact HBF.out | (rw [hN]; exact HBF.out)⟩
        · obtain rfl : j = lft.length := by omega
          have HT2 := HT.out
          rw [HEND.out] at HT2
          subst HT2
          clear HT
          have z0 : wr.cell? ⟨N + 1, 0, none⟩ = some (.int .i64 0) := HFC.out.cell rfl
          have z1 : wr.cell? ⟨N + 1, 1, none⟩ = some (.int .u32 0) := HFC.out.cell rfl
          have z2 : wr.cell? ⟨N + 1, 2, none⟩ = some (.slice none 0 0) := HFC.out.cell rfl
          have z3 : wr.cell? ⟨N + 1, 3, none⟩ = some (.int .i64 0) := HFC.out.cell rfl
          have y0 : wr.frozen? ⟨N + 1, 0, none⟩ = false := HFC.out.free 0
          have y1 : wr.frozen? ⟨N + 1, 1, none⟩ = false := HFC.out.free 1
          have y2 : wr.frozen? ⟨N + 1, 2, none⟩ = false := HFC.out.free 2
          have y3 : wr.frozen? ⟨N + 1, 3, none⟩ = false := HFC.out.free 3
          go_wp2_with fail
          have HZ : Hid (At ((((wr.setCell ⟨N + 1, 0, none⟩ (.int .i64 1)).setCell ⟨N + 1, 1, none⟩ (.int .u32 0)).setCell ⟨N + 1, 2, none⟩ (.slice none 0 0)).setCell ⟨N + 1, 3, none⟩ (.int .i64 (s' : Int))) (N + 1) (fnd 1 0 (.slice none 0 0) s') 26) := fnd_set (v' := 1) (c' := 0) (s' := s') HFC.out
          have HO := Lib.hid (fnd_only wr (N + 1) (.int .i64 1) (.int .u32 0) (.slice none 0 0) (.int .i64 (s' : Int)))
          generalize (((wr.setCell ⟨N + 1, 0, none⟩ (.int .i64 1)).setCell ⟨N + 1, 1, none⟩ (.int .u32 0)).setCell ⟨N + 1, 2, none⟩ (.slice none 0 0)).setCell ⟨N + 1, 3, none⟩ (.int .i64 (s' : Int)) = w9 at *
          clear z0 z1 z2 z3 y0 y1 y2 y3
          have z0 : w9.cell? ⟨N + 1, 0, none⟩ = some (.int .i64 1) := HZ.out.cell rfl
          have z1 : w9.cell? ⟨N + 1, 1, none⟩ = some (.int .u32 0) := HZ.out.cell rfl
          have z2 : w9.cell? ⟨N + 1, 2, none⟩ = some (.slice none 0 0) := HZ.out.cell rfl
          have z3 : w9.cell? ⟨N + 1, 3, none⟩ = some (.int .i64 (s' : Int)) := HZ.out.cell rfl
          have HBF : Hid (Below N w w9) := HBC.out.trans (HO.out.below (by have := HBC.out.size; omega) (fun k _ hk => by omega))
          refine bodyPost_ret (v := fndV 1 0 (.slice none 0 0) s') (by simp [results, Tryd.results25, go_sem, z0, z1, z2, z3]; rfl) rfl ?_
          exact ⟨_, rfl, .inl ⟨rfl, _, _, rfl⟩, by first | exact HBF.out | (rw [hN]; exact HBF.out)⟩
end Go.Proofs.YtoemcdcabamgiaaDoor
