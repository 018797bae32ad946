/- The walk of package unique's Sources. -/
import Derived.Test.YtkliahdgciajjaaDoorUnqF
namespace Go.Proofs.YtkliahdgciajjaaDoor.WPlain
end Go.Proofs.YtkliahdgciajjaaDoor.WPlain
namespace Go.Proofs.YtkliahdgciajjaaDoor.QPlain
end Go.Proofs.YtkliahdgciajjaaDoor.QPlain
namespace Go.Proofs.YtkliahdgciajjaaDoor.RPlain
end Go.Proofs.YtkliahdgciajjaaDoor.RPlain
namespace Go.Proofs.YtkliahdgciajjaaDoor
open Go.RowKit WPlain QPlain RPlain

theorem errU_zero {h : List Ev} (h0 : errU h = 0) : (checkS h).2 = 0 ∧ uniqueS (tableS h) = true := by
  unfold errU at h0
  split at h0
  · rename_i h1
    refine ⟨h1, ?_⟩
    split at h0
    · assumption
    · cases h0
  · rename_i h1
    exact absurd h0 h1
theorem own_lessU {w : World} {B B' : Nat} {e : TypeId} {s : Nat} {v : Value} {n : Nat} {xs : List Value} (h : w.ownsRow B e s v n xs) (hB : B' ≤ B) : w.ownsRow B' e s v n xs := by
  refine ⟨h.1, ?_⟩
  rcases h.2 with h0 | ⟨g, cap, cur, h1, h2, h3⟩
  · exact .inl h0
  · exact .inr ⟨g, cap, cur, h1, Nat.le_trans hB h2, h3⟩
theorem RowsI.less {B B' : Nat} {w : World} {vs : List Value} {rows : List (List Int)} (h : RowsI B w vs rows) (hB : B' ≤ B) : RowsI B' w vs rows := ⟨h.1, fun i hi hi' => own_lessU (h.2 i hi hi') hB⟩
theorem Rows2.of_row {w : World} {B B2 : Nat} {e : TypeId} {v : Value} {n : Nat} {vs : List Value} {rows : List (List Int)} (h : w.ownsRow B e 1 v n vs) (hr : RowsI B2 w vs rows) : Rows2 w v rows := ⟨vs, Rd.of_row h, hr.less (Nat.zero_le _)⟩
theorem RowsI.joined {B B2 : Nat} {w w' : World} {vs : List Value} {rows : List (List Int)} {z v : Value} {n : Nat} {r : List Int} (h : RowsI B w vs rows) (hv : w.ownsRow B 3 1 v r.length (ints r)) (hz : w.ownsRow B2 34 1 z n vs) (hg : w.grownBy w' z.ownBlock) : RowsI B w' (vs ++ [v]) (rows ++ [r]) :=
  (h.grown hz hg).snoc (hv.kept hg (row_apart hv hz (by decide)))
set_option maxRecDepth 100000 in
set_option maxHeartbeats 4000000 in
theorem sourcesU_any (v : Value) (h : List Ev) (w : World) (hK : HasK w) (hv : Evs w v h) (hl : h.length ≤ 65536) :
    Calls Tryd.prog 6 #[v] w fun e w' => ∃ v', e = .returned (.tuple #[v', .int .i64 (errU h : Nat)]) ∧ Rows2 w' v' (if errU h = 0 then sourcesS (tableS h) else []) ∧ Below w.heap.size w w' := by
  have HT := Lib.hid (writersOf_any v h w hK hv hl)
  obtain ⟨a, c, rfl⟩ := hv.len
  clear hv hK
  unfold ToldW at HT
  by_cases h0 : errU h = 0
  · have HF := Lib.hid (fine_table (errU_zero h0).1)
    rw [h0] at HT ⊢
    rw [if_pos rfl]
    clear h0
    generalize tableS h = l at *
    have hl6 := HF.out.six
    have HALL : Hid (allR l l.length = sourcesS l) := allR_all l
    obtain ⟨i0, hi0, hz0, hz1, hz2⟩ := info_parts infoSl
    go_enter Tryd.func6, Tryd.ntmps6
    go_wp2_with fail
    refine HT.out.mono ?_
    rintro e w1 ⟨v1, m1, rfl, htl, hb1⟩
    obtain ⟨hv1, M, k0, S, rfl, hm1, hts⟩ := htl (by trivial)
    have HV1 := Lib.hid hv1
    have HM1 := Lib.hid hm1
    have HB1 := Lib.hid hb1
    have HAS := Lib.hid (fun (k : Nat) (hk : k < l.length) => allR_snoc hts hk)
    have HW0 : Hid (∃ vs, w1.ownsRow w1.heap.size 34 1 (.slice none 0 0) 0 vs ∧ RowsI w1.heap.size w1 vs (allR l 0)) := ⟨[], World.ownsRow_nil _ _ _ _, RowsI.nil _ _⟩
    have HB0 := Lib.hid (Below.refl w1.heap.size w1)
    obtain ⟨a1, c1, rfl⟩ := hv1.len
    clear hv1 hm1 hb1 hts htl HT
    go_wp2_with fail
    go_loopw [7, 21] (fun z x wr => ∃ k : Nat, k ≤ l.length ∧ x = .int .i64 k ∧ Hid (∃ vs, wr.ownsRow w1.heap.size 34 1 z k vs ∧ RowsI w1.heap.size wr vs (allR l k)) ∧ Hid (Below w1.heap.size w1 wr)) (fun _ x _ => l.length - (intOf x).toNat)
    case atStart => exact ⟨0, by omega, rfl, HW0, HB0⟩
    case round =>
      clear HW0 HB0
      obtain ⟨k, hkl, rfl, HW, HB⟩ := hrel
      by_cases hlt : k < l.length
      · have hv2 := HV1.out.below HB.out (Nat.le_refl _)
        obtain ⟨b, o, c', he⟩ := hv2.opened (by omega)
        simp only [Value.slice.injEq] at he
        obtain ⟨rfl, -, rfl⟩ := he
        obtain ⟨u, x0, x1, x2, x3, x4, q⟩ := hv2.get k hlt
        have hbl := cell_lt x0
        have hfx := HF.out.ops _ (List.getElem_mem hlt)
        have hsn := HAS.out k hlt
        have hm2 := HM1.out.below HB.out
        clear hv2
        generalize l[k] = X at *
        obtain ⟨Xn, Xf, Xl, Xs, Xo⟩ := X
        dsimp only at *
        have hba : Below wr.heap.size wr (wr.alloc (.cells #[.int .i64 Xn, .int .i64 Xf, .int .i64 Xl, .int .i64 Xs, u] 42)) := (Below.refl _ wr).alloc (Nat.le_refl _) _
        have HSO := Lib.hid (sourcesOf_any k M k0 u Xo S _ (hm2.below hba) (q.below hba (Nat.le_refl _)) hfx.2 hfx.1)
        have HSN := Lib.hid hsn
        obtain ⟨vs, hvs, hrs⟩ := HW.out
        have HVS := Lib.hid (row_belowT hvs hba)
        have HRS := Lib.hid (hrs.below hba)
        have HB2 := Lib.hid (HB.out.trans (hba.mono HB.out.size))
        have hrl : (srcRow S k Xo Xo.length).length = Xo.length := srcRow_len _ _ _ _
        generalize srcRow S k Xo Xo.length = r at *
        obtain ⟨ua, uc, rfl, huc⟩ := q.len
        obtain ⟨qn, hqn⟩ : ∃ qn, Xo.length = qn := ⟨_, rfl⟩
        rw [hqn] at HSO huc x4 hrl HVS HRS HB2
        obtain ⟨za, zc, hz⟩ := row_slice hvs
        subst hz
        have HRL := Lib.hid hrl
        clear hqn q hfx hba hsn hm2 hvs hrs HB HW hrl
        go_wp2_with fail
        refine HSO.out.mono ?_
        rintro e w3 ⟨v3, rfl, ho3, hb3⟩
        have HB3 := Lib.hid (HB2.out.trans (hb3.mono HB2.out.size))
        have HVS3 := Lib.hid (row_belowT HVS.out hb3)
        have HRS3 := Lib.hid (HRS.out.below hb3)
        have ho4 := own_lessU ho3 HB2.out.size
        obtain ⟨va, vc, hz⟩ := row_slice ho3
        subst hz
        have HO4 := Lib.hid (ho4.alloc (.cells #[.slice va qn vc] 34))
        have HVS4 := Lib.hid (HVS3.out.alloc (.cells #[.slice va qn vc] 34))
        have hba4 : Below w3.heap.size w3 (w3.alloc (.cells #[.slice va qn vc] 34)) := (Below.refl _ w3).alloc (Nat.le_refl _) _
        have HRS4 := Lib.hid (HRS3.out.below hba4)
        have HB4 := Lib.hid (HB3.out.trans (hba4.mono HB3.out.size))
        clear ho3 hb3 ho4 hba4 HB3 HVS3 HRS3 HVS HRS HB2 HSO x0 x1 x2 x3 x4
        go_wp2_with (at_builtin; refine wpList_append_own _ rfl _ _ 25 rfl w1.heap.size 34 i0 (.slice none 0 0) 1 24 Tryd.underlying25 hi0 hz0 hz1 hz2 rfl (by decide) (.slice za k zc) k vs rfl HVS4.out ⟨w3.heap.size, 0, none⟩ 1 1 [.slice va qn vc] rfl rfl (cell_slice_at w3 _ _) (one_sl _ _ _) (by unfold maxLen; omega) (by omega) HB4.out.size ?_; intro v5 w5 ho5 hg5 _)
        have HB5 := Lib.hid (HB4.out.grown hg5 HB4.out.size (fun x hx => (HVS4.out.lt x hx).1))
        have HW5 : Hid (∃ vs, w5.ownsRow w1.heap.size 34 1 v5 (k + 1) vs ∧ RowsI w1.heap.size w5 vs (allR l (k + 1))) := by
          have h1 := HO4.out
          have h2 := HRL.out
          refine ⟨_, ho5, ?_⟩
          rw [HSN.out]
          exact HRS4.out.joined (by rw [h2]; exact h1) HVS4.out hg5
        obtain ⟨v5a, v5c, hz⟩ := row_slice ho5
        subst hz
        clear ho5 hg5
        go_wp2
        go_roundw
        case rel => exact ⟨k + 1, by omega, by go_num, HW5, HB5⟩
        case measure => simp [intOf]; omega
      · obtain rfl : k = l.length := by omega
        obtain ⟨vs, hvs, hrs⟩ := HW.out
        rw [HALL.out] at hrs
        have HFIN := Lib.hid (Rows2.of_row hvs hrs)
        have HBF := Lib.hid (HB1.out.trans (HB.out.mono HB1.out.size))
        obtain ⟨za, zc, hz⟩ := row_slice hvs
        subst hz
        clear hvs hrs HW HB
        go_wp2
        exact bodyPost_ret (v := .tuple #[.slice za l.length zc, .int .i64 0]) (by simp [results, Tryd.results6, go_sem]) rfl ⟨_, rfl, HFIN.out, HBF.out⟩
  · rw [if_neg h0]
    have te : ((errU h : Int) != 0) = true := by simp; omega
    clear h0
    generalize errU h = er at *
    go_enter Tryd.func6, Tryd.ntmps6
    go_wp2_with fail
    refine HT.out.mono ?_
    rintro e w1 ⟨v1, m1, rfl, -, hb1⟩
    have HB1 := Lib.hid hb1
    clear hb1 HT
    go_wp2
    exact bodyPost_ret (v := .tuple #[.slice none 0 0, .int .i64 (er : Int)]) (by simp [results, Tryd.results6, go_sem]) rfl ⟨_, rfl, Rows2.nil _, HB1.out⟩
end Go.Proofs.YtkliahdgciajjaaDoor
