/- Merged: SrlJ, SrlK. -/
import Derived.Test.YtnnjlefljmbhkaaDoorSrlI
import Derived.Test.YtnnjlefljmbhkaaDoorSrlC
import Derived.Test.YtnnjlefljmbhkaaDoorMg13
/- The walk of the reference's Search. -/
namespace Go.Proofs.YtnnjlefljmbhkaaDoor.WPlain
end Go.Proofs.YtnnjlefljmbhkaaDoor.WPlain
namespace Go.Proofs.YtnnjlefljmbhkaaDoor.QPlain
end Go.Proofs.YtnnjlefljmbhkaaDoor.QPlain
namespace Go.Proofs.YtnnjlefljmbhkaaDoor.RPlain
end Go.Proofs.YtnnjlefljmbhkaaDoor.RPlain
namespace Go.Proofs.YtnnjlefljmbhkaaDoor
open Go.RowKit WPlain QPlain RPlain

set_option maxRecDepth 100000 in
set_option maxHeartbeats 8000000 in
theorem refSearch_any (h : List Ev) (h0 : (checkS h).2 = 0) (lv : Value) (B : Nat) (w : World) (hv : Txs w lv (tableS h)) (hBd : B ≤ 1000000) (hol : ∀ i, (opsAt (tableS h) i).length ≤ 60) :
    Calls Tryd.prog 16 #[lv, .int .i64 (B : Int)] w fun e w' => ∃ rv, e = .returned (fndV (searchG B (tableS h) (fun _ => 2 ^ (tableS h).length - 1) (choicesS (tableS h)) 0).1 (searchG B (tableS h) (fun _ => 2 ^ (tableS h).length - 1) (choicesS (tableS h)) 0).2.1 rv (searchG B (tableS h) (fun _ => 2 ^ (tableS h).length - 1) (choicesS (tableS h)) 0).2.2.2) ∧
      Rd w' rv (nats (searchG B (tableS h) (fun _ => 2 ^ (tableS h).length - 1) (choicesS (tableS h)) 0).2.2.1) ∧ Below w.heap.size w w' := by
  have h6 := table_six h0
  have h64 := pow_le_64 h6
  have hpos : 0 < 2 ^ (tableS h).length := Nat.two_pow_pos _
  obtain ⟨who, hwho⟩ : ∃ who, 2 ^ (tableS h).length - 1 = who := ⟨_, rfl⟩
  have hwl : who < 2 ^ (tableS h).length := by omega
  obtain ⟨cs, hcs⟩ : ∃ cs, choicesS (tableS h) = cs := ⟨_, rfl⟩
  have HCL : Hid (∀ c ∈ cs, c < 4294967296) := fun c hc => by
    rw [← hcs, choices_chL h6] at hc
    have := (mem_chL.1 hc).1
    omega
  have hcl : cs.length ≤ 64 := by rw [← hcs]; exact choices_count _
  obtain ⟨N, hN⟩ : ∃ N, w.heap.size = N := ⟨_, rfl⟩
  obtain ⟨w1, hw1⟩ : ∃ w1, w.alloc (.cells #[.int .i64 0, .int .u32 0, .slice none 0 0, .int .i64 0] 26) = w1 := ⟨_, rfl⟩
  have hf1 : At w1 N (fnd 0 0 (.slice none 0 0) 0) 26 := by
    rw [← hw1, ← hN]
    exact At.new w _ _
  have hb1 : Below N w w1 := by
    rw [← hw1, ← hN]
    exact (Below.refl _ w).alloc (Nat.le_refl _) _
  have hv1 := hv.below hb1 (by omega)
  have HCH := Lib.hid (refChoices_any lv (tableS h) w1 hv1 (by omega))
  rw [hcs] at HCH ⊢
  have HALL := Lib.hid (fun (W : World) (hW : Below w.heap.size w W) => refAllS_any lv (tableS h) W (hv.below hW (Nat.le_refl _)) h6)
  rw [hwho] at HALL ⊢
  obtain ⟨x0, hx0⟩ : ∃ x0, searchG B (tableS h) (fun _ => who) cs 0 = x0 := ⟨_, rfl⟩
  rw [hx0]
  have HZR : Hid (searchG B (tableS h) (fun _ => who) (cs.drop 0) 0 = x0) := hx0
  have HNX : Hid (∀ i (hi : i < cs.length) s, searchG B (tableS h) (fun _ => who) (cs.drop i) s = if (fromS B (tableS h) who cs[i] ((tableS h).length + 1) [] s).1 = 1 then searchG B (tableS h) (fun _ => who) (cs.drop (i + 1)) (fromS B (tableS h) who cs[i] ((tableS h).length + 1) [] s).2.2
      else ((fromS B (tableS h) who cs[i] ((tableS h).length + 1) [] s).1, (if (fromS B (tableS h) who cs[i] ((tableS h).length + 1) [] s).1 = 0 then cs[i] else 0), (fromS B (tableS h) who cs[i] ((tableS h).length + 1) [] s).2)) := fun i hi s => by
    rw [List.drop_eq_getElem_cons hi, searchG]
  have HEND : Hid (∀ s, searchG B (tableS h) (fun _ => who) (cs.drop cs.length) s = (1, 0, [], s)) := fun s => by rw [List.drop_length]; rfl
  have HV := Lib.hid hv
  have HF1 := Lib.hid hf1
  have HB1 := Lib.hid hb1
  have HWL := Lib.hid hwl
  have HOL := Lib.hid hol
  have HH0 := Lib.hid h0
  obtain ⟨la, lc, rfl⟩ := hv.len
  clear hv hf1 hb1 hv1 hx0 hcs hwho hwl hol h0 h64 hpos
  go_enter Tryd.func16, Tryd.ntmps16
  go_wp2_with fail
  refine HCH.out.mono ?_
  rintro e w2 ⟨v2, rfl, hr2, hb2⟩
  have HR2 := Lib.hid hr2
  obtain ⟨ca, cc, rfl⟩ := hr2.len
  rw [u32s_len] at HR2 ⊢
  have HB2 := Lib.hid (HB1.out.trans (hb2.mono (by have := HB1.out.size; omega)))
  have HF2 := Lib.hid (HF1.out.below hb2 HF1.out.lt)
  clear hr2 hb2 hw1 HF1 HCH
  go_wp2_with fail
  go_loopw [5, 12] (fun y x wr => ∃ i s : Nat, i ≤ cs.length ∧ x = .int .i64 i ∧ y = .int .i64 s ∧ s ≤ B ∧ Hid (searchG B (tableS h) (fun _ => who) (cs.drop i) s = x0) ∧ Hid (Below w2.heap.size w2 wr)) (fun _ x _ => cs.length - (intOf x).toNat)
  case atStart => exact ⟨0, 0, by omega, rfl, rfl, by omega, HZR, Below.refl _ _⟩
  case round =>
    clear HZR
    obtain ⟨i, s, hi, rfl, rfl, hs, HT, HBR⟩ := hrel
    have hbs := HBR.out.size
    have HBC := Lib.hid (HB2.out.trans (HBR.out.mono (by have := HB2.out.size; omega)))
    have HFC := Lib.hid (HF2.out.below HBR.out HF2.out.lt)
    by_cases hlt : i < cs.length
    · obtain ⟨b, o, pc, he, hbl, hcells⟩ := (HR2.out.below HBR.out (Nat.le_refl _)).opened (by rw [u32s_len]; omega)
      rw [u32s_len] at he
      simp only [Value.slice.injEq] at he
      obtain ⟨rfl, -, rfl⟩ := he
      have hcj := hcells i _ (u32s_get hlt)
      have hcc := HCL.out _ (List.getElem_mem hlt)
      have hnx := HNX.out i hlt s
      clear hcells hbl
      generalize cs[i] = ci at *
      obtain ⟨wa, hwa⟩ : ∃ wa, wr.alloc (.cells #[] 3) = wa := ⟨_, rfl⟩
      have hba : Below wr.heap.size wr wa := by rw [← hwa]; exact (Below.refl _ wr).alloc (Nat.le_refl _) _
      have HBA := Lib.hid hba
      have hnwr : N < wr.heap.size := HFC.out.lt
      have HFR := Lib.hid (refFrom_any h HH0.out w (.slice la (tableS h).length lc) who ci B HV.out HWL.out hcc hBd HOL.out ((tableS h).length + 1) (fun k => k < wr.heap.size) [] s (.slice (some ⟨wr.heap.size, 0, none⟩) 0 0) wa (fun k hk => Nat.lt_of_lt_of_le hk hba.size) (by have := HBC.out.trans (hba.mono (by omega)); rwa [hN])
        (.inl ⟨rfl, _, _, rfl⟩) (.inr ⟨_, _, _, rfl⟩) (fun a n c he => by simp only [Value.slice.injEq] at he; omega) List.nodup_nil (by simp) hs (by have := left_le (tableS h) who []; omega))
      have HAN := Lib.hid (from_ans (B := B) (l := tableS h) (who := who) (c := ci) ((tableS h).length + 1) [] s hs (by have := left_le (tableS h) who []; omega))
      have HAL := Lib.hid (HALL.out wr (by rw [hN]; exact HBC.out))
      have HT2 := Lib.hid (hnx.symm.trans HT.out)
      obtain ⟨x, hx⟩ : ∃ x, fromS B (tableS h) who ci ((tableS h).length + 1) [] s = x := ⟨_, rfl⟩
      rw [hx] at HFR HAN HT2
      unfold gC refX fndV at HFR
      obtain ⟨cx, hcx⟩ : ∃ cx, (if x.1 = 0 then ci else 0) = cx := ⟨_, rfl⟩
      rw [hcx] at HFR HT2
      clear hx hcx hnx hba HT
      go_wp2_with (go_at_call 35; refine HAL.out.mono ?_; rintro e w9 ⟨rfl, hw9⟩; rw [hw9]; clear hw9)
      refine HFR.out.mono ?_
      rintro e w6 ⟨rv6, rfl, hr6, hb6⟩
      obtain ⟨a6, c6, rfl⟩ := hr6.rd.len
      obtain ⟨n6, hn6⟩ : ∃ z, (nats x.2.1).length = z := ⟨_, rfl⟩
      rw [hn6] at hr6 ⊢
      clear hn6
      obtain ⟨N7, hN7⟩ : ∃ z, w6.heap.size = z := ⟨_, rfl⟩
      obtain ⟨w7, hw7⟩ : ∃ z, w6.alloc (.cells #[.int .i64 (x.1 : Int), .int .u32 (cx : Int), .slice a6 n6 c6, .int .i64 (x.2.2 : Int)] 26) = z := ⟨_, rfl⟩
      have ha7 : At w7 N7 #[.int .i64 (x.1 : Int), .int .u32 (cx : Int), .slice a6 n6 c6, .int .i64 (x.2.2 : Int)] 26 := by
        rw [← hw7, ← hN7]; exact At.new w6 _ _
      have hb67 : Below w6.heap.size w6 w7 := by rw [← hw7]; exact (Below.refl _ w6).alloc (Nat.le_refl _) _
      have hba := HBA.out
      have hbr7 := hba.trans ((hb6.trans (hb67.mono hb6.size)).mono hba.size)
      have HB7 := Lib.hid (HBR.out.trans (hbr7.mono hbs))
      have HBC7 := Lib.hid (HBC.out.trans (hbr7.mono (by omega)))
      have HR7 := Lib.hid (hr6.below hb67)
      have q0 : w7.cell? ⟨N7, 0, none⟩ = some (.int .i64 (x.1 : Int)) := ha7.cell rfl
      have q1 : w7.cell? ⟨N7, 1, none⟩ = some (.int .u32 (cx : Int)) := ha7.cell rfl
      have q2 : w7.cell? ⟨N7, 2, none⟩ = some (.slice a6 n6 c6) := ha7.cell rfl
      have q3 : w7.cell? ⟨N7, 3, none⟩ = some (.int .i64 (x.2.2 : Int)) := ha7.cell rfl
      have HFC7 := Lib.hid (HFC.out.below hbr7 HFC.out.lt)
      clear ha7 hb67 hr6 hb6 hba hbr7 hcj HFR HBA HBC HFC
      have hle := HAN.out.le
      by_cases hx1 : x.1 = 1
      · have tx : ((x.1 : Int) != 1) = false := by rw [hx1]; rfl
        have HT7 := HT2.out
        rw [if_pos hx1] at HT7
        have HT8 := Lib.hid HT7
        clear HT2 HT7 hx1
        go_wp2_with fail
        go_roundw
        case rel => exact ⟨i + 1, x.2.2, by omega, by go_num, rfl, hle, HT8, HB7⟩
        case measure => simp [intOf]; omega
      · have tx : ((x.1 : Int) != 1) = true := by simp; omega
        have HT7 := HT2.out
        rw [if_neg hx1] at HT7
        subst HT7
        clear HT2 hx1
        have HBC := HBC7
        have HFC := HFC7
        have z0 : w7.cell? ⟨N, 0, none⟩ = some (.int .i64 0) := HFC.out.cell rfl
        have z1 : w7.cell? ⟨N, 1, none⟩ = some (.int .u32 0) := HFC.out.cell rfl
        have z2 : w7.cell? ⟨N, 2, none⟩ = some (.slice none 0 0) := HFC.out.cell rfl
        have z3 : w7.cell? ⟨N, 3, none⟩ = some (.int .i64 0) := HFC.out.cell rfl
        have y0 : w7.frozen? ⟨N, 0, none⟩ = false := HFC.out.free 0
        have y1 : w7.frozen? ⟨N, 1, none⟩ = false := HFC.out.free 1
        have y2 : w7.frozen? ⟨N, 2, none⟩ = false := HFC.out.free 2
        have y3 : w7.frozen? ⟨N, 3, none⟩ = false := HFC.out.free 3
        go_wp2_with fail
        have HZ : Hid (At ((((w7.setCell ⟨N, 0, none⟩ (.int .i64 (x.1 : Int))).setCell ⟨N, 1, none⟩ (.int .u32 (cx : Int))).setCell ⟨N, 2, none⟩ (.slice a6 n6 c6)).setCell ⟨N, 3, none⟩ (.int .i64 (x.2.2 : Int))) N (fnd x.1 cx (.slice a6 n6 c6) x.2.2) 26) := fnd_set (v' := x.1) (c' := cx) (s' := x.2.2) HFC.out
        have HO := Lib.hid (fnd_only w7 N (.int .i64 (x.1 : Int)) (.int .u32 (cx : Int)) (.slice a6 n6 c6) (.int .i64 (x.2.2 : Int)))
        generalize (((w7.setCell ⟨N, 0, none⟩ (.int .i64 (x.1 : Int))).setCell ⟨N, 1, none⟩ (.int .u32 (cx : Int))).setCell ⟨N, 2, none⟩ (.slice a6 n6 c6)).setCell ⟨N, 3, none⟩ (.int .i64 (x.2.2 : Int)) = w9 at *
        clear z0 z1 z2 z3 y0 y1 y2 y3
        have z0 : w9.cell? ⟨N, 0, none⟩ = some (.int .i64 (x.1 : Int)) := HZ.out.cell rfl
        have z1 : w9.cell? ⟨N, 1, none⟩ = some (.int .u32 (cx : Int)) := HZ.out.cell rfl
        have z2 : w9.cell? ⟨N, 2, none⟩ = some (.slice a6 n6 c6) := HZ.out.cell rfl
        have z3 : w9.cell? ⟨N, 3, none⟩ = some (.int .i64 (x.2.2 : Int)) := HZ.out.cell rfl
        have HBF : Hid (Below N w w9) := HBC.out.trans (HO.out.below (by have := HBC.out.size; omega) (fun k _ hk => by omega))
        refine bodyPost_ret (v := fndV x.1 cx (.slice a6 n6 c6) x.2.2) (by simp [results, Tryd.results16, go_sem, z0, z1, z2, z3]; rfl) rfl ?_
        exact ⟨.slice a6 n6 c6, rfl, (HR7.out.only HO.out (fun k hk => by rw [hk]; exact hnwr)).rd, by first | exact HBF.out | (rw [hN]; exact HBF.out)⟩
    · obtain rfl : i = cs.length := by omega
      have HT2 := HT.out
      rw [HEND.out] at HT2
      subst HT2
      clear HT
      have z0 : wr.cell? ⟨N, 0, none⟩ = some (.int .i64 0) := HFC.out.cell rfl
      have z1 : wr.cell? ⟨N, 1, none⟩ = some (.int .u32 0) := HFC.out.cell rfl
      have z2 : wr.cell? ⟨N, 2, none⟩ = some (.slice none 0 0) := HFC.out.cell rfl
      have z3 : wr.cell? ⟨N, 3, none⟩ = some (.int .i64 0) := HFC.out.cell rfl
      have y0 : wr.frozen? ⟨N, 0, none⟩ = false := HFC.out.free 0
      have y1 : wr.frozen? ⟨N, 1, none⟩ = false := HFC.out.free 1
      have y2 : wr.frozen? ⟨N, 2, none⟩ = false := HFC.out.free 2
      have y3 : wr.frozen? ⟨N, 3, none⟩ = false := HFC.out.free 3
      go_wp2_with fail
      have HZ : Hid (At ((((wr.setCell ⟨N, 0, none⟩ (.int .i64 1)).setCell ⟨N, 1, none⟩ (.int .u32 0)).setCell ⟨N, 2, none⟩ (.slice none 0 0)).setCell ⟨N, 3, none⟩ (.int .i64 (s : Int))) N (fnd 1 0 (.slice none 0 0) s) 26) := fnd_set (v' := 1) (c' := 0) (s' := s) HFC.out
      have HO := Lib.hid (fnd_only wr N (.int .i64 1) (.int .u32 0) (.slice none 0 0) (.int .i64 (s : Int)))
      generalize (((wr.setCell ⟨N, 0, none⟩ (.int .i64 1)).setCell ⟨N, 1, none⟩ (.int .u32 0)).setCell ⟨N, 2, none⟩ (.slice none 0 0)).setCell ⟨N, 3, none⟩ (.int .i64 (s : Int)) = w9 at *
      clear z0 z1 z2 z3 y0 y1 y2 y3
      have z0 : w9.cell? ⟨N, 0, none⟩ = some (.int .i64 1) := HZ.out.cell rfl
      have z1 : w9.cell? ⟨N, 1, none⟩ = some (.int .u32 0) := HZ.out.cell rfl
      have z2 : w9.cell? ⟨N, 2, none⟩ = some (.slice none 0 0) := HZ.out.cell rfl
      have z3 : w9.cell? ⟨N, 3, none⟩ = some (.int .i64 (s : Int)) := HZ.out.cell rfl
      have HBF : Hid (Below N w w9) := HBC.out.trans (HO.out.below (by have := HBC.out.size; omega) (fun k _ hk => by omega))
      refine bodyPost_ret (v := fndV 1 0 (.slice none 0 0) s) (by simp [results, Tryd.results16, go_sem, z0, z1, z2, z3]; rfl) rfl ?_
      exact ⟨_, rfl, .inl ⟨rfl, _, _, rfl⟩, by first | exact HBF.out | (rw [hN]; exact HBF.out)⟩
end Go.Proofs.YtnnjlefljmbhkaaDoor
/- The walks of recantref01's Ints at any two rows, of slices.Equal, and of both packages' call that tells whether two findings are the same. -/
namespace Go.Proofs.YtnnjlefljmbhkaaDoor.WPlain
end Go.Proofs.YtnnjlefljmbhkaaDoor.WPlain
namespace Go.Proofs.YtnnjlefljmbhkaaDoor.QPlain
end Go.Proofs.YtnnjlefljmbhkaaDoor.QPlain
namespace Go.Proofs.YtnnjlefljmbhkaaDoor.RPlain
end Go.Proofs.YtnnjlefljmbhkaaDoor.RPlain
namespace Go.Proofs.YtnnjlefljmbhkaaDoor
open Go.RowKit WPlain QPlain RPlain

theorem beq_false' {a b : Int} (h : ¬ a = b) : (a == b) = false := by rw [beq_eq_false_iff_ne]; exact h
theorem ints_getI {xs : List Int} {k : Nat} (h : k < xs.length) : (ints xs)[k]? = some (.int .i64 xs[k]) := by
  unfold ints
  rw [List.getElem?_map, List.getElem?_eq_getElem h]; rfl
theorem take_differ {xs ys : List Int} {k : Nat} (hx : k < xs.length) (_hy : k < ys.length) (h : ¬ xs[k] = ys[k]) : ¬ xs = ys := by
  rintro rfl
  exact h rfl
set_option maxRecDepth 100000 in
set_option maxHeartbeats 1000000 in
theorem refIntsD_any (v1 v2 : Value) (xs ys : List Int) (w : World) (h1 : Rd w v1 (ints xs)) (h2 : Rd w v2 (ints ys)) (hx : xs.length ≤ 65536) :
    Calls Tryd.prog 27 #[v1, v2] w fun e w' => e = .returned (.bool (decide (xs = ys))) ∧ ∃ n, w' = w.drewN n := by
  have H1 := Lib.hid h1
  have H2 := Lib.hid h2
  obtain ⟨a1, c1, rfl⟩ := h1.len
  obtain ⟨a2, c2, rfl⟩ := h2.len
  rw [ints_len] at H1 H2 ⊢
  rw [ints_len]
  clear h1 h2
  by_cases hl : xs.length = ys.length
  · have HL := Lib.hid hl
    have HD := Lib.hid (fun (k : Nat) (hx : k < xs.length) (hy : k < ys.length) (h : ¬ xs[k] = ys[k]) => take_differ hx hy h)
    obtain ⟨res, hres⟩ : ∃ res, decide (xs = ys) = res := ⟨_, rfl⟩
    have HRES := Lib.hid hres
    rw [hres]
    have HT0 : Hid (xs.take 0 = ys.take 0) := rfl
    have HNX : Hid (∀ k (hx : k < xs.length) (hy : k < ys.length), xs.take k = ys.take k → xs[k] = ys[k] → xs.take (k + 1) = ys.take (k + 1)) := fun k hx hy h1 h2 => by
      rw [List.take_succ_eq_append_getElem hx, List.take_succ_eq_append_getElem hy, h1, h2]
    have HFN : Hid (xs.take xs.length = ys.take xs.length → xs = ys) := fun h => by
      rw [List.take_length, hl, List.take_length] at h
      exact h
    obtain ⟨nx, hnx⟩ : ∃ nx, xs.length = nx := ⟨_, rfl⟩
    obtain ⟨ny, hny⟩ : ∃ ny, ys.length = ny := ⟨_, rfl⟩
    have tl : ((nx : Int) != (ny : Int)) = false := by simp; omega
    have HNXE := Lib.hid hnx
    have HNYE := Lib.hid hny
    rw [hnx] at H1 hx ⊢
    rw [hny] at H2 ⊢
    have hxy : nx ≤ ny ∧ ny ≤ nx := by omega
    clear hl hres hnx hny
    obtain ⟨hxy1, hxy2⟩ := hxy
    go_enter Tryd.func27, Tryd.ntmps27
    go_wp2_with fail
    go_loopw [13] (fun x wr => ∃ k n : Nat, k ≤ nx ∧ x = .int .i64 k ∧ Hid (xs.take k = ys.take k) ∧ wr = w.drewN n) (fun x _ => nx - (intOf x).toNat)
    case atStart => exact ⟨0, 0, by omega, rfl, HT0, rfl⟩
    case round =>
      clear HT0
      obtain ⟨k, n, hk, rfl, HT, rfl⟩ := hrel
      by_cases hlt : k < nx
      · have hkx : k < xs.length := by have := HNXE.out; omega
        have hky : k < ys.length := by have := HNYE.out; omega
        obtain ⟨b1, o1, d1, he1, -, hc1⟩ := H1.out.opened (by rw [ints_len]; omega)
        obtain ⟨b2, o2, d2, he2, -, hc2⟩ := H2.out.opened (by rw [ints_len]; omega)
        have g1 := hc1 k _ (ints_getI hkx)
        have g2 := hc2 k _ (ints_getI hky)
        rw [ints_len, HNXE.out] at he1
        rw [ints_len, HNYE.out] at he2
        simp only [Value.slice.injEq] at he1 he2
        obtain ⟨rfl, -, rfl⟩ := he1
        obtain ⟨rfl, -, rfl⟩ := he2
        have HDK := Lib.hid (HD.out k hkx hky)
        have HNK := Lib.hid (HNX.out k hkx hky HT.out)
        have k1 : (k : Int) < (nx : Int) := by omega
        have k2 : (k : Int) < (ny : Int) := by omega
        clear hc1 hc2 HT
        generalize xs[k] = y at *
        generalize ys[k] = z at *
        clear hkx hky
        by_cases hyz : y = z
        · have HT2 := Lib.hid (HNK.out hyz)
          subst hyz
          clear HDK HNK
          go_wp2
          go_quiet (fail)
          go_wp2
          go_roundw
          case rel => exact ⟨k + 1, _, by omega, by go_num, HT2, rfl⟩
          case measure => simp [intOf]; omega
        · have HF : Hid (res = false) := by
            unfold Hid
            rw [← HRES.out]
            exact decide_eq_false (HDK.out hyz)
          have tne : (y != z) = true := by simp [hyz]
          clear HDK HNK
          go_wp2
          go_quiet (fail)
          go_wp2
          go_ret
          exact ⟨by rw [HF.out]; rfl, n + nq, by rw [World.drewN_drewN]⟩
      · obtain rfl : k = nx := by omega
        have HF : Hid (res = true) := by
          unfold Hid
          rw [← HRES.out]
          refine decide_eq_true (HFN.out ?_)
          rw [HNXE.out]
          exact HT.out
        clear HT
        go_wp2
        go_ret
        exact ⟨by rw [HF.out]; rfl, n, rfl⟩
  · have hne : ¬ xs = ys := fun h => hl (by rw [h])
    rw [decide_eq_false hne]
    generalize xs.length = nx at *
    generalize ys.length = ny at *
    have tl : ((nx : Int) != (ny : Int)) = true := by simp; omega
    clear hl
    go_enter Tryd.func27, Tryd.ntmps27
    go_wp2_with fail
    go_ret
    exact ⟨rfl, 0, rfl⟩
theorem equalI_any (v1 v2 : Value) (xs ys : List Int) (w : World) (h1 : Rd w v1 (ints xs)) (h2 : Rd w v2 (ints ys)) (hx : xs.length ≤ 65536) (hy : ys.length ≤ 65536) :
    Calls Tryd.prog 33 #[v1, v2] w fun e w' => e = .returned (.bool (decide (xs = ys))) ∧ ∃ n, w' = w.drewN n := by
  by_cases h0 : xs.length = 0
  · have hx0 : xs = [] := List.length_eq_zero_iff.1 h0
    subst hx0
    obtain ⟨a1, c1, rfl⟩ := h1.len
    obtain ⟨a2, c2, rfl⟩ := h2.len
    rw [ints_len]
    rw [ints_len]
    refine (Tryd.slices_Equal_int_empty a1 a2 c1 ys.length c2 w (by omega)).mono ?_
    rintro e w' ⟨rfl, rfl⟩
    refine ⟨?_, 0, rfl⟩
    congr 2
    rw [decide_eq_decide]
    constructor
    · intro h; exact (List.length_eq_zero_iff.1 h).symm
    · intro h; rw [← h]; rfl
  · by_cases hl : xs.length = ys.length
    · obtain ⟨b1, o1, d1, rfl, -, hc1⟩ := h1.opened (by rw [ints_len]; omega)
      obtain ⟨b2, o2, d2, rfl, -, hc2⟩ := h2.opened (by rw [ints_len]; omega)
      rw [ints_len]
      rw [ints_len]
      refine (Tryd.slices_Equal_int b1 o1 xs.length d1 b2 o2 ys.length d2 xs ys w (Nat.le_refl _) (Nat.le_refl _) (by omega) (by omega) ?_ ?_).mono ?_
      · intro j hj
        rw [hc1 j _ (ints_getI hj), List.getD_eq_getElem?_getD, List.getElem?_eq_getElem hj]; rfl
      · intro j hj
        rw [hc2 j _ (ints_getI hj), List.getD_eq_getElem?_getD, List.getElem?_eq_getElem hj]; rfl
      · rintro e w' ⟨rfl, n, rfl⟩
        refine ⟨?_, n, rfl⟩
        rw [List.take_length, List.take_length]
        congr 2
        rw [Bool.eq_iff_iff, beq_iff_eq, decide_eq_true_eq]
    · obtain ⟨a1, c1, rfl⟩ := h1.len
      obtain ⟨a2, c2, rfl⟩ := h2.len
      rw [ints_len]
      rw [ints_len]
      refine (Tryd.slices_Equal_int_lens a1 a2 xs.length c1 ys.length c2 w hl).mono ?_
      rintro e w' ⟨rfl, rfl⟩
      refine ⟨?_, 0, rfl⟩
      rw [decide_eq_false (fun h => hl (by rw [h]))]
/-- are two findings the same? -/
def sameF (v1 c1 s1 v2 c2 s2 : Int) (xs ys : List Int) : Bool := decide (v1 = v2 ∧ c1 = c2 ∧ xs = ys ∧ s1 = s2)
set_option maxRecDepth 100000 in
set_option maxHeartbeats 2000000 in
theorem likeS_any (v1 c1 s1 v2 c2 s2 : Int) (r1 r2 : Value) (xs ys : List Int) (w : World) (h1 : Rd w r1 (ints xs)) (h2 : Rd w r2 (ints ys)) (hx : xs.length ≤ 65536) (hy : ys.length ≤ 65536) :
    Calls Tryd.prog 15 #[.agg #[.int .i64 v1, .int .u32 c1, r1, .int .i64 s1], .agg #[.int .i64 v2, .int .u32 c2, r2, .int .i64 s2]] w fun e w' => e = .returned (.bool (sameF v1 c1 s1 v2 c2 s2 xs ys)) ∧ Below w.heap.size w w' := by
  obtain ⟨a1, d1, rfl⟩ := h1.len
  obtain ⟨a2, d2, rfl⟩ := h2.len
  obtain ⟨n1, hn1⟩ : ∃ z, (ints xs).length = z := ⟨_, rfl⟩
  obtain ⟨n2, hn2⟩ : ∃ z, (ints ys).length = z := ⟨_, rfl⟩
  rw [hn1] at h1 ⊢
  rw [hn2] at h2 ⊢
  obtain ⟨N, hN⟩ : ∃ z, w.heap.size = z := ⟨_, rfl⟩
  obtain ⟨w1, hw1⟩ : ∃ z, (w.alloc (.cells #[.int .i64 v1, .int .u32 c1, .slice a1 n1 d1, .int .i64 s1] 26)).alloc (.cells #[.int .i64 v2, .int .u32 c2, .slice a2 n2 d2, .int .i64 s2] 26) = z := ⟨_, rfl⟩
  have ha : At w1 N #[.int .i64 v1, .int .u32 c1, .slice a1 n1 d1, .int .i64 s1] 26 := by
    rw [← hw1, ← hN]; exact (At.new w _ _).alloc _
  have hb : At w1 (N + 1) #[.int .i64 v2, .int .u32 c2, .slice a2 n2 d2, .int .i64 s2] 26 := by
    rw [← hw1, ← hN]
    have := At.new (w.alloc (.cells #[.int .i64 v1, .int .u32 c1, .slice a1 n1 d1, .int .i64 s1] 26)) #[.int .i64 v2, .int .u32 c2, .slice a2 n2 d2, .int .i64 s2] 26
    rwa [World.size_alloc] at this
  have hb1 : Below N w w1 := by
    rw [← hw1, ← hN]; exact ((Below.refl _ w).alloc (Nat.le_refl _) _).alloc (by simp) _
  have HC := Lib.hid (equalI_any (.slice a1 n1 d1) (.slice a2 n2 d2) xs ys w1 (h1.below hb1 (by omega)) (h2.below hb1 (by omega)) hx hy)
  have HB1 : Hid (Below w.heap.size w w1) := by rw [← hN] at hb1; exact hb1
  have p0 : w1.cell? ⟨N, 0, none⟩ = some (.int .i64 v1) := ha.cell rfl
  have p1 : w1.cell? ⟨N, 1, none⟩ = some (.int .u32 c1) := ha.cell rfl
  have p2 : w1.cell? ⟨N, 2, none⟩ = some (.slice a1 n1 d1) := ha.cell rfl
  have p3 : w1.cell? ⟨N, 3, none⟩ = some (.int .i64 s1) := ha.cell rfl
  have q0 : w1.cell? ⟨N + 1, 0, none⟩ = some (.int .i64 v2) := hb.cell rfl
  have q1 : w1.cell? ⟨N + 1, 1, none⟩ = some (.int .u32 c2) := hb.cell rfl
  have q2 : w1.cell? ⟨N + 1, 2, none⟩ = some (.slice a2 n2 d2) := hb.cell rfl
  have q3 : w1.cell? ⟨N + 1, 3, none⟩ = some (.int .i64 s2) := hb.cell rfl
  unfold sameF
  clear ha hb hb1 h1 h2 hn1 hn2
  by_cases e0 : v1 = v2
  · by_cases e1 : c1 = c2
    · by_cases e2 : xs = ys
      · rw [decide_eq_true e2] at HC
        by_cases e3 : s1 = s2
        · rw [decide_eq_true ⟨e0, e1, e2, e3⟩]
          have t0 : (v1 == v2) = true := by simp [e0]
          have t1 : (c1 == c2) = true := by simp [e1]
          have t3 : (s1 == s2) = true := by simp [e3]
          clear e0 e1 e2 e3
          go_enter Tryd.func15, Tryd.ntmps15
          go_wp2_with (go_at_call 33; refine HC.out.mono ?_; rintro e w3 ⟨rfl, n, hw3⟩; rw [hw3]; clear hw3)
          go_ret
          exact ⟨rfl, below_drN HB1.out _⟩
        · rw [decide_eq_false (fun h => e3 h.2.2.2)]
          have t0 : (v1 == v2) = true := by simp [e0]
          have t1 : (c1 == c2) = true := by simp [e1]
          have t3 := beq_false' e3
          clear e0 e1 e2 e3
          go_enter Tryd.func15, Tryd.ntmps15
          go_wp2_with (go_at_call 33; refine HC.out.mono ?_; rintro e w3 ⟨rfl, n, hw3⟩; rw [hw3]; clear hw3)
          go_ret
          exact ⟨rfl, below_drN HB1.out _⟩
      · rw [decide_eq_false e2] at HC
        rw [decide_eq_false (fun h => e2 h.2.2.1)]
        have t0 : (v1 == v2) = true := by simp [e0]
        have t1 : (c1 == c2) = true := by simp [e1]
        clear e0 e1 e2
        go_enter Tryd.func15, Tryd.ntmps15
        go_wp2_with (go_at_call 33; refine HC.out.mono ?_; rintro e w3 ⟨rfl, n, hw3⟩; rw [hw3]; clear hw3)
        go_ret
        exact ⟨rfl, below_drN HB1.out _⟩
    · rw [decide_eq_false (fun h => e1 h.2.1)]
      have t0 : (v1 == v2) = true := by simp [e0]
      have t1 := beq_false' e1
      clear e0 e1
      go_enter Tryd.func15, Tryd.ntmps15
      go_wp2_with fail
      go_ret
      exact ⟨rfl, HB1.out⟩
  · rw [decide_eq_false (fun h => e0 h.1)]
    have t0 := beq_false' e0
    clear e0
    go_enter Tryd.func15, Tryd.ntmps15
    go_wp2_with fail
    go_ret
    exact ⟨rfl, HB1.out⟩
set_option maxRecDepth 100000 in
set_option maxHeartbeats 2000000 in
theorem refSameS_any (v1 c1 s1 v2 c2 s2 : Int) (r1 r2 : Value) (xs ys : List Int) (w : World) (h1 : Rd w r1 (ints xs)) (h2 : Rd w r2 (ints ys)) (hx : xs.length ≤ 65536) :
    Calls Tryd.prog 10 #[.agg #[.int .i64 v1, .int .u32 c1, r1, .int .i64 s1], .agg #[.int .i64 v2, .int .u32 c2, r2, .int .i64 s2]] w fun e w' => e = .returned (.bool (sameF v1 c1 s1 v2 c2 s2 xs ys)) ∧ Below w.heap.size w w' := by
  obtain ⟨a1, d1, rfl⟩ := h1.len
  obtain ⟨a2, d2, rfl⟩ := h2.len
  obtain ⟨n1, hn1⟩ : ∃ z, (ints xs).length = z := ⟨_, rfl⟩
  obtain ⟨n2, hn2⟩ : ∃ z, (ints ys).length = z := ⟨_, rfl⟩
  rw [hn1] at h1 ⊢
  rw [hn2] at h2 ⊢
  obtain ⟨N, hN⟩ : ∃ z, w.heap.size = z := ⟨_, rfl⟩
  obtain ⟨w1, hw1⟩ : ∃ z, (w.alloc (.cells #[.int .i64 v1, .int .u32 c1, .slice a1 n1 d1, .int .i64 s1] 26)).alloc (.cells #[.int .i64 v2, .int .u32 c2, .slice a2 n2 d2, .int .i64 s2] 26) = z := ⟨_, rfl⟩
  have ha : At w1 N #[.int .i64 v1, .int .u32 c1, .slice a1 n1 d1, .int .i64 s1] 26 := by
    rw [← hw1, ← hN]; exact (At.new w _ _).alloc _
  have hb : At w1 (N + 1) #[.int .i64 v2, .int .u32 c2, .slice a2 n2 d2, .int .i64 s2] 26 := by
    rw [← hw1, ← hN]
    have := At.new (w.alloc (.cells #[.int .i64 v1, .int .u32 c1, .slice a1 n1 d1, .int .i64 s1] 26)) #[.int .i64 v2, .int .u32 c2, .slice a2 n2 d2, .int .i64 s2] 26
    rwa [World.size_alloc] at this
  have hb1 : Below N w w1 := by
    rw [← hw1, ← hN]; exact ((Below.refl _ w).alloc (Nat.le_refl _) _).alloc (by simp) _
  have HC := Lib.hid (refIntsD_any (.slice a1 n1 d1) (.slice a2 n2 d2) xs ys w1 (h1.below hb1 (by omega)) (h2.below hb1 (by omega)) hx)
  have HB1 : Hid (Below w.heap.size w w1) := by rw [← hN] at hb1; exact hb1
  have p0 : w1.cell? ⟨N, 0, none⟩ = some (.int .i64 v1) := ha.cell rfl
  have p1 : w1.cell? ⟨N, 1, none⟩ = some (.int .u32 c1) := ha.cell rfl
  have p2 : w1.cell? ⟨N, 2, none⟩ = some (.slice a1 n1 d1) := ha.cell rfl
  have p3 : w1.cell? ⟨N, 3, none⟩ = some (.int .i64 s1) := ha.cell rfl
  have q0 : w1.cell? ⟨N + 1, 0, none⟩ = some (.int .i64 v2) := hb.cell rfl
  have q1 : w1.cell? ⟨N + 1, 1, none⟩ = some (.int .u32 c2) := hb.cell rfl
  have q2 : w1.cell? ⟨N + 1, 2, none⟩ = some (.slice a2 n2 d2) := hb.cell rfl
  have q3 : w1.cell? ⟨N + 1, 3, none⟩ = some (.int .i64 s2) := hb.cell rfl
  unfold sameF
  clear ha hb hb1 h1 h2 hn1 hn2
  by_cases e0 : v1 = v2
  · by_cases e1 : c1 = c2
    · by_cases e3 : s1 = s2
      · by_cases e2 : xs = ys
        · rw [decide_eq_true e2] at HC
          rw [decide_eq_true ⟨e0, e1, e2, e3⟩]
          have t0 : (v1 == v2) = true := by simp [e0]
          have t1 : (c1 == c2) = true := by simp [e1]
          have t3 : (s1 == s2) = true := by simp [e3]
          clear e0 e1 e2 e3
          go_enter Tryd.func10, Tryd.ntmps10
          go_wp2_with (go_at_call 27; refine HC.out.mono ?_; rintro e w3 ⟨rfl, n, hw3⟩; rw [hw3]; clear hw3)
          go_ret
          exact ⟨rfl, below_drN HB1.out _⟩
        · rw [decide_eq_false e2] at HC
          rw [decide_eq_false (fun h => e2 h.2.2.1)]
          have t0 : (v1 == v2) = true := by simp [e0]
          have t1 : (c1 == c2) = true := by simp [e1]
          have t3 : (s1 == s2) = true := by simp [e3]
          clear e0 e1 e2 e3
          go_enter Tryd.func10, Tryd.ntmps10
          go_wp2_with (go_at_call 27; refine HC.out.mono ?_; rintro e w3 ⟨rfl, n, hw3⟩; rw [hw3]; clear hw3)
          go_ret
          exact ⟨rfl, below_drN HB1.out _⟩
      · rw [decide_eq_false (fun h => e3 h.2.2.2)]
        have t0 : (v1 == v2) = true := by simp [e0]
        have t1 : (c1 == c2) = true := by simp [e1]
        have t3 := beq_false' e3
        clear e0 e1 e3
        go_enter Tryd.func10, Tryd.ntmps10
        go_wp2_with fail
        go_ret
        exact ⟨rfl, HB1.out⟩
    · rw [decide_eq_false (fun h => e1 h.2.1)]
      have t0 : (v1 == v2) = true := by simp [e0]
      have t1 := beq_false' e1
      clear e0 e1
      go_enter Tryd.func10, Tryd.ntmps10
      go_wp2_with fail
      go_ret
      exact ⟨rfl, HB1.out⟩
  · rw [decide_eq_false (fun h => e0 h.1)]
    have t0 := beq_false' e0
    clear e0
    go_enter Tryd.func10, Tryd.ntmps10
    go_wp2_with fail
    go_ret
    exact ⟨rfl, HB1.out⟩
end Go.Proofs.YtnnjlefljmbhkaaDoor
