/- Merged: StrE, StrF. -/
import Derived.Test.YtoemcdcabamgiaaDoorMg22
import Derived.Test.YtoemcdcabamgiaaDoorMg25
import Derived.Test.YtoemcdcabamgiaaDoorMg21
import Derived.Test.YtoemcdcabamgiaaDoorMg9
/- The walk of the reference's Check (chapter 14). -/
namespace Go.Proofs.YtoemcdcabamgiaaDoor.WPlain
end Go.Proofs.YtoemcdcabamgiaaDoor.WPlain
namespace Go.Proofs.YtoemcdcabamgiaaDoor.QPlain
end Go.Proofs.YtoemcdcabamgiaaDoor.QPlain
namespace Go.Proofs.YtoemcdcabamgiaaDoor.RPlain
end Go.Proofs.YtoemcdcabamgiaaDoor.RPlain
namespace Go.Proofs.YtoemcdcabamgiaaDoor
open Go.RowKit WPlain QPlain RPlain

set_option maxRecDepth 100000 in
set_option maxHeartbeats 8000000 in
theorem refStrictX_any (h : List Ev) (h0 : (checkS h).2 = 0) (lv : Value) (B : Nat) (w : World) (hv : Txs w lv (tableS h)) (hBd : B ≤ 1000000) (hol : ∀ i, (opsAt (tableS h) i).length ≤ 60) :
    Calls Tryd.prog 9 #[lv, .int .i64 (B : Int)] w fun e w' => ∃ rv, e = .returned (fndV (searchG B (tableS h) (fun c => c) (choicesS (tableS h)) 0).1 (searchG B (tableS h) (fun c => c) (choicesS (tableS h)) 0).2.1 rv (searchG B (tableS h) (fun c => c) (choicesS (tableS h)) 0).2.2.2) ∧
      RdX (fun k => k < w.heap.size) w' rv (nats (searchG B (tableS h) (fun c => c) (choicesS (tableS h)) 0).2.2.1) ∧ Below w.heap.size w w' := by
  have h6 := table_six h0
  have h64 := pow_le_64 h6
  have hpos : 0 < 2 ^ (tableS h).length := Nat.two_pow_pos _
  obtain ⟨cs, hcs⟩ : ∃ cs, choicesS (tableS h) = cs := ⟨_, rfl⟩
  have HCP : Hid (∀ c ∈ cs, c < 2 ^ (tableS h).length) := fun c hc => by
    rw [← hcs, choices_chL h6] at hc
    exact (mem_chL.1 hc).1
  have HCL : Hid (∀ c ∈ cs, c < 4294967296) := fun c hc => by
    have := HCP.out c hc
    omega
  have hcl : cs.length ≤ 64 := by rw [← hcs]; exact choices_count _
  obtain ⟨N, hN⟩ : ∃ N, w.heap.size = N := ⟨_, rfl⟩
  obtain ⟨w1, hw1⟩ : ∃ w1, w.alloc (.cells #[.int .i64 0, .int .u32 0, .slice none 0 0, .int .i64 0] 26) = w1 := ⟨_, rfl⟩
  have hf1 : At w1 N (fnd 0 0 (.slice none 0 0) 0) 26 := by
    rw [← hw1, ← hN]
    exact At.new w _ _
  have hb1 : Below N w w1 := by
    rw [← hw1, ← hN]
    exact (Below.refl _ w).alloc (Nat.le_refl _) _
  have hv1 := hv.below hb1 (by omega)
  have HCH := Lib.hid (refChoices_any lv (tableS h) w1 hv1 (by omega))
  rw [hcs] at HCH ⊢
  obtain ⟨x0, hx0⟩ : ∃ x0, searchG B (tableS h) (fun c => c) cs 0 = x0 := ⟨_, rfl⟩
  rw [hx0]
  have HZR : Hid (searchG B (tableS h) (fun c => c) (cs.drop 0) 0 = x0) := hx0
  have HNX : Hid (∀ i (hi : i < cs.length) s, searchG B (tableS h) (fun c => c) (cs.drop i) s = if (fromS B (tableS h) cs[i] cs[i] ((tableS h).length + 1) [] s).1 = 1 then searchG B (tableS h) (fun c => c) (cs.drop (i + 1)) (fromS B (tableS h) cs[i] cs[i] ((tableS h).length + 1) [] s).2.2
      else ((fromS B (tableS h) cs[i] cs[i] ((tableS h).length + 1) [] s).1, (if (fromS B (tableS h) cs[i] cs[i] ((tableS h).length + 1) [] s).1 = 0 then cs[i] else 0), (fromS B (tableS h) cs[i] cs[i] ((tableS h).length + 1) [] s).2)) := fun i hi s => by
    rw [List.drop_eq_getElem_cons hi, searchG]
  have HEND : Hid (∀ s, searchG B (tableS h) (fun c => c) (cs.drop cs.length) s = (1, 0, [], s)) := fun s => by rw [List.drop_length]; rfl
  have HV := Lib.hid hv
  have HF1 := Lib.hid hf1
  have HB1 := Lib.hid hb1
  have HOL := Lib.hid hol
  have HH0 := Lib.hid h0
  obtain ⟨la, lc, rfl⟩ := hv.len
  clear hv hf1 hb1 hv1 hx0 hcs hol h0 h64 hpos
  go_enter Tryd.func9, Tryd.ntmps9
  go_wp2_with fail
  refine HCH.out.mono ?_
  rintro e w2 ⟨v2, rfl, hr2, hb2⟩
  have HR2 := Lib.hid hr2
  obtain ⟨ca, cc, rfl⟩ := hr2.len
  rw [u32s_len] at HR2 ⊢
  have HB2 := Lib.hid (HB1.out.trans (hb2.mono (by have := HB1.out.size; omega)))
  have HF2 := Lib.hid (HF1.out.below hb2 HF1.out.lt)
  clear hr2 hb2 hw1 HF1 HCH
  go_wp2_with fail
  go_loopw [5, 12] (fun y x wr => ∃ i s : Nat, i ≤ cs.length ∧ x = .int .i64 i ∧ y = .int .i64 s ∧ s ≤ B ∧ Hid (searchG B (tableS h) (fun c => c) (cs.drop i) s = x0) ∧ Hid (Below w2.heap.size w2 wr)) (fun _ x _ => cs.length - (intOf x).toNat)
  case atStart => exact ⟨0, 0, by omega, rfl, rfl, by omega, HZR, Below.refl _ _⟩
  case round =>
    clear HZR
    obtain ⟨i, s, hi, rfl, rfl, hs, HT, HBR⟩ := hrel
    have hbs := HBR.out.size
    have HBC := Lib.hid (HB2.out.trans (HBR.out.mono (by have := HB2.out.size; omega)))
    have HFC := Lib.hid (HF2.out.below HBR.out HF2.out.lt)
    by_cases hlt : i < cs.length
    · obtain ⟨b, o, pc, he, hbl, hcells⟩ := (HR2.out.below HBR.out (Nat.le_refl _)).opened (by rw [u32s_len]; omega)
      rw [u32s_len] at he
      simp only [Value.slice.injEq] at he
      obtain ⟨rfl, -, rfl⟩ := he
      have hcj := hcells i _ (u32s_get hlt)
      have hcc := HCL.out _ (List.getElem_mem hlt)
      have hcp := HCP.out _ (List.getElem_mem hlt)
      have hnx := HNX.out i hlt s
      clear hcells hbl
      generalize cs[i] = ci at *
      obtain ⟨wa, hwa⟩ : ∃ wa, wr.alloc (.cells #[] 3) = wa := ⟨_, rfl⟩
      have hba : Below wr.heap.size wr wa := by rw [← hwa]; exact (Below.refl _ wr).alloc (Nat.le_refl _) _
      have HBA := Lib.hid hba
      have hnwr : N < wr.heap.size := HFC.out.lt
      have HNW : Hid (w.heap.size ≤ wr.heap.size) := by rw [hN]; exact Nat.le_of_lt hnwr
      have HFR := Lib.hid (refFrom_any h HH0.out w (.slice la (tableS h).length lc) ci ci B HV.out hcp hcc hBd HOL.out ((tableS h).length + 1) (fun k => k < wr.heap.size) [] s (.slice (some ⟨wr.heap.size, 0, none⟩) 0 0) wa (fun k hk => Nat.lt_of_lt_of_le hk hba.size) (by have := HBC.out.trans (hba.mono (by omega)); rwa [hN])
        (.inl ⟨rfl, _, _, rfl⟩) (.inr ⟨_, _, _, rfl⟩) (fun a n c he => by simp only [Value.slice.injEq] at he; omega) List.nodup_nil (by simp) hs (by have := left_le (tableS h) ci []; omega))
      have HAN := Lib.hid (from_ans (B := B) (l := tableS h) (who := ci) (c := ci) ((tableS h).length + 1) [] s hs (by have := left_le (tableS h) ci []; omega))
      have HT2 := Lib.hid (hnx.symm.trans HT.out)
      obtain ⟨x, hx⟩ : ∃ x, fromS B (tableS h) ci ci ((tableS h).length + 1) [] s = x := ⟨_, rfl⟩
      rw [hx] at HFR HAN HT2
      unfold gC refX fndV at HFR
      obtain ⟨cx, hcx⟩ : ∃ cx, (if x.1 = 0 then ci else 0) = cx := ⟨_, rfl⟩
      rw [hcx] at HFR HT2
      clear hx hcx hnx hba HT
      go_wp2_with fail
      refine HFR.out.mono ?_
      rintro e w6 ⟨rv6, rfl, hr6, hb6⟩
      obtain ⟨a6, c6, rfl⟩ := hr6.rd.len
      obtain ⟨n6, hn6⟩ : ∃ z, (nats x.2.1).length = z := ⟨_, rfl⟩
      rw [hn6] at hr6 ⊢
      clear hn6
      obtain ⟨N7, hN7⟩ : ∃ z, w6.heap.size = z := ⟨_, rfl⟩
      obtain ⟨w7, hw7⟩ : ∃ z, w6.alloc (.cells #[.int .i64 (x.1 : Int), .int .u32 (cx : Int), .slice a6 n6 c6, .int .i64 (x.2.2 : Int)] 26) = z := ⟨_, rfl⟩
      have ha7 : At w7 N7 #[.int .i64 (x.1 : Int), .int .u32 (cx : Int), .slice a6 n6 c6, .int .i64 (x.2.2 : Int)] 26 := by
        rw [← hw7, ← hN7]; exact At.new w6 _ _
      have hb67 : Below w6.heap.size w6 w7 := by rw [← hw7]; exact (Below.refl _ w6).alloc (Nat.le_refl _) _
      have hba := HBA.out
      have hbr7 := hba.trans ((hb6.trans (hb67.mono hb6.size)).mono hba.size)
      have HB7 := Lib.hid (HBR.out.trans (hbr7.mono hbs))
      have HBC7 := Lib.hid (HBC.out.trans (hbr7.mono (by omega)))
      have HR7 := Lib.hid (hr6.below hb67)
      have q0 : w7.cell? ⟨N7, 0, none⟩ = some (.int .i64 (x.1 : Int)) := ha7.cell rfl
      have q1 : w7.cell? ⟨N7, 1, none⟩ = some (.int .u32 (cx : Int)) := ha7.cell rfl
      have q2 : w7.cell? ⟨N7, 2, none⟩ = some (.slice a6 n6 c6) := ha7.cell rfl
      have q3 : w7.cell? ⟨N7, 3, none⟩ = some (.int .i64 (x.2.2 : Int)) := ha7.cell rfl
      have HFC7 := Lib.hid (HFC.out.below hbr7 HFC.out.lt)
      clear ha7 hb67 hr6 hb6 hba hbr7 hcj HFR HBA HBC HFC
      have hle := HAN.out.le
      by_cases hx1 : x.1 = 1
      · have tx : ((x.1 : Int) != 1) = false := by rw [hx1]; rfl
        have HT7 := HT2.out
        rw [if_pos hx1] at HT7
        have HT8 := Lib.hid HT7
        clear HT2 HT7 hx1
        go_wp2_with fail
        go_roundw
        case rel => exact ⟨i + 1, x.2.2, by omega, by go_num, rfl, hle, HT8, HB7⟩
        case measure => simp [intOf]; omega
      · have tx : ((x.1 : Int) != 1) = true := by simp; omega
        have HT7 := HT2.out
        rw [if_neg hx1] at HT7
        subst HT7
        clear HT2 hx1
        have HBC := HBC7
        have HFC := HFC7
        have z0 : w7.cell? ⟨N, 0, none⟩ = some (.int .i64 0) := HFC.out.cell rfl
        have z1 : w7.cell? ⟨N, 1, none⟩ = some (.int .u32 0) := HFC.out.cell rfl
        have z2 : w7.cell? ⟨N, 2, none⟩ = some (.slice none 0 0) := HFC.out.cell rfl
        have z3 : w7.cell? ⟨N, 3, none⟩ = some (.int .i64 0) := HFC.out.cell rfl
        have y0 : w7.frozen? ⟨N, 0, none⟩ = false := HFC.out.free 0
        have y1 : w7.frozen? ⟨N, 1, none⟩ = false := HFC.out.free 1
        have y2 : w7.frozen? ⟨N, 2, none⟩ = false := HFC.out.free 2
        have y3 : w7.frozen? ⟨N, 3, none⟩ = false := HFC.out.free 3
        go_wp2_with fail
        have HZ : Hid (At ((((w7.setCell ⟨N, 0, none⟩ (.int .i64 (x.1 : Int))).setCell ⟨N, 1, none⟩ (.int .u32 (cx : Int))).setCell ⟨N, 2, none⟩ (.slice a6 n6 c6)).setCell ⟨N, 3, none⟩ (.int .i64 (x.2.2 : Int))) N (fnd x.1 cx (.slice a6 n6 c6) x.2.2) 26) := fnd_set (v' := x.1) (c' := cx) (s' := x.2.2) HFC.out
        have HO := Lib.hid (fnd_only w7 N (.int .i64 (x.1 : Int)) (.int .u32 (cx : Int)) (.slice a6 n6 c6) (.int .i64 (x.2.2 : Int)))
        generalize (((w7.setCell ⟨N, 0, none⟩ (.int .i64 (x.1 : Int))).setCell ⟨N, 1, none⟩ (.int .u32 (cx : Int))).setCell ⟨N, 2, none⟩ (.slice a6 n6 c6)).setCell ⟨N, 3, none⟩ (.int .i64 (x.2.2 : Int)) = w9 at *
        clear z0 z1 z2 z3 y0 y1 y2 y3
        have z0 : w9.cell? ⟨N, 0, none⟩ = some (.int .i64 (x.1 : Int)) := HZ.out.cell rfl
        have z1 : w9.cell? ⟨N, 1, none⟩ = some (.int .u32 (cx : Int)) := HZ.out.cell rfl
        have z2 : w9.cell? ⟨N, 2, none⟩ = some (.slice a6 n6 c6) := HZ.out.cell rfl
        have z3 : w9.cell? ⟨N, 3, none⟩ = some (.int .i64 (x.2.2 : Int)) := HZ.out.cell rfl
        have HBF : Hid (Below N w w9) := HBC.out.trans (HO.out.below (by have := HBC.out.size; omega) (fun k _ hk => by omega))
        refine bodyPost_ret (v := fndV x.1 cx (.slice a6 n6 c6) x.2.2) (by simp [results, Tryd.results9, go_sem, z0, z1, z2, z3]; rfl) rfl ?_
        exact ⟨.slice a6 n6 c6, rfl, (HR7.out.only HO.out (fun k hk => by rw [hk]; exact hnwr)).less (fun k hk => by have := HNW.out; omega), by first | exact HBF.out | (rw [hN]; exact HBF.out)⟩
    · obtain rfl : i = cs.length := by omega
      have HT2 := HT.out
      rw [HEND.out] at HT2
      subst HT2
      clear HT
      have z0 : wr.cell? ⟨N, 0, none⟩ = some (.int .i64 0) := HFC.out.cell rfl
      have z1 : wr.cell? ⟨N, 1, none⟩ = some (.int .u32 0) := HFC.out.cell rfl
      have z2 : wr.cell? ⟨N, 2, none⟩ = some (.slice none 0 0) := HFC.out.cell rfl
      have z3 : wr.cell? ⟨N, 3, none⟩ = some (.int .i64 0) := HFC.out.cell rfl
      have y0 : wr.frozen? ⟨N, 0, none⟩ = false := HFC.out.free 0
      have y1 : wr.frozen? ⟨N, 1, none⟩ = false := HFC.out.free 1
      have y2 : wr.frozen? ⟨N, 2, none⟩ = false := HFC.out.free 2
      have y3 : wr.frozen? ⟨N, 3, none⟩ = false := HFC.out.free 3
      go_wp2_with fail
      have HZ : Hid (At ((((wr.setCell ⟨N, 0, none⟩ (.int .i64 1)).setCell ⟨N, 1, none⟩ (.int .u32 0)).setCell ⟨N, 2, none⟩ (.slice none 0 0)).setCell ⟨N, 3, none⟩ (.int .i64 (s : Int))) N (fnd 1 0 (.slice none 0 0) s) 26) := fnd_set (v' := 1) (c' := 0) (s' := s) HFC.out
      have HO := Lib.hid (fnd_only wr N (.int .i64 1) (.int .u32 0) (.slice none 0 0) (.int .i64 (s : Int)))
      generalize (((wr.setCell ⟨N, 0, none⟩ (.int .i64 1)).setCell ⟨N, 1, none⟩ (.int .u32 0)).setCell ⟨N, 2, none⟩ (.slice none 0 0)).setCell ⟨N, 3, none⟩ (.int .i64 (s : Int)) = w9 at *
      clear z0 z1 z2 z3 y0 y1 y2 y3
      have z0 : w9.cell? ⟨N, 0, none⟩ = some (.int .i64 1) := HZ.out.cell rfl
      have z1 : w9.cell? ⟨N, 1, none⟩ = some (.int .u32 0) := HZ.out.cell rfl
      have z2 : w9.cell? ⟨N, 2, none⟩ = some (.slice none 0 0) := HZ.out.cell rfl
      have z3 : w9.cell? ⟨N, 3, none⟩ = some (.int .i64 (s : Int)) := HZ.out.cell rfl
      have HBF : Hid (Below N w w9) := HBC.out.trans (HO.out.below (by have := HBC.out.size; omega) (fun k _ hk => by omega))
      refine bodyPost_ret (v := fndV 1 0 (.slice none 0 0) s) (by simp [results, Tryd.results9, go_sem, z0, z1, z2, z3]; rfl) rfl ?_
      exact ⟨_, rfl, .inl ⟨rfl, _, _, rfl⟩, by first | exact HBF.out | (rw [hN]; exact HBF.out)⟩
end Go.Proofs.YtoemcdcabamgiaaDoor
/- Plain words: what the strict check finds, and the events of those that are to commit. -/
namespace Go.Proofs.YtoemcdcabamgiaaDoor.WPlain
end Go.Proofs.YtoemcdcabamgiaaDoor.WPlain
namespace Go.Proofs.YtoemcdcabamgiaaDoor.QPlain
end Go.Proofs.YtoemcdcabamgiaaDoor.QPlain
namespace Go.Proofs.YtoemcdcabamgiaaDoor.RPlain
end Go.Proofs.YtoemcdcabamgiaaDoor.RPlain
namespace Go.Proofs.YtoemcdcabamgiaaDoor.RPlain
open WPlain QPlain

theorem strict_facts {h : List Ev} (h0 : (checkS h).2 = 0) {B : Nat} {x : Nat × Nat × List Nat × Nat} (hx : searchG B (tableS h) (fun c => c) (chL (tableS h)) 0 = x) :
    (x.1 = 0 ∨ x.1 = 1 ∨ x.1 = 2) ∧ (x.1 ≠ 0 → x.2.1 = 0 ∧ x.2.2.1 = []) ∧ (x.1 = 0 → x.2.1 < 2 ^ (tableS h).length ∧ Expl (tableS h) x.2.1 x.2.1 x.2.2.1) ∧ x.2.2.1.length ≤ 6 := by
  obtain ⟨g1, _, _, _, g5, g6, _⟩ := search_tells (B := B) (l := tableS h) (W := fun c => c) (self_table h) (chL (tableS h)) 0 (Nat.zero_le _)
  rw [hx] at g1 g5 g6
  refine ⟨g1, g5, fun h1 => ⟨(mem_chL.1 (g6 h1).1).1, (g6 h1).2⟩, ?_⟩
  by_cases h1 : x.1 = 0
  · exact expl_len (table_six h0) (g6 h1).2
  · rw [(g5 h1).2]; exact Nat.zero_le _
theorem strict_known {h : List Ev} (h0 : (checkS h).2 = 0) {B : Nat} (hB : 125184 ≤ B) : (searchG B (tableS h) (fun c => c) (chL (tableS h)) 0).1 ≠ 2 := by
  have h1 := search_known (B := B) (W := fun c => c) (self_table h) (table_six h0) hB
  rwa [choices_chL (table_six h0)] at h1
theorem strict_wide {h : List Ev} (h0 : (checkS h).2 = 0) {B : Nat} (hB : 125184 ≤ B) (hy : (searchG B (tableS h) (fun _ => 2 ^ (tableS h).length - 1) (chL (tableS h)) 0).1 = 0) : (searchG B (tableS h) (fun c => c) (chL (tableS h)) 0).1 = 0 := by
  have h1 := strict_wider h0 hB
  unfold searchS strictS at h1
  rw [choices_chL (table_six h0)] at h1
  exact h1 hy
theorem strict_less {h : List Ev} (h0 : (checkS h).2 = 0) {B : Nat} (hB : 125184 ≤ B) :
    (searchG B (tableS h) (fun c => c) (chL (tableS h)) 0).1 = (searchG B (tableS (keepP (mayN h) h)) (fun c => c) (chL (tableS (keepP (mayN h) h))) 0).1 ∧
    (searchG B (tableS h) (fun c => c) (chL (tableS h)) 0).2.2.1.length = (searchG B (tableS (keepP (mayN h) h)) (fun c => c) (chL (tableS (keepP (mayN h) h))) 0).2.2.1.length := by
  have h1 := less_strict h0 hB
  unfold strictS at h1
  rwa [choices_chL (table_six h0), choices_chL (table_six (keep_check (mayN h) h0))] at h1
theorem expl_keepsW {l : List Tx} {W C : Nat} {R : List Nat} (h : Expl l W C R) : keepsS l (R.map fun x : Nat => (x : Int)) = true := by
  rw [keeps_nat]
  refine (List.pairwise_and_iff.2 ⟨h.nodup, h.keeps⟩).imp fun {b a} hab => ⟨fun he => hab.1 he.symm, hab.2⟩
end Go.Proofs.YtoemcdcabamgiaaDoor.RPlain
namespace Go.Proofs.YtoemcdcabamgiaaDoor
open Go.RowKit WPlain QPlain RPlain
/-- is it one of those that are not to commit, by the table? -/
def opn (l : List Tx) (t : Int) : Bool := match findS l t with
  | some k => (match l[k]? with | some X => X.s == 3 || X.s == 0 | none => true)
  | none => true
theorem findS_at {l : List Tx} {n : Int} {k : Nat} (h : findS l n = some k) : ∃ hk : k < l.length, l[k].n = n := by
  unfold findS at h
  rw [List.findIdx?_eq_some_iff_getElem] at h
  obtain ⟨hk, h1, _⟩ := h
  exact ⟨hk, by simpa using h1⟩
theorem opn_may {h : List Ev} {y : Ev} (hy : y ∈ h) : opn (tableS h) y.t = !mayN h y.t := by
  have hm : y.t ∈ namesOf h := (mem_names h y.t).2 ⟨y, hy, rfl⟩
  cases hf : findS (tableS h) y.t with
  | none =>
    exfalso
    obtain ⟨i, hi, hn⟩ := List.getElem_of_mem hm
    unfold findS at hf
    rw [List.findIdx?_eq_none_iff] at hf
    have h1 := hf _ (List.getElem_mem (l := tableS h) (n := i) (by rw [tableS_len]; exact hi))
    rw [tableS_get hi] at h1
    have h2 : (txOf h (namesOf h)[i]).n = y.t := hn
    simp [h2] at h1
  | some k =>
    obtain ⟨hk, hn⟩ := findS_at hf
    have hk2 : k < (namesOf h).length := by rwa [tableS_len] at hk
    have hX : (tableS h)[k] = txOf h y.t := by
      rw [tableS_get hk2] at hn ⊢
      have h2 : (namesOf h)[k] = y.t := hn
      rw [h2]
    unfold opn
    rw [hf]
    simp only
    rw [List.getElem?_eq_getElem hk, hX]
    unfold mayN mayC
    have hs : (txOf h y.t).s = stateS (lastOf h y.t) := rfl
    simp only [hs]
    unfold stateS
    by_cases h7 : lastOf h y.t = 7
    · simp [h7]
    · by_cases h9 : lastOf h y.t = 9
      · simp [h9]
      · by_cases h6 : lastOf h y.t = 6
        · simp [h6]
        · simp [h7, h9, h6]
/-- the events that a rule leaves -/
def leftE (P : Ev → Bool) (h : List Ev) : List Ev := h.filter fun y => !P y
theorem leftE_may (h : List Ev) : leftE (fun y => opn (tableS h) y.t) h = keepP (mayN h) h := by
  unfold leftE keepP
  refine List.filter_congr fun y hy => ?_
  show (!opn (tableS h) y.t) = _
  rw [opn_may hy, Bool.not_not]
theorem leftE_more {P : Ev → Bool} {h : List Ev} {j : Nat} (hj : j < h.length) : leftE P (h.take (j + 1)) = if P h[j] = false then leftE P (h.take j) ++ [h[j]] else leftE P (h.take j) := by
  unfold leftE
  rw [List.take_succ_eq_append_getElem hj, List.filter_append]
  simp only [List.filter_cons, List.filter_nil, Bool.not_eq_true']
  split
  · rfl
  · rw [List.append_nil]
theorem leftE_all {P : Ev → Bool} {h : List Ev} (hall : ∀ y ∈ h, P y = false) : leftE P h = h := by
  unfold leftE
  rw [List.filter_eq_self]
  intro y hy
  simp [hall y hy]
end Go.Proofs.YtoemcdcabamgiaaDoor
