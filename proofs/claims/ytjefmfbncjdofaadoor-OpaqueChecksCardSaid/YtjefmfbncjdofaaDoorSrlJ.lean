/- The walk of the reference's Search. -/
import Derived.Test.YtjefmfbncjdofaaDoorSrlI
namespace Go.Proofs.YtjefmfbncjdofaaDoor.WPlain
end Go.Proofs.YtjefmfbncjdofaaDoor.WPlain
namespace Go.Proofs.YtjefmfbncjdofaaDoor.QPlain
end Go.Proofs.YtjefmfbncjdofaaDoor.QPlain
namespace Go.Proofs.YtjefmfbncjdofaaDoor.RPlain
end Go.Proofs.YtjefmfbncjdofaaDoor.RPlain
namespace Go.Proofs.YtjefmfbncjdofaaDoor
open Go.RowKit WPlain QPlain RPlain

theorem capE {a : Option Addr} {n c : Nat} (h : n ≤ c) : ∀ a' n' c', Value.slice a n c = .slice a' n' c' → n' ≤ c' := fun _ _ _ he => by
  simp only [Value.slice.injEq] at he
  omega
theorem ops_sixty {h : List Ev} (h0 : (checkS h).2 = 0) : ∀ i, (opsAt (tableS h) i).length ≤ 60 := fun i => by
  unfold opsAt
  cases hg : (tableS h)[i]? with
  | none => exact Nat.zero_le _
  | some X => exact (table_ops h0 _ (List.mem_of_getElem? hg)).2
set_option maxRecDepth 100000 in
set_option maxHeartbeats 8000000 in
theorem refSearchX_any (h : List Ev) (h0 : (checkS h).2 = 0) (lv : Value) (B : Nat) (w : World) (hv : Txs w lv (tableS h)) (hBd : B ≤ 1000000) (hol : ∀ i, (opsAt (tableS h) i).length ≤ 60) :
    Calls Tryd.prog 22 #[lv, .int .i64 (B : Int)] w fun e w' => ∃ rv, e = .returned (fndV (searchG B (tableS h) (fun _ => 2 ^ (tableS h).length - 1) (choicesS (tableS h)) 0).1 (searchG B (tableS h) (fun _ => 2 ^ (tableS h).length - 1) (choicesS (tableS h)) 0).2.1 rv (searchG B (tableS h) (fun _ => 2 ^ (tableS h).length - 1) (choicesS (tableS h)) 0).2.2.2) ∧
      RdX (fun k => k < w.heap.size) w' rv (nats (searchG B (tableS h) (fun _ => 2 ^ (tableS h).length - 1) (choicesS (tableS h)) 0).2.2.1) ∧ Below w.heap.size w w' := by
  have h6 := table_six h0
  have h64 := pow_le_64 h6
  have hpos : 0 < 2 ^ (tableS h).length := Nat.two_pow_pos _
  obtain ⟨who, hwho⟩ : ∃ who, 2 ^ (tableS h).length - 1 = who := ⟨_, rfl⟩
  have hwl : who < 2 ^ (tableS h).length := by omega
  obtain ⟨cs, hcs⟩ : ∃ cs, choicesS (tableS h) = cs := ⟨_, rfl⟩
  have HCL : Hid (∀ c ∈ cs, c < 4294967296) := fun c hc => by
    rw [← hcs, choices_chL h6] at hc
    have := (mem_chL.1 hc).1
    omega
  have hcl : cs.length ≤ 64 := by rw [← hcs]; exact choices_count _
  obtain ⟨N, hN⟩ : ∃ N, w.heap.size = N := ⟨_, rfl⟩
  obtain ⟨w1, hw1⟩ : ∃ w1, w.alloc (.cells #[.int .i64 0, .int .u32 0, .slice none 0 0, .int .i64 0] 37) = w1 := ⟨_, rfl⟩
  have hf1 : At w1 N (fnd 0 0 (.slice none 0 0) 0) 37 := by
    rw [← hw1, ← hN]
    exact At.new w _ _
  have hb1 : Below N w w1 := by
    rw [← hw1, ← hN]
    exact (Below.refl _ w).alloc (Nat.le_refl _) _
  have hv1 := hv.below hb1 (by omega)
  have HCH := Lib.hid (refChoices_any lv (tableS h) w1 hv1 (by omega))
  rw [hcs] at HCH ⊢
  have HALL := Lib.hid (fun (W : World) (hW : Below w.heap.size w W) => refAllS_any lv (tableS h) W (hv.below hW (Nat.le_refl _)) h6)
  rw [hwho] at HALL ⊢
  obtain ⟨x0, hx0⟩ : ∃ x0, searchG B (tableS h) (fun _ => who) cs 0 = x0 := ⟨_, rfl⟩
  rw [hx0]
  have HZR : Hid (searchG B (tableS h) (fun _ => who) (cs.drop 0) 0 = x0) := hx0
  have HNX : Hid (∀ i (hi : i < cs.length) s, searchG B (tableS h) (fun _ => who) (cs.drop i) s = if (fromS B (tableS h) who cs[i] ((tableS h).length + 1) [] s).1 = 1 then searchG B (tableS h) (fun _ => who) (cs.drop (i + 1)) (fromS B (tableS h) who cs[i] ((tableS h).length + 1) [] s).2.2
      else ((fromS B (tableS h) who cs[i] ((tableS h).length + 1) [] s).1, (if (fromS B (tableS h) who cs[i] ((tableS h).length + 1) [] s).1 = 0 then cs[i] else 0), (fromS B (tableS h) who cs[i] ((tableS h).length + 1) [] s).2)) := fun i hi s => by
    rw [List.drop_eq_getElem_cons hi, searchG]
  have HEND : Hid (∀ s, searchG B (tableS h) (fun _ => who) (cs.drop cs.length) s = (1, 0, [], s)) := fun s => by rw [List.drop_length]; rfl
  have HV := Lib.hid hv
  have HF1 := Lib.hid hf1
  have HB1 := Lib.hid hb1
  have HWL := Lib.hid hwl
  have HOL := Lib.hid hol
  have HH0 := Lib.hid h0
  obtain ⟨la, lc, rfl⟩ := hv.len
  clear hv hf1 hb1 hv1 hx0 hcs hwho hwl hol h0 h64 hpos
  go_enter Tryd.func22, Tryd.ntmps22
  go_wp2_with fail
  refine HCH.out.mono ?_
  rintro e w2 ⟨v2, rfl, hr2, hb2⟩
  have HR2 := Lib.hid hr2
  obtain ⟨ca, cc, rfl⟩ := hr2.len
  rw [u32s_len] at HR2 ⊢
  have HB2 := Lib.hid (HB1.out.trans (hb2.mono (by have := HB1.out.size; omega)))
  have HF2 := Lib.hid (HF1.out.below hb2 HF1.out.lt)
  clear hr2 hb2 hw1 HF1 HCH
  go_wp2_with fail
  go_loopw [5, 12] (fun y x wr => ∃ i s : Nat, i ≤ cs.length ∧ x = .int .i64 i ∧ y = .int .i64 s ∧ s ≤ B ∧ Hid (searchG B (tableS h) (fun _ => who) (cs.drop i) s = x0) ∧ Hid (Below w2.heap.size w2 wr)) (fun _ x _ => cs.length - (intOf x).toNat)
  case atStart => exact ⟨0, 0, by omega, rfl, rfl, by omega, HZR, Below.refl _ _⟩
  case round =>
    clear HZR
    obtain ⟨i, s, hi, rfl, rfl, hs, HT, HBR⟩ := hrel
    have hbs := HBR.out.size
    have HBC := Lib.hid (HB2.out.trans (HBR.out.mono (by have := HB2.out.size; omega)))
    have HFC := Lib.hid (HF2.out.below HBR.out HF2.out.lt)
    by_cases hlt : i < cs.length
    · obtain ⟨b, o, pc, he, hbl, hcells⟩ := (HR2.out.below HBR.out (Nat.le_refl _)).opened (by rw [u32s_len]; omega)
      rw [u32s_len] at he
      simp only [Value.slice.injEq] at he
      obtain ⟨rfl, -, rfl⟩ := he
      have hcj := hcells i _ (u32s_get hlt)
      have hcc := HCL.out _ (List.getElem_mem hlt)
      have hnx := HNX.out i hlt s
      clear hcells hbl
      generalize cs[i] = ci at *
      obtain ⟨wa, hwa⟩ : ∃ wa, wr.alloc (.cells #[] 3) = wa := ⟨_, rfl⟩
      have hba : Below wr.heap.size wr wa := by rw [← hwa]; exact (Below.refl _ wr).alloc (Nat.le_refl _) _
      have HBA := Lib.hid hba
      have hnwr : N < wr.heap.size := HFC.out.lt
      have HNW : Hid (w.heap.size ≤ wr.heap.size) := by rw [hN]; exact Nat.le_of_lt hnwr
      have HFR := Lib.hid (refFrom_any h HH0.out w (.slice la (tableS h).length lc) who ci B HV.out HWL.out hcc hBd HOL.out ((tableS h).length + 1) (fun k => k < wr.heap.size) [] s (.slice (some ⟨wr.heap.size, 0, none⟩) 0 0) wa (fun k hk => Nat.lt_of_lt_of_le hk hba.size) (by have := HBC.out.trans (hba.mono (by omega)); rwa [hN])
        (.inl ⟨rfl, _, _, rfl⟩) (.inr ⟨_, _, _, rfl⟩) (fun a n c he => by simp only [Value.slice.injEq] at he; omega) List.nodup_nil (by simp) hs (by have := left_le (tableS h) who []; omega))
      have HAN := Lib.hid (from_ans (B := B) (l := tableS h) (who := who) (c := ci) ((tableS h).length + 1) [] s hs (by have := left_le (tableS h) who []; omega))
      have HAL := Lib.hid (HALL.out wr (by rw [hN]; exact HBC.out))
      have HT2 := Lib.hid (hnx.symm.trans HT.out)
      obtain ⟨x, hx⟩ : ∃ x, fromS B (tableS h) who ci ((tableS h).length + 1) [] s = x := ⟨_, rfl⟩
      rw [hx] at HFR HAN HT2
      unfold gC refX fndV at HFR
      obtain ⟨cx, hcx⟩ : ∃ cx, (if x.1 = 0 then ci else 0) = cx := ⟨_, rfl⟩
      rw [hcx] at HFR HT2
      clear hx hcx hnx hba HT
      go_wp2_with (go_at_call 38; refine HAL.out.mono ?_; rintro e w9 ⟨rfl, hw9⟩; rw [hw9]; clear hw9)
      refine HFR.out.mono ?_
      rintro e w6 ⟨rv6, rfl, hr6, hb6⟩
      obtain ⟨a6, c6, rfl⟩ := hr6.rd.len
      obtain ⟨n6, hn6⟩ : ∃ z, (nats x.2.1).length = z := ⟨_, rfl⟩
      rw [hn6] at hr6 ⊢
      clear hn6
      obtain ⟨N7, hN7⟩ : ∃ z, w6.heap.size = z := ⟨_, rfl⟩
      obtain ⟨w7, hw7⟩ : ∃ z, w6.alloc (.cells #[.int .i64 (x.1 : Int), .int .u32 (cx : Int), .slice a6 n6 c6, .int .i64 (x.2.2 : Int)] 37) = z := ⟨_, rfl⟩
      have ha7 : At w7 N7 #[.int .i64 (x.1 : Int), .int .u32 (cx : Int), .slice a6 n6 c6, .int .i64 (x.2.2 : Int)] 37 := by
        rw [← hw7, ← hN7]; exact At.new w6 _ _
      have hb67 : Below w6.heap.size w6 w7 := by rw [← hw7]; exact (Below.refl _ w6).alloc (Nat.le_refl _) _
      have hba := HBA.out
      have hbr7 := hba.trans ((hb6.trans (hb67.mono hb6.size)).mono hba.size)
      have HB7 := Lib.hid (HBR.out.trans (hbr7.mono hbs))
      have HBC7 := Lib.hid (HBC.out.trans (hbr7.mono (by omega)))
      have HR7 := Lib.hid (hr6.below hb67)
      have q0 : w7.cell? ⟨N7, 0, none⟩ = some (.int .i64 (x.1 : Int)) := ha7.cell rfl
      have q1 : w7.cell? ⟨N7, 1, none⟩ = some (.int .u32 (cx : Int)) := ha7.cell rfl
      have q2 : w7.cell? ⟨N7, 2, none⟩ = some (.slice a6 n6 c6) := ha7.cell rfl
      have q3 : w7.cell? ⟨N7, 3, none⟩ = some (.int .i64 (x.2.2 : Int)) := ha7.cell rfl
      have HFC7 := Lib.hid (HFC.out.below hbr7 HFC.out.lt)
      clear ha7 hb67 hr6 hb6 hba hbr7 hcj HFR HBA HBC HFC
      have hle := HAN.out.le
      by_cases hx1 : x.1 = 1
      · have tx : ((x.1 : Int) != 1) = false := by rw [hx1]; rfl
        have HT7 := HT2.out
        rw [if_pos hx1] at HT7
        have HT8 := Lib.hid HT7
        clear HT2 HT7 hx1
        go_wp2_with fail
        go_roundw
        case rel => exact ⟨i + 1, x.2.2, by omega, by go_num, rfl, hle, HT8, HB7⟩
        case measure => simp [intOf]; omega
      · have tx : ((x.1 : Int) != 1) = true := by simp; omega
        have HT7 := HT2.out
        rw [if_neg hx1] at HT7
        subst HT7
        clear HT2 hx1
        have HBC := HBC7
        have HFC := HFC7
        have z0 : w7.cell? ⟨N, 0, none⟩ = some (.int .i64 0) := HFC.out.cell rfl
        have z1 : w7.cell? ⟨N, 1, none⟩ = some (.int .u32 0) := HFC.out.cell rfl
        have z2 : w7.cell? ⟨N, 2, none⟩ = some (.slice none 0 0) := HFC.out.cell rfl
        have z3 : w7.cell? ⟨N, 3, none⟩ = some (.int .i64 0) := HFC.out.cell rfl
        have y0 : w7.frozen? ⟨N, 0, none⟩ = false := HFC.out.free 0
        have y1 : w7.frozen? ⟨N, 1, none⟩ = false := HFC.out.free 1
        have y2 : w7.frozen? ⟨N, 2, none⟩ = false := HFC.out.free 2
        have y3 : w7.frozen? ⟨N, 3, none⟩ = false := HFC.out.free 3
        go_wp2_with fail
        have HZ : Hid (At ((((w7.setCell ⟨N, 0, none⟩ (.int .i64 (x.1 : Int))).setCell ⟨N, 1, none⟩ (.int .u32 (cx : Int))).setCell ⟨N, 2, none⟩ (.slice a6 n6 c6)).setCell ⟨N, 3, none⟩ (.int .i64 (x.2.2 : Int))) N (fnd x.1 cx (.slice a6 n6 c6) x.2.2) 37) := fnd_set (v' := x.1) (c' := cx) (s' := x.2.2) HFC.out
        have HO := Lib.hid (fnd_only w7 N (.int .i64 (x.1 : Int)) (.int .u32 (cx : Int)) (.slice a6 n6 c6) (.int .i64 (x.2.2 : Int)))
        generalize (((w7.setCell ⟨N, 0, none⟩ (.int .i64 (x.1 : Int))).setCell ⟨N, 1, none⟩ (.int .u32 (cx : Int))).setCell ⟨N, 2, none⟩ (.slice a6 n6 c6)).setCell ⟨N, 3, none⟩ (.int .i64 (x.2.2 : Int)) = w9 at *
        clear z0 z1 z2 z3 y0 y1 y2 y3
        have z0 : w9.cell? ⟨N, 0, none⟩ = some (.int .i64 (x.1 : Int)) := HZ.out.cell rfl
        have z1 : w9.cell? ⟨N, 1, none⟩ = some (.int .u32 (cx : Int)) := HZ.out.cell rfl
        have z2 : w9.cell? ⟨N, 2, none⟩ = some (.slice a6 n6 c6) := HZ.out.cell rfl
        have z3 : w9.cell? ⟨N, 3, none⟩ = some (.int .i64 (x.2.2 : Int)) := HZ.out.cell rfl
        have HBF : Hid (Below N w w9) := HBC.out.trans (HO.out.below (by have := HBC.out.size; omega) (fun k _ hk => by omega))
        refine bodyPost_ret (v := fndV x.1 cx (.slice a6 n6 c6) x.2.2) (by simp [results, Tryd.results22, go_sem, z0, z1, z2, z3]; rfl) rfl ?_
        exact ⟨.slice a6 n6 c6, rfl, (HR7.out.only HO.out (fun k hk => by rw [hk]; exact hnwr)).less (fun k hk => by have := HNW.out; omega), by first | exact HBF.out | (rw [hN]; exact HBF.out)⟩
    · obtain rfl : i = cs.length := by omega
      have HT2 := HT.out
      rw [HEND.out] at HT2
      subst HT2
      clear HT
      have z0 : wr.cell? ⟨N, 0, none⟩ = some (.int .i64 0) := HFC.out.cell rfl
      have z1 : wr.cell? ⟨N, 1, none⟩ = some (.int .u32 0) := HFC.out.cell rfl
      have z2 : wr.cell? ⟨N, 2, none⟩ = some (.slice none 0 0) := HFC.out.cell rfl
      have z3 : wr.cell? ⟨N, 3, none⟩ = some (.int .i64 0) := HFC.out.cell rfl
      have y0 : wr.frozen? ⟨N, 0, none⟩ = false := HFC.out.free 0
      have y1 : wr.frozen? ⟨N, 1, none⟩ = false := HFC.out.free 1
      have y2 : wr.frozen? ⟨N, 2, none⟩ = false := HFC.out.free 2
      have y3 : wr.frozen? ⟨N, 3, none⟩ = false := HFC.out.free 3
      go_wp2_with fail
      have HZ : Hid (At ((((wr.setCell ⟨N, 0, none⟩ (.int .i64 1)).setCell ⟨N, 1, none⟩ (.int .u32 0)).setCell ⟨N, 2, none⟩ (.slice none 0 0)).setCell ⟨N, 3, none⟩ (.int .i64 (s : Int))) N (fnd 1 0 (.slice none 0 0) s) 37) := fnd_set (v' := 1) (c' := 0) (s' := s) HFC.out
      have HO := Lib.hid (fnd_only wr N (.int .i64 1) (.int .u32 0) (.slice none 0 0) (.int .i64 (s : Int)))
      generalize (((wr.setCell ⟨N, 0, none⟩ (.int .i64 1)).setCell ⟨N, 1, none⟩ (.int .u32 0)).setCell ⟨N, 2, none⟩ (.slice none 0 0)).setCell ⟨N, 3, none⟩ (.int .i64 (s : Int)) = w9 at *
      clear z0 z1 z2 z3 y0 y1 y2 y3
      have z0 : w9.cell? ⟨N, 0, none⟩ = some (.int .i64 1) := HZ.out.cell rfl
      have z1 : w9.cell? ⟨N, 1, none⟩ = some (.int .u32 0) := HZ.out.cell rfl
      have z2 : w9.cell? ⟨N, 2, none⟩ = some (.slice none 0 0) := HZ.out.cell rfl
      have z3 : w9.cell? ⟨N, 3, none⟩ = some (.int .i64 (s : Int)) := HZ.out.cell rfl
      have HBF : Hid (Below N w w9) := HBC.out.trans (HO.out.below (by have := HBC.out.size; omega) (fun k _ hk => by omega))
      refine bodyPost_ret (v := fndV 1 0 (.slice none 0 0) s) (by simp [results, Tryd.results22, go_sem, z0, z1, z2, z3]; rfl) rfl ?_
      exact ⟨_, rfl, .inl ⟨rfl, _, _, rfl⟩, by first | exact HBF.out | (rw [hN]; exact HBF.out)⟩
theorem refSearch_any (h : List Ev) (h0 : (checkS h).2 = 0) (lv : Value) (B : Nat) (w : World) (hv : Txs w lv (tableS h)) (hBd : B ≤ 1000000) (hol : ∀ i, (opsAt (tableS h) i).length ≤ 60) :
    Calls Tryd.prog 22 #[lv, .int .i64 (B : Int)] w fun e w' => ∃ rv, e = .returned (fndV (searchG B (tableS h) (fun _ => 2 ^ (tableS h).length - 1) (choicesS (tableS h)) 0).1 (searchG B (tableS h) (fun _ => 2 ^ (tableS h).length - 1) (choicesS (tableS h)) 0).2.1 rv (searchG B (tableS h) (fun _ => 2 ^ (tableS h).length - 1) (choicesS (tableS h)) 0).2.2.2) ∧
      Rd w' rv (nats (searchG B (tableS h) (fun _ => 2 ^ (tableS h).length - 1) (choicesS (tableS h)) 0).2.2.1) ∧ Below w.heap.size w w' :=
  (refSearchX_any h h0 lv B w hv hBd hol).mono fun _ _ ⟨rv, he, hr, hb⟩ => ⟨rv, he, hr.rd, hb⟩
end Go.Proofs.YtjefmfbncjdofaaDoor
