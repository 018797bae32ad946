/- The walks of package unique's writersOf and Check. -/
import Derived.Test.YtkliahdgciajjaaDoorUnqD
import Derived.Test.YtkliahdgciajjaaDoorTabF
import Derived.Test.YtkliahdgciajjaaDoorMg12
import Derived.Test.YtkliahdgciajjaaDoorLegR
import Derived.Test.YtkliahdgciajjaaDoorMg11
namespace Go.Proofs.YtkliahdgciajjaaDoor.WPlain
end Go.Proofs.YtkliahdgciajjaaDoor.WPlain
namespace Go.Proofs.YtkliahdgciajjaaDoor.QPlain
end Go.Proofs.YtkliahdgciajjaaDoor.QPlain
namespace Go.Proofs.YtkliahdgciajjaaDoor.RPlain
end Go.Proofs.YtkliahdgciajjaaDoor.RPlain
namespace Go.Proofs.YtkliahdgciajjaaDoor
open Go.RowKit WPlain QPlain RPlain

/-- the error that Check tells -/
def errU (h : List Ev) : Nat := if (checkS h).2 = 0 then (if uniqueS (tableS h) = true then 0 else 9) else (checkS h).2
theorem allsW_drop {l : List Tx} {k : Nat} (hk : k < l.length) (S : Wrt) : allsW k (l.drop k) S = match addsW k l[k].o S with
    | some S' => allsW (k + 1) (l.drop (k + 1)) S'
    | none => none := by
  rw [List.drop_eq_getElem_cons hk]
  rfl
/-- what a table's Ops are like -/
structure Fine (l : List Tx) : Prop where
  six : l.length ≤ 6
  ops : ∀ X ∈ l, X.o.length ≤ 60 ∧ ∀ o ∈ X.o, (0 ≤ o.v ∧ o.v ≤ 7) ∧ (Lit.int .i64 o.v).wf = true ∧ (Lit.int .i64 o.x).wf = true
theorem fine_table {h : List Ev} (h0 : (checkS h).2 = 0) : Fine (tableS h) := by
  refine ⟨table_six h0, fun X hX => ?_⟩
  obtain ⟨i, hi, rfl⟩ := List.getElem_of_mem hX
  have h1 := table_small_ops h0 i hi
  have h2 := table_ops h0 _ hX
  refine ⟨h2.2, fun o ho => ?_⟩
  have h3 := h1 o ho
  exact ⟨h2.1 o ho, wf64 h3.1.1 h3.1.2, wf64 h3.2.1 h3.2.2⟩
/-- the table, and who wrote what -/
def ToldW (h : List Ev) (w : World) (v m : Value) : Prop := errU h = 0 → Txs w v (tableS h) ∧ ∃ M k S, m = .map (some M) ∧ WMap w M k S ∧ Tells (tableS h) S
set_option maxRecDepth 100000 in
set_option maxHeartbeats 4000000 in
theorem writersOf_any (v : Value) (h : List Ev) (w : World) (hK : HasK w) (hv : Evs w v h) (hl : h.length ≤ 65536) :
    Calls Tryd.prog 13 #[v] w fun e w' => ∃ v' m', e = .returned (.tuple #[v', m', .int .i64 (errU h : Nat)]) ∧ ToldW h w' v' m' ∧ Below w.heap.size w w' := by
  have HT := Lib.hid (table_any v h w hK hv hl)
  obtain ⟨a, c, rfl⟩ := hv.len
  clear hv hK
  unfold ToldW
  by_cases h0 : (checkS h).2 = 0
  · have HF := Lib.hid (fine_table h0)
    have hwt := writers_tell (tableS h)
    have herr : errU h = if uniqueS (tableS h) = true then 0 else 9 := by unfold errU; rw [if_pos h0]
    rw [herr]
    rw [h0, if_pos rfl] at HT
    clear h0 herr
    generalize tableS h = l at *
    have HD := Lib.hid (fun (k : Nat) (hk : k < l.length) (S : Wrt) => allsW_drop (l := l) hk S)
    obtain ⟨R, hR⟩ : ∃ R, allsW 0 l noneW = R := ⟨_, rfl⟩
    have HR0 : Hid (allsW 0 (l.drop 0) noneW = R) := hR
    rw [hR] at hwt
    clear hR
    have HWT : Hid ((R = none ∧ (if uniqueS l = true then 0 else 9) = 9) ∨ ∃ S, R = some S ∧ (if uniqueS l = true then 0 else 9) = 0 ∧ Tells l S) := by
      rcases hwt with ⟨h1, h2⟩ | ⟨S, h1, h2, h3⟩
      · exact .inl ⟨h1, by rw [h2]; rfl⟩
      · exact .inr ⟨S, h1, by rw [h2]; rfl, h3⟩
    clear hwt
    generalize (if uniqueS l = true then 0 else 9) = er at *
    have hmm := @run_makeMap Tryd.prog
    have hl6 := HF.out.six
    go_enter Tryd.func13, Tryd.ntmps13
    go_wp2_with fail
    refine HT.out.mono ?_
    rintro e w1 ⟨v1, rfl, hv1, hb1⟩
    have hba : Below w1.heap.size w1 (w1.alloc (.map #[] 0)) := (Below.refl _ w1).alloc (Nat.le_refl _) _
    have HV0 := Lib.hid (hv1.below hba (Nat.le_refl _))
    have HM0 : Hid (WMap (w1.alloc (.map #[] 0)) w1.heap.size 0 noneW) := WMap.start w1
    have HB0 : Hid (Below w.heap.size w (w1.alloc (.map #[] 0))) := hb1.trans (hba.mono hb1.size)
    have hMB : w.heap.size ≤ w1.heap.size := hb1.size
    obtain ⟨a1, c1, rfl⟩ := hv1.len
    clear hv1 hb1 hba HT
    go_wp2_with fail
    generalize w1.alloc (.map #[] 0) = w2 at *
    generalize w1.heap.size = M at *
    go_loopw [21] (fun x wr => ∃ k : Nat, k ≤ l.length ∧ x = .int .i64 k ∧ (∃ S', Hid (WMap wr M (k * 60) S') ∧ Hid (allsW k (l.drop k) S' = R)) ∧ Hid (Txs wr (.slice a1 l.length c1) l) ∧ Hid (Below w.heap.size w wr)) (fun x _ => l.length - (intOf x).toNat)
    case atStart => exact ⟨0, by omega, rfl, ⟨noneW, HM0, HR0⟩, HV0, HB0⟩
    case round =>
      clear HM0 HR0 HV0 HB0
      obtain ⟨k, hkl, rfl, ⟨S', HM, HR⟩, HV, HB⟩ := hrel
      by_cases hlt : k < l.length
      · have hv2 := HV.out
        obtain ⟨b, o, c', he⟩ := hv2.opened (by omega)
        simp only [Value.slice.injEq] at he
        obtain ⟨rfl, -, -⟩ := he
        obtain ⟨u, x0, x1, x2, x3, x4, q⟩ := hv2.get k hlt
        have hbl := cell_lt x0
        have hfx := HF.out.ops _ (List.getElem_mem hlt)
        have hdr := HD.out k hlt S'
        rw [HR.out] at hdr
        have HDR := Lib.hid hdr
        clear hv2 hdr HR
        generalize l[k] = X at *
        obtain ⟨Xn, Xf, Xl, Xs, Xo⟩ := X
        dsimp only at *
        have hba : Below wr.heap.size wr (wr.alloc (.cells #[.int .i64 Xn, .int .i64 Xf, .int .i64 Xl, .int .i64 Xs, u] 42)) := (Below.refl _ wr).alloc (Nat.le_refl _) _
        have HM1 := Lib.hid (HM.out.below hba)
        have HV1 := Lib.hid (HV.out.below hba (Nat.le_refl _))
        have HB1 := Lib.hid (HB.out.trans (hba.mono HB.out.size))
        have HC := Lib.hid (addWrites_any k M (k * 60) u Xo S' _ HM1.out (q.below hba (Nat.le_refl _)) (fun o ho => (hfx.2 o ho).2) (by omega))
        have HXL := Lib.hid hfx.1
        obtain ⟨ua, uc, rfl, huc⟩ := q.len
        obtain ⟨qn, hqn⟩ : ∃ qn, Xo.length = qn := ⟨_, rfl⟩
        rw [hqn] at HC HXL huc HM1 HV1 HB1 x4
        clear hqn q hfx hba HM HV HB
        cases hs : addsW k Xo S' with
        | none =>
          rw [hs] at HC HDR
          have HN : Hid (R = none) := HDR.out
          clear HDR hs
          go_wp2_with fail
          refine HC.out.mono ?_
          rintro e w3 ⟨rfl, ho3, -⟩
          have HB3 := Lib.hid (HB1.out.trans ((ho3.below (B := w.heap.size) HB1.out.size (fun b _ hb => by rw [hb]; exact hMB)).mono (Nat.le_refl _)))
          go_wp2
          rcases HWT.out with ⟨-, hu⟩ | ⟨S, hc, -⟩
          · exact bodyPost_ret (v := .tuple #[.slice none 0 0, .map none, .int .i64 9]) (by simp [results, Tryd.results13, go_sem]) rfl ⟨_, _, by rw [hu]; rfl, fun hc => (by rw [hu] at hc; cases hc), HB3.out⟩
          · rw [HN.out] at hc; cases hc
        | some S2 =>
          rw [hs] at HC HDR
          have HD2 : Hid (allsW (k + 1) (l.drop (k + 1)) S2 = R) := HDR.out.symm
          clear HDR hs
          go_wp2_with fail
          refine HC.out.mono ?_
          rintro e w3 ⟨rfl, ho3, hm3⟩
          have HB3 := Lib.hid (HB1.out.trans ((ho3.below (B := w.heap.size) HB1.out.size (fun b _ hb => by rw [hb]; exact hMB)).mono (Nat.le_refl _)))
          have HV3 := Lib.hid (Txs.turned HM1.out ho3 HV1.out)
          have HM3 := Lib.hid ((hm3 S2 rfl).mono (show k * 60 + qn ≤ (k + 1) * 60 by have := HXL.out; omega))
          clear ho3 hm3 HC HB1 HV1 HM1
          go_wp2
          go_roundw
          case rel => exact ⟨k + 1, by omega, by go_num, ⟨S2, HM3, HD2⟩, HV3, HB3⟩
          case measure => simp [intOf]; omega
      · obtain rfl : k = l.length := by omega
        have hr : R = some S' := by
          have h1 := HR.out
          rw [List.drop_length] at h1
          exact h1.symm
        go_wp2
        rcases HWT.out with ⟨hc, -⟩ | ⟨S, hc, hu, ht⟩
        · rw [hr] at hc; cases hc
        · rw [hr] at hc
          obtain rfl := Option.some.inj hc
          exact bodyPost_ret (v := .tuple #[.slice a1 l.length c1, .map (some M), .int .i64 0]) (by simp [results, Tryd.results13, go_sem]) rfl ⟨_, _, by rw [hu]; rfl, fun _ => ⟨HV.out, M, _, _, rfl, HM.out, ht⟩, HB.out⟩
  · have herr : errU h = (checkS h).2 := by unfold errU; rw [if_neg h0]
    rw [herr]
    rw [if_neg h0] at HT
    have te : (((checkS h).2 : Int) != 0) = true := by simp; omega
    have hne : Hid (¬ (checkS h).2 = 0) := h0
    clear h0 herr
    generalize (checkS h).2 = er at *
    go_enter Tryd.func13, Tryd.ntmps13
    go_wp2_with fail
    refine HT.out.mono ?_
    rintro e w1 ⟨v1, rfl, hv1, hb1⟩
    have HB1 := Lib.hid hb1
    obtain ⟨a1, c1, rfl⟩ := hv1.len
    clear hv1 hb1 HT
    go_wp2
    exact bodyPost_ret (v := .tuple #[.slice none 0 0, .map none, .int .i64 (er : Int)]) (by simp [results, Tryd.results13, go_sem]) rfl ⟨_, _, rfl, fun hc => absurd hc hne.out, HB1.out⟩
set_option maxRecDepth 100000 in
theorem checkU_any (v : Value) (h : List Ev) (w : World) (hK : HasK w) (hv : Evs w v h) (hl : h.length ≤ 65536) :
    Calls Tryd.prog 5 #[v] w fun e w' => e = .returned (.int .i64 (errU h : Nat)) ∧ Below w.heap.size w w' := by
  have HW := Lib.hid (writersOf_any v h w hK hv hl)
  obtain ⟨a, c, rfl⟩ := hv.len
  clear hv hK
  generalize errU h = er at *
  go_enter Tryd.func5, Tryd.ntmps5
  go_wp2_with fail
  refine HW.out.mono ?_
  rintro e w1 ⟨v1, m1, rfl, -, hb1⟩
  have HB1 := Lib.hid hb1
  clear hb1 HW
  go_wp2
  go_ret
  exact ⟨rfl, HB1.out⟩
end Go.Proofs.YtkliahdgciajjaaDoor
