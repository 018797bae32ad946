/- The walk of TableFinds. -/
import Derived.Test.YtpbkieeheepelaaDoorTabT
import Derived.Test.YtpbkieeheepelaaDoorTabM
import Derived.Test.YtpbkieeheepelaaDoorTabN
namespace Go.Proofs.YtpbkieeheepelaaDoor.WPlain
end Go.Proofs.YtpbkieeheepelaaDoor.WPlain
namespace Go.Proofs.YtpbkieeheepelaaDoor.QPlain
end Go.Proofs.YtpbkieeheepelaaDoor.QPlain
namespace Go.Proofs.YtpbkieeheepelaaDoor.RPlain
end Go.Proofs.YtpbkieeheepelaaDoor.RPlain
namespace Go.Proofs.YtpbkieeheepelaaDoor
open Go.RowKit WPlain QPlain RPlain

theorem cut_small {l : List Tx} : ∀ X ∈ l.map cutTx, X.o.length ≤ 65536 := by
  intro X hX
  obtain ⟨Y, _, rfl⟩ := List.mem_map.1 hX
  show (Y.o.take 65).length ≤ 65536
  rw [List.length_take]
  omega
set_option maxRecDepth 100000 in
set_option maxHeartbeats 4000000 in
theorem finds_none (a1 : Option Addr) (n1 c1 : Nat) (l1 : List Tx) (a2 : Option Addr) (n2 c2 : Nat) (l2 : List Tx) (nm : Int) (w : World) (hK : HasK w) (hn1 : n1 ≤ c1) (hv1 : Txs w (.slice a1 (min (n1 : Int) 10).toNat c1) l1) (hn2 : n2 ≤ c2) (hv2 : Txs w (.slice a2 (min (n2 : Int) 10).toNat c2) l2) (hf : findS (l1.map cutTx) nm = none) :
    Calls Tryd.prog 4 #[.slice a1 n1 c1, .slice a2 n2 c2, .int .i64 nm] w fun e w' => e = .returned (.bool true) ∧ Below w.heap.size w w' := by
  have HK := Lib.hid hK
  obtain ⟨hf1, hl1⟩ := few_any a1 n1 c1 l1 w hn1 hv1
  have HF1 := Lib.hid hf1
  have HF2 : Hid (∀ W, Below w.heap.size w W → Calls Tryd.prog 12 #[.slice a2 n2 c2] W fun e w' => ∃ v', e = .returned v' ∧ Txs w' v' (l2.map cutTx) ∧ Below W.heap.size W w') := fun W hW => (few_any a2 n2 c2 l2 W hn2 (hv2.below hW (Nat.le_refl _))).1
  have hla : (l1.map cutTx).length ≤ 10 := by rw [List.length_map]; exact hl1
  have HS1 := Lib.hid (cut_small (l := l1))
  have HS2 := Lib.hid (cut_small (l := l2))
  clear hK hv1 hv2 hf1 hl1
  generalize l1.map cutTx = A at *
  generalize l2.map cutTx = B at *
  have HFS := Lib.hid hf
  clear hf
  go_enter Tryd.func4, Tryd.ntmps4
  go_wp2_with fail
  refine HF1.out.mono ?_
  rintro e w1 ⟨va, rfl, hva, hb1⟩
  have HB1 := Lib.hid hb1
  have HVA1 := Lib.hid hva
  obtain ⟨aa, ca, rfl⟩ := hva.len
  clear hva hb1 HF1
  go_wp2_with fail
  refine (HF2.out _ HB1.out).mono ?_
  rintro e w2 ⟨vb, rfl, hvb, hb2⟩
  have HB2 := Lib.hid (HB1.out.trans (hb2.mono HB1.out.size))
  have HVA2 := Lib.hid (HVA1.out.below hb2 (Nat.le_refl _))
  have HVB2 := Lib.hid hvb
  obtain ⟨ab, cb, rfl⟩ := hvb.len
  clear hvb hb2 HF2 HB1 HVA1
  go_wp2_with fail
  have hfi := find_any _ A nm w2 HVA2.out (by omega)
  rw [HFS.out] at hfi
  refine hfi.mono ?_
  rintro e w3 ⟨rfl, hb3⟩
  have HB3 := Lib.hid (HB2.out.trans (hb3.mono HB2.out.size))
  have HVA3 := Lib.hid (HVA2.out.below hb3 (Nat.le_refl _))
  have HVB3 := Lib.hid (HVB2.out.below hb3 (Nat.le_refl _))
  clear hb3 HB2 HVA2 HVB2
  clear hfi
  have HL4 := Lib.hid (likeTx_any _ _ A B w3 HVA3.out HVB3.out (by omega) HS1.out HS2.out)
  have HL5 : Hid (∀ W, Below w3.heap.size w3 W → Calls Tryd.prog 10 #[.slice aa A.length ca, .slice ab B.length cb] W fun e w' => e = .returned (.bool (decide (A = B))) ∧ ∃ z, w' = W.drewN z) := fun W hW => refSame_any _ _ A B W (HVA3.out.below hW (Nat.le_refl _)) (HVB3.out.below hW (Nat.le_refl _)) (by omega) HS1.out HS2.out
  have HL6 : Hid (∀ W, Below w3.heap.size w3 W → Calls Tryd.prog 14 #[.slice aa A.length ca, .slice aa A.length ca] W fun e w' => e = .returned (.bool true) ∧ Below W.heap.size W w') := fun W hW => by
    have h2 := likeTx_any _ _ A A W (HVA3.out.below hW (Nat.le_refl _)) (HVA3.out.below hW (Nat.le_refl _)) (by omega) HS1.out HS1.out
    rw [decide_eq_true rfl] at h2
    exact h2
  have HRF : Hid (∀ W, Below w3.heap.size w3 W → Calls Tryd.prog 15 #[.slice aa A.length ca, .int .i64 nm] W fun e w' => e = .returned (.int .i64 (match findS A nm with | some k => (k : Int) | none => -1)) ∧ Below W.heap.size W w') := fun W hW => refFind_any _ A nm W (HVA3.out.below hW (Nat.le_refl _)) (by omega)
  rw [HFS.out] at HRF
  clear HFS
  generalize decide (A = B) = bb at *
  generalize A.length = na at *
  generalize B.length = nb at *
  have HBS := Lib.hid HB3.out.size
  have HK3 := Lib.hid (HK.out.later HB3.out (Nat.le_refl _))
  have HFIN : Hid (∀ W, Below w3.heap.size w3 W → Below w.heap.size w W) := fun W hW => HB3.out.trans (hW.mono HBS.out)
  clear HVA3 HVB3 HS1 HS2 HK HB3 HBS
  go_wp2_with fail
  refine HL4.out.mono ?_
  rintro e w4 ⟨rfl, hb4⟩
  have HC4 := Lib.hid hb4
  clear hb4
  go_wp2_with fail
  refine (HL5.out _ HC4.out).mono ?_
  rintro e w5 ⟨rfl, z, rfl⟩
  have HC5 := Lib.hid (below_drN HC4.out z)
  generalize w4.drewN z = w5 at *
  go_wp2_with fail
  refine (HL6.out _ HC5.out).mono ?_
  rintro e w6 ⟨rfl, hb6⟩
  have HC6 := Lib.hid (HC5.out.trans (hb6.mono HC5.out.size))
  clear hb6
  go_wp2_with fail
  refine (aliveT_any _ (HK3.out.later HC6.out (Nat.le_refl _))).mono ?_
  rintro e w7 ⟨rfl, hb7⟩
  have HC7 := Lib.hid (HC6.out.trans (hb7.mono HC6.out.size))
  clear hb7
  go_wp2_with fail
  refine (HRF.out _ HC7.out).mono ?_
  rintro e w8 ⟨rfl, hb8⟩
  have HC8 := Lib.hid (HC7.out.trans (hb8.mono HC7.out.size))
  clear hb8 HL4 HL5 HL6 HK3 HC4 HC5 HC6 HC7
  clear HRF
  go_wp2
  go_ret
  exact ⟨rfl, HFIN.out _ HC8.out⟩
set_option maxRecDepth 100000 in
set_option maxHeartbeats 4000000 in
theorem finds_some (a1 : Option Addr) (n1 c1 : Nat) (l1 : List Tx) (a2 : Option Addr) (n2 c2 : Nat) (l2 : List Tx) (nm : Int) (w : World) (k : Nat) (hK : HasK w) (hn1 : n1 ≤ c1) (hv1 : Txs w (.slice a1 (min (n1 : Int) 10).toNat c1) l1) (hn2 : n2 ≤ c2) (hv2 : Txs w (.slice a2 (min (n2 : Int) 10).toNat c2) l2) (hf : findS (l1.map cutTx) nm = some k) :
    Calls Tryd.prog 4 #[.slice a1 n1 c1, .slice a2 n2 c2, .int .i64 nm] w fun e w' => e = .returned (.bool true) ∧ Below w.heap.size w w' := by
  have HK := Lib.hid hK
  obtain ⟨hf1, hl1⟩ := few_any a1 n1 c1 l1 w hn1 hv1
  have HF1 := Lib.hid hf1
  have HF2 : Hid (∀ W, Below w.heap.size w W → Calls Tryd.prog 12 #[.slice a2 n2 c2] W fun e w' => ∃ v', e = .returned v' ∧ Txs w' v' (l2.map cutTx) ∧ Below W.heap.size W w') := fun W hW => (few_any a2 n2 c2 l2 W hn2 (hv2.below hW (Nat.le_refl _))).1
  have hla : (l1.map cutTx).length ≤ 10 := by rw [List.length_map]; exact hl1
  have HS1 := Lib.hid (cut_small (l := l1))
  have HS2 := Lib.hid (cut_small (l := l2))
  clear hK hv1 hv2 hf1 hl1
  generalize l1.map cutTx = A at *
  generalize l2.map cutTx = B at *
  have t0 : ¬ ((k : Int) < 0) := by omega
  have HFS := Lib.hid hf
  clear hf
  go_enter Tryd.func4, Tryd.ntmps4
  go_wp2_with fail
  refine HF1.out.mono ?_
  rintro e w1 ⟨va, rfl, hva, hb1⟩
  have HB1 := Lib.hid hb1
  have HVA1 := Lib.hid hva
  obtain ⟨aa, ca, rfl⟩ := hva.len
  clear hva hb1 HF1
  go_wp2_with fail
  refine (HF2.out _ HB1.out).mono ?_
  rintro e w2 ⟨vb, rfl, hvb, hb2⟩
  have HB2 := Lib.hid (HB1.out.trans (hb2.mono HB1.out.size))
  have HVA2 := Lib.hid (HVA1.out.below hb2 (Nat.le_refl _))
  have HVB2 := Lib.hid hvb
  obtain ⟨ab, cb, rfl⟩ := hvb.len
  clear hvb hb2 HF2 HB1 HVA1
  go_wp2_with fail
  have hfi := find_any _ A nm w2 HVA2.out (by omega)
  rw [HFS.out] at hfi
  refine hfi.mono ?_
  rintro e w3 ⟨rfl, hb3⟩
  have HB3 := Lib.hid (HB2.out.trans (hb3.mono HB2.out.size))
  have HVA3 := Lib.hid (HVA2.out.below hb3 (Nat.le_refl _))
  have HVB3 := Lib.hid (HVB2.out.below hb3 (Nat.le_refl _))
  clear hb3 HB2 HVA2 HVB2
  clear hfi
  have HL4 := Lib.hid (likeTx_any _ _ A B w3 HVA3.out HVB3.out (by omega) HS1.out HS2.out)
  have HL5 : Hid (∀ W, Below w3.heap.size w3 W → Calls Tryd.prog 10 #[.slice aa A.length ca, .slice ab B.length cb] W fun e w' => e = .returned (.bool (decide (A = B))) ∧ ∃ z, w' = W.drewN z) := fun W hW => refSame_any _ _ A B W (HVA3.out.below hW (Nat.le_refl _)) (HVB3.out.below hW (Nat.le_refl _)) (by omega) HS1.out HS2.out
  have HL6 : Hid (∀ W, Below w3.heap.size w3 W → Calls Tryd.prog 14 #[.slice aa A.length ca, .slice aa A.length ca] W fun e w' => e = .returned (.bool true) ∧ Below W.heap.size W w') := fun W hW => by
    have h2 := likeTx_any _ _ A A W (HVA3.out.below hW (Nat.le_refl _)) (HVA3.out.below hW (Nat.le_refl _)) (by omega) HS1.out HS1.out
    rw [decide_eq_true rfl] at h2
    exact h2
  have HRF : Hid (∀ W, Below w3.heap.size w3 W → Calls Tryd.prog 15 #[.slice aa A.length ca, .int .i64 nm] W fun e w' => e = .returned (.int .i64 (match findS A nm with | some k => (k : Int) | none => -1)) ∧ Below W.heap.size W w') := fun W hW => refFind_any _ A nm W (HVA3.out.below hW (Nat.le_refl _)) (by omega)
  rw [HFS.out] at HRF
  clear HFS
  generalize decide (A = B) = bb at *
  generalize A.length = na at *
  generalize B.length = nb at *
  have HBS := Lib.hid HB3.out.size
  have HK3 := Lib.hid (HK.out.later HB3.out (Nat.le_refl _))
  have HFIN : Hid (∀ W, Below w3.heap.size w3 W → Below w.heap.size w W) := fun W hW => HB3.out.trans (hW.mono HBS.out)
  clear HVA3 HVB3 HS1 HS2 HK HB3 HBS
  go_wp2_with fail
  refine HL4.out.mono ?_
  rintro e w4 ⟨rfl, hb4⟩
  have HC4 := Lib.hid hb4
  clear hb4
  go_wp2_with fail
  refine (HL5.out _ HC4.out).mono ?_
  rintro e w5 ⟨rfl, z, rfl⟩
  have HC5 := Lib.hid (below_drN HC4.out z)
  generalize w4.drewN z = w5 at *
  go_wp2_with fail
  refine (HL6.out _ HC5.out).mono ?_
  rintro e w6 ⟨rfl, hb6⟩
  have HC6 := Lib.hid (HC5.out.trans (hb6.mono HC5.out.size))
  clear hb6
  go_wp2_with fail
  refine (aliveT_any _ (HK3.out.later HC6.out (Nat.le_refl _))).mono ?_
  rintro e w7 ⟨rfl, hb7⟩
  have HC7 := Lib.hid (HC6.out.trans (hb7.mono HC6.out.size))
  clear hb7
  go_wp2_with fail
  refine (HRF.out _ HC7.out).mono ?_
  rintro e w8 ⟨rfl, hb8⟩
  have HC8 := Lib.hid (HC7.out.trans (hb8.mono HC7.out.size))
  clear hb8 HL4 HL5 HL6 HK3 HC4 HC5 HC6 HC7
  go_wp2_with fail
  refine (HRF.out _ HC8.out).mono ?_
  rintro e w9 ⟨rfl, hb9⟩
  have HC9 := Lib.hid (HC8.out.trans (hb9.mono HC8.out.size))
  go_wp2
  go_ret
  exact ⟨rfl, HFIN.out _ HC9.out⟩
theorem finds_any (a1 : Option Addr) (n1 c1 : Nat) (l1 : List Tx) (a2 : Option Addr) (n2 c2 : Nat) (l2 : List Tx) (nm : Int) (w : World) (hK : HasK w) (hn1 : n1 ≤ c1) (hv1 : Txs w (.slice a1 (min (n1 : Int) 10).toNat c1) l1) (hn2 : n2 ≤ c2) (hv2 : Txs w (.slice a2 (min (n2 : Int) 10).toNat c2) l2) :
    Calls Tryd.prog 4 #[.slice a1 n1 c1, .slice a2 n2 c2, .int .i64 nm] w fun e w' => e = .returned (.bool true) ∧ Below w.heap.size w w' := by
  cases hf : findS (l1.map cutTx) nm with
  | none => exact finds_none a1 n1 c1 l1 a2 n2 c2 l2 nm w hK hn1 hv1 hn2 hv2 hf
  | some k => exact finds_some a1 n1 c1 l1 a2 n2 c2 l2 nm w k hK hn1 hv1 hn2 hv2 hf
end Go.Proofs.YtpbkieeheepelaaDoor
