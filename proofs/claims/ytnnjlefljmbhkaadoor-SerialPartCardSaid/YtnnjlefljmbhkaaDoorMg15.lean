/- Merged: LegI, LegJ, OpenIn, OpenTx. -/
import Derived.Test.YtnnjlefljmbhkaaDoorLegH
import Derived.Test.YtnnjlefljmbhkaaDoorMg14
import Derived.Test.YtnnjlefljmbhkaaDoorMg13
import Derived.Test.YtnnjlefljmbhkaaDoorMg5
import Derived.Test.YtnnjlefljmbhkaaDoorMg10
import Derived.Test.YtnnjlefljmbhkaaDoorMg6
import Derived.Deep.RegionHeldLaw
import Derived.StillTailTactics
import Derived.Carry
import Derived.ChangeSlices
import Derived.ChangeSame
import Derived.Deep.Slices
import Derived.Deep.Fields
import Derived.ProofKit
/- The walks of the reference's Own, Behind and Legal. -/
namespace Go.Proofs.YtnnjlefljmbhkaaDoor.WPlain
end Go.Proofs.YtnnjlefljmbhkaaDoor.WPlain
namespace Go.Proofs.YtnnjlefljmbhkaaDoor.QPlain
end Go.Proofs.YtnnjlefljmbhkaaDoor.QPlain
namespace Go.Proofs.YtnnjlefljmbhkaaDoor.RPlain
end Go.Proofs.YtnnjlefljmbhkaaDoor.RPlain
namespace Go.Proofs.YtnnjlefljmbhkaaDoor
open Go.RowKit WPlain QPlain RPlain

set_option maxRecDepth 100000 in
set_option maxHeartbeats 2000000 in
theorem refOwn_any (uo u : Value) (ops L : List Rwo) (w : World) (ho : Opv w uo ops) (hm : Mm w u L) (hl : L.length + ops.length ≤ 60000) :
    Calls Tryd.prog 61 #[uo, .agg #[u]] w fun e w' => e = .returned (.int .i64 ((ownS (memL L) ops : Nat) : Int)) ∧ Below w.heap.size w w' := by
  obtain ⟨a, c, rfl, -⟩ := hm.1.len
  obtain ⟨oa, oc, rfl, hoc⟩ := ho.len
  have HO := Lib.hid ho
  have HM := Lib.hid hm
  have HA0 := Lib.hid (At.new w #[.slice a L.length c] 109)
  have HB0 := Lib.hid ((Below.refl w.heap.size w).alloc (Nat.le_refl _) (.cells #[.slice a L.length c] 109))
  have HIS := Lib.hid (fun (k : Nat) (hk : k ≤ ops.length) h1 h2 => own_is (M := memL L) (ops := ops) (k := k) hk h1 h2)
  have HRD := Lib.hid (fun (k : Nat) (hk : k < ops.length) => read_iff (M := memL L) hk)
  have HWI := Lib.hid (fun (k : Nat) (hk : k ≤ ops.length) (W : World) (hW : Below w.heap.size w W) => refWith_any (.slice a L.length c) (.slice oa k oc) L (ops.take k) W (hm.below hW (Nat.le_refl _)) ((ho.below hW (Nat.le_refl _)).cut k hk) (by rw [List.length_take]; omega))
  have HGE := Lib.hid (fun (k : Nat) (u' : Value) (v : Int) (W : World) (hu : Mm W u' (withL L (ops.take k))) => (show Calls Tryd.prog 85 #[.agg #[u'], .int .i64 v] W fun e w' => e = .returned (.int .i64 (withM (memL L) (ops.take k) v)) ∧ Below W.heap.size W w' by
    have h1 := refGet_any u' (withL L (ops.take k)) v W hu.1 (by have h1 := withL_len (ops.take k) L; have h2 := List.length_take_le' k ops; omega)
    rwa [memL_with] at h1))
  generalize ownS (memL L) ops = R at *
  clear ho hm
  go_enter Tryd.func61, Tryd.ntmps61
  go_wp2_with fail
  go_loopw [9] (fun x wr => ∃ k : Nat, k ≤ ops.length ∧ x = .int .i64 k ∧ Hid (∀ j, j < k → readOk (memL L) ops j) ∧ Hid (At wr w.heap.size #[.slice a L.length c] 109) ∧ Hid (Below w.heap.size w wr)) (fun x _ => ops.length - (intOf x).toNat)
  case atStart => exact ⟨0, by omega, rfl, fun j hj => absurd hj (Nat.not_lt_zero _), HA0, HB0⟩
  case round =>
    clear HA0 HB0
    obtain ⟨k, hk, rfl, HR, HA, HB⟩ := hrel
    by_cases hlt : k < ops.length
    · obtain ⟨b, o, rfl, hbl, c0, c1, c2⟩ := Opv.at (HO.out.below HB.out (Nat.le_refl _)) k hlt
      have HRK := HRD.out k hlt
      have HWI2 := Lib.hid (HWI.out k hk)
      have HGE2 := Lib.hid (HGE.out k)
      generalize hO : ops[k] = O at *
      generalize withL L (ops.take k) = K at *
      generalize withM (memL L) (ops.take k) = MM at *
      obtain ⟨ow, ov, ox⟩ := O
      dsimp only at *
      have HB2 := Lib.hid (HB.out.alloc HB.out.size (.cells #[.bool ow, .int .i64 ov, .int .i64 ox] 119))
      have HA2 := Lib.hid (HA.out.alloc (.cells #[.bool ow, .int .i64 ov, .int .i64 ox] 119))
      have HO2 := Lib.hid (At.new wr #[.bool ow, .int .i64 ov, .int .i64 ox] 119)
      clear hO HA HB
      have k0 : (k : Int) ≤ (oc : Int) := by omega
      cases ow with
      | true =>
        have hrk := HRK.2 (.inl rfl)
        have HR2 : Hid (∀ j, j < k + 1 → readOk (memL L) ops j) := fun j hj => if h : j < k then HR.out j h else by rw [show j = k from by omega]; exact hrk
        clear hrk HRK HR
        go_upto_region 4 with fail
        generalize wr.alloc (.cells #[.bool true, .int .i64 ov, .int .i64 ox] 119) = w2 at *
        generalize wr.heap.size = N2 at *
        have e0 := HO2.out.cell (i := 0) (v := .bool true) rfl
        go_quiet (fail)
        have HB3 : Hid (Below w.heap.size w (w2.drewN nq)) := below_drN HB2.out nq
        have HA3 : Hid (At (w2.drewN nq) w.heap.size #[.slice a L.length c] 109) := HA2.out
        go_wp2
        go_roundw
        case rel => exact ⟨k + 1, by omega, by go_num, HR2.out, HA3.out, HB3.out⟩
        case measure => simp [intOf]; omega
      | false =>
        go_upto_region 4 with fail
        generalize wr.alloc (.cells #[.bool false, .int .i64 ov, .int .i64 ox] 119) = w2 at *
        generalize wr.heap.size = N2 at *
        have hN2 := HO2.out.lt
        have hNw := HA2.out.lt
        have HSC : Hid (∀ W, Below w2.heap.size w2 W → (W.cell? ⟨N2, 0, none⟩ = some (.bool false) ∧ W.cell? ⟨N2, 1, none⟩ = some (.int .i64 ov) ∧ W.cell? ⟨N2, 2, none⟩ = some (.int .i64 ox)) ∧ W.cell? ⟨w.heap.size, 0, none⟩ = some (.slice a L.length c)) := fun W hW =>
          ⟨⟨(HO2.out.below hW hN2).cell (i := 0) rfl, (HO2.out.below hW hN2).cell (i := 1) rfl, (HO2.out.below hW hN2).cell (i := 2) rfl⟩, (HA2.out.below hW hNw).cell (i := 0) rfl⟩
        have HWB : Hid (∀ W, Below w2.heap.size w2 W → Below w.heap.size w W) := fun W hW => HB2.out.trans (hW.mono HB2.out.size)
        have HWA : Hid (∀ W, Below w2.heap.size w2 W → At W w.heap.size #[.slice a L.length c] 109) := fun W hW => HA2.out.below hW hNw
        clear HO2 HA2 HB2 hN2 hNw
        by_cases hox : MM ov = ox
        · have hrk := HRK.2 (.inr hox)
          have HR2 : Hid (∀ j, j < k + 1 → readOk (memL L) ops j) := fun j hj => if h : j < k then HR.out j h else by rw [show j = k from by omega]; exact hrk
          have hne : (MM ov != ox) = false := by simp [hox]
          clear hrk HRK HR
          first
          | go_must (go_region_held_law (fun w' => (w'.cell? ⟨N2, 0, none⟩ = some (.bool false) ∧ w'.cell? ⟨N2, 1, none⟩ = some (.int .i64 ov) ∧ w'.cell? ⟨N2, 2, none⟩ = some (.int .i64 ox)) ∧ w'.cell? ⟨w.heap.size, 0, none⟩ = some (.slice a L.length c))
              (first | exact HSC.out _ hb6 | exact HSC.out _ hb5 | exact HSC.out _ (below_drP _))
              (first
                | (go_at_call 86; refine (HWI2.out _ (HWB.out _ (below_drP _))).mono ?_; rintro e w5 ⟨u5, rfl, hm5, hb⟩; have hb5 := below_stpP hb)
                | (go_at_call 85; refine (HGE2.out u5 ov _ hm5).mono ?_; rintro e w6 ⟨rfl, hb⟩; have hb6 := hb5.trans (hb.mono hb5.size))))
          | fail
          all_goals
            have HB3 : Hid (Below w.heap.size w w6) := HWB.out _ hb6
            have HA3 := Lib.hid (HWA.out _ hb6)
            clear hb5 hb6 hm5
            go_wp2
            go_roundw
            case rel => exact ⟨k + 1, by omega, by go_num, HR2.out, HA3.out, HB3.out⟩
            case measure => simp [intOf]; omega
        · have hres := HIS.out k hk HR.out (fun _ hc => by
            rcases HRK.1 hc with h | h
            · cases h
            · exact hox h)
          have hne : (MM ov != ox) = true := by simp [hox]
          subst hres
          clear HRK HR hox
          first
          | go_must (go_region_held_law (fun w' => (w'.cell? ⟨N2, 0, none⟩ = some (.bool false) ∧ w'.cell? ⟨N2, 1, none⟩ = some (.int .i64 ov) ∧ w'.cell? ⟨N2, 2, none⟩ = some (.int .i64 ox)) ∧ w'.cell? ⟨w.heap.size, 0, none⟩ = some (.slice a L.length c))
              (first | exact HSC.out _ hb6 | exact HSC.out _ hb5 | exact HSC.out _ (below_drP _))
              (first
                | (go_at_call 86; refine (HWI2.out _ (HWB.out _ (below_drP _))).mono ?_; rintro e w5 ⟨u5, rfl, hm5, hb⟩; have hb5 := below_stpP hb)
                | (go_at_call 85; refine (HGE2.out u5 ov _ hm5).mono ?_; rintro e w6 ⟨rfl, hb⟩; have hb6 := hb5.trans (hb.mono hb5.size))))
          | fail
          all_goals
            have HB3 : Hid (Below w.heap.size w w6) := HWB.out _ hb6
            clear hb5 hb6 hm5
            go_wp2
            go_ret
            exact ⟨rfl, HB3.out⟩
    · obtain rfl : k = ops.length := by omega
      have hres := HIS.out ops.length (Nat.le_refl _) HR.out (fun h => absurd h (Nat.lt_irrefl _))
      subst hres
      go_wp2
      go_ret
      exact ⟨rfl, HB.out⟩
end Go.Proofs.YtnnjlefljmbhkaaDoor
/- The walks of the reference's Behind and Legal. -/
namespace Go.Proofs.YtnnjlefljmbhkaaDoor.WPlain
end Go.Proofs.YtnnjlefljmbhkaaDoor.WPlain
namespace Go.Proofs.YtnnjlefljmbhkaaDoor.QPlain
end Go.Proofs.YtnnjlefljmbhkaaDoor.QPlain
namespace Go.Proofs.YtnnjlefljmbhkaaDoor.RPlain
end Go.Proofs.YtnnjlefljmbhkaaDoor.RPlain
namespace Go.Proofs.YtnnjlefljmbhkaaDoor.RPlain
open WPlain QPlain

def behindL (l : List Tx) (n : Nat) (rn : List Nat) : List Rwo := rn.foldl (fun L i => if n.testBit i = true then withL L (opsAt l i) else L) []
theorem behindL_take {l : List Tx} {n : Nat} {rn : List Nat} {k : Nat} (hk : k < rn.length) : behindL l n (rn.take (k + 1)) = if n.testBit rn[k] = true then withL (behindL l n (rn.take k)) (opsAt l rn[k]) else behindL l n (rn.take k) := by
  unfold behindL
  rw [List.take_succ_eq_append_getElem hk, List.foldl_append]
  rfl
theorem behindL_len {l : List Tx} (hol : ∀ i, (opsAt l i).length ≤ 60) (n : Nat) (rn : List Nat) : (behindL l n rn).length ≤ 60 * rn.length := by
  refine snoc_ind (p := fun rn => (behindL l n rn).length ≤ 60 * rn.length) ?_ ?_ rn
  · exact Nat.le_refl _
  · intro r i ih
    have h1 := withL_len (opsAt l i) (behindL l n r)
    have h2 := hol i
    show ((r ++ [i]).foldl _ []).length ≤ _
    rw [List.foldl_append, List.length_append, List.length_singleton]
    show (if n.testBit i = true then withL (behindL l n r) (opsAt l i) else behindL l n r).length ≤ _
    split <;> omega
theorem memL_behind (l : List Tx) (n : Nat) (rn : List Nat) : memL (behindL l n rn) = behindS l n zeroM rn := by
  refine snoc_ind (p := fun rn => memL (behindL l n rn) = behindS l n zeroM rn) ?_ ?_ rn
  · rfl
  · intro r i ih
    rw [behind_app, ← ih]
    show memL ((r ++ [i]).foldl _ []) = stepM l n _ i
    rw [List.foldl_append]
    show memL (if n.testBit i = true then withL (behindL l n r) (opsAt l i) else behindL l n r) = _
    unfold stepM
    split
    · rw [memL_with]
    · rfl
end Go.Proofs.YtnnjlefljmbhkaaDoor.RPlain
namespace Go.Proofs.YtnnjlefljmbhkaaDoor
open Go.RowKit WPlain QPlain RPlain

theorem mem_none (w : World) : At ((w.alloc (.cells #[.slice none 0 0] 109)).alloc (.cells #[.slice none 0 0] 109)) w.heap.size #[.slice none 0 0] 109 := (mem_pair w (.slice none 0 0)).1
set_option maxRecDepth 100000 in
set_option maxHeartbeats 2000000 in
theorem refBehind_any (v rv : Value) (l : List Tx) (rn : List Nat) (n : Nat) (w : World) (hv : Txs w v l) (hr : Rd w rv (ints (rn.map (fun x : Nat => (x : Int))))) (hrn : ∀ b ∈ rn, b < l.length) (h6 : l.length ≤ 6) (hol : ∀ i, (opsAt l i).length ≤ 60) (hrl : rn.length ≤ 12) (hn : n < 4294967296) :
    Calls Tryd.prog 62 #[v, rv, .int .u32 (n : Int)] w fun e w' => ∃ u, e = .returned (.agg #[u]) ∧ Mm w' u (behindL l n rn) ∧ Below w.heap.size w w' := by
  obtain ⟨ra, rc, rfl⟩ := hr.len
  have hil : (ints (rn.map (fun x : Nat => (x : Int)))).length = rn.length := by simp [ints]
  rw [hil] at hr ⊢
  clear hil
  have HV := Lib.hid hv
  have HR := Lib.hid hr
  have HLT : Hid (∀ b ∈ rn, b < l.length) := hrn
  have HOL := Lib.hid hol
  have HTK := Lib.hid (fun (k : Nat) (hk : k < rn.length) => behindL_take (l := l) (n := n) hk)
  have HLN := Lib.hid (fun (k : Nat) => Nat.le_trans (behindL_len hol n (rn.take k)) (Nat.mul_le_mul_left 60 (List.length_take_le' k rn)))
  have HFE : Hid (behindL l n rn = behindL l n (rn.take rn.length)) := by unfold Hid; rw [List.take_length]
  obtain ⟨a, c, rfl⟩ := hv.len
  obtain ⟨ha0, hr0, hb0⟩ := mem_pair w (.slice none 0 0)
  have HA0 := Lib.hid ha0
  have HR0 := Lib.hid hr0
  have HB0 := Lib.hid hb0
  clear hv hr hrn hol ha0 hr0 hb0
  go_enter Tryd.func62, Tryd.ntmps62
  go_wp2_with fail
  go_loopw [13] (fun x wr => ∃ k : Nat, k ≤ rn.length ∧ x = .int .i64 k ∧ Hid (∃ a' n' c', At wr (w.heap.size + 1) #[.slice a' n' c'] 109 ∧ Mm wr (.slice a' n' c') (behindL l n (rn.take k))) ∧ Hid (At wr w.heap.size #[.slice none 0 0] 109) ∧ Hid (Below w.heap.size w wr)) (fun x _ => rn.length - (intOf x).toNat)
  case atStart => exact ⟨0, by omega, rfl, ⟨_, _, _, HR0.out, Mm.nil _⟩, HA0, HB0⟩
  case round =>
    clear HA0 HR0 HB0
    obtain ⟨k, hk, rfl, HM, HA, HB⟩ := hrel
    obtain ⟨a1, n1, c1, hA, hM⟩ := HM.out
    have HC := Lib.hid hA
    have HMM := Lib.hid hM
    clear HM hA hM
    by_cases hlt : k < rn.length
    · obtain ⟨b, o, c', he, hbl, hcs⟩ := (HR.out.below HB.out (Nat.le_refl _)).opened (by simp [ints]; omega)
      simp only [Value.slice.injEq] at he
      obtain ⟨rfl, -, rfl⟩ := he
      have hck := hcs k _ (ints_castL rn k hlt)
      have hpl := HLT.out _ (List.getElem_mem hlt)
      have hT := HV.out.below HB.out (Nat.le_refl _)
      obtain ⟨b2, o2, c2, he2⟩ := hT.opened (by omega)
      simp only [Value.slice.injEq] at he2
      obtain ⟨rfl, -, rfl⟩ := he2
      obtain ⟨ov, x0, x1, x2, x3, x4, q⟩ := hT.get rn[k] hpl
      obtain ⟨ua, uc, rfl, -⟩ := q.len
      have hTE := HTK.out k hlt
      have hln := HLN.out k
      have hol := HOL.out rn[k]
      have hbt := fun (W : World) => refBit9_any n rn[k] hn (by omega) W
      rw [opsAtL_get hpl] at hTE hol
      have HQ := Lib.hid q
      clear hcs x0 x1 x2 x3 hT q
      generalize l[rn[k]].o = ops at *
      generalize rn[k] = p at *
      generalize behindL l n (rn.take k) = K at *
      generalize n.testBit p = bb at *
      cases bb with
      | false =>
        have HTE : Hid (behindL l n (rn.take (k + 1)) = K) := by unfold Hid; rw [hTE, if_neg (by decide)]
        clear hTE
        go_wp2_with (go_at_call 58; refine (hbt _).mono ?_; rintro e w3 ⟨rfl, rfl⟩)
        go_roundw
        case rel => exact ⟨k + 1, by omega, by go_num, ⟨_, _, _, HC.out, by rw [HTE.out]; exact HMM.out⟩, HA, HB⟩
        case measure => simp [intOf]; omega
      | true =>
        have HTE : Hid (behindL l n (rn.take (k + 1)) = withL K ops) := by unfold Hid; rw [hTE, if_pos rfl]
        have HWI := Lib.hid (fun (W : World) (h1 : Mm W (.slice a1 n1 c1) K) (h2 : Opv W (.slice ua ops.length uc) ops) => refWith_any _ _ K ops W h1 h2 (by omega))
        have k0 := HC.out.cell (i := 0) (v := .slice a1 n1 c1) rfl
        clear hTE
        go_upto_region 6 with (go_at_call 58; refine (hbt _).mono ?_; rintro e w3 ⟨rfl, rfl⟩)
        go_still_tail 6, (by kernel_rfl)
        change wpList _ _ _ _ _ w3.drew
        have HC4 : Hid (At w3.drew (w.heap.size + 1) #[.slice a1 n1 c1] 109) := HC.out
        have HA4 : Hid (At w3.drew w.heap.size #[.slice none 0 0] 109) := HA.out
        have HB4 : Hid (Below w.heap.size w w3.drew) := HB.out.drew
        have HM4 : Hid (Mm w3.drew (.slice a1 n1 c1) K) := HMM.out.below (below_drP w3) (Nat.le_refl _)
        have HQ4 : Hid (Opv w3.drew (.slice ua ops.length uc) ops) := HQ.out.below (below_drP w3) (Nat.le_refl _)
        clear HC HA HB HMM HQ k0 hck x4 hbl
        generalize w3.drew = w4 at *
        go_wp2_with (go_at_call 86; refine (HWI.out _ HM4.out HQ4.out).mono ?_; rintro e w5 ⟨u5, rfl, hm5, hb5⟩; obtain ⟨a5, c5, rfl, -⟩ := hm5.1.len; have HC5 := Lib.hid (HC4.out.below hb5 HC4.out.lt); have HA5 := Lib.hid (HA4.out.below hb5 HA4.out.lt); have HB5 := Lib.hid (HB4.out.trans (hb5.mono HB4.out.size)); have HM5 := Lib.hid hm5; have k5 := HC5.out.cell (i := 0) (v := .slice a1 n1 c1) rfl; have f5 := HC5.out.free 0; clear hm5 hb5)
        have HC6 := Lib.hid (HC5.out.set 0 (.slice a5 (withL K ops).length c5))
        have HM6 : Hid (Mm (w5.setCell ⟨w.heap.size + 1, 0, none⟩ (.slice a5 (withL K ops).length c5)) (.slice a5 (withL K ops).length c5) (withL K ops)) := ⟨HM5.out.1.set HC5.out _, HM5.out.2⟩
        have HA6 := Lib.hid (HA5.out.other (a := ⟨w.heap.size + 1, 0, none⟩) (by simp) (.slice a5 (withL K ops).length c5))
        have HB6 := Lib.hid (HB5.out.setCell (p := ⟨w.heap.size + 1, 0, none⟩) (by simp) (.slice a5 (withL K ops).length c5))
        clear k5 f5 HC5 HM5 HA5 HB5
        go_roundw
        case rel => exact ⟨k + 1, by omega, by go_num, ⟨_, _, _, HC6.out, by rw [HTE.out]; exact HM6.out⟩, HA6, HB6⟩
        case measure => simp [intOf]; omega
    · obtain rfl : k = rn.length := by omega
      rw [← HFE.out] at HMM
      have HM9 : Hid (Mm (wr.setCell ⟨w.heap.size, 0, none⟩ (.slice a1 n1 c1)) (.slice a1 n1 c1) (behindL l n rn)) := ⟨HMM.out.1.set HA.out _, HMM.out.2⟩
      have HA9 := Lib.hid (HA.out.set 0 (.slice a1 n1 c1))
      have HB9 := Lib.hid (HB.out.setCell (p := ⟨w.heap.size, 0, none⟩) (Nat.le_refl _) (.slice a1 n1 c1))
      have k0 := HC.out.cell (i := 0) (v := .slice a1 n1 c1) rfl
      have z0 := HA.out.cell (i := 0) (v := .slice none 0 0) rfl
      have f0 := HA.out.free 0
      clear HFE HTK HLN
      go_wp2
      generalize wr.setCell ⟨w.heap.size, 0, none⟩ (.slice a1 n1 c1) = w9 at *
      have e0 := HA9.out.cell (i := 0) (v := .slice a1 n1 c1) rfl
      refine bodyPost_ret (v := .agg #[.slice a1 n1 c1]) ?_ rfl ⟨_, rfl, HM9.out, HB9.out⟩
      simp [results, Tryd.results62, go_sem, e0]
set_option maxRecDepth 100000 in
set_option maxHeartbeats 2000000 in
theorem refLegal_any (v rv : Value) (l : List Tx) (rn : List Nat) (n : Nat) (w : World) (hv : Txs w v l) (hr : Rd w rv (ints (rn.map (fun x : Nat => (x : Int))))) (hrc : ∀ a m c, rv = .slice a m c → m ≤ c) (hrn : ∀ b ∈ rn, b < l.length) (h6 : l.length ≤ 6) (hol : ∀ i, (opsAt l i).length ≤ 60) (hrl : rn.length ≤ 12) (hn : n < 4294967296) :
    Calls Tryd.prog 32 #[v, rv, .int .u32 (n : Int)] w fun e w' => e = .returned (.int .i64 ((legalS l n rn : Nat) : Int)) ∧ Below w.heap.size w w' := by
  obtain ⟨ra, rc, rfl⟩ := hr.len
  have hil : (ints (rn.map (fun x : Nat => (x : Int)))).length = rn.length := by simp [ints]
  rw [hil] at hr hrc ⊢
  clear hil
  have hrc2 : rn.length ≤ rc := hrc _ _ _ rfl
  clear hrc
  have HV := Lib.hid hv
  have HR := Lib.hid hr
  have HLT : Hid (∀ b ∈ rn, b < l.length) := hrn
  have HOL := Lib.hid hol
  have HNX := Lib.hid (fun (k : Nat) (hk : k < rn.length) h1 h2 => legal_next (l := l) (c := n) (M := zeroM) hk h1 h2)
  have HNO := Lib.hid (fun (k : Nat) (hk : k < rn.length) h1 h2 => legal_stop (l := l) (c := n) (M := zeroM) hk h1 h2)
  obtain ⟨a, c, rfl⟩ := hv.len
  have HBE : Hid (∀ (k : Nat) (hk : k ≤ rn.length) (W : World), Below w.heap.size w W → Calls Tryd.prog 62 #[.slice a l.length c, .slice ra k rc, .int .u32 (n : Int)] W fun e w' => ∃ u, e = .returned (.agg #[u]) ∧ Mm w' u (behindL l n (rn.take k)) ∧ Below W.heap.size W w') := fun k hk W hW => by
    have hcut : Rd W (.slice ra k rc) (ints ((rn.take k).map (fun x : Nat => (x : Int)))) := by
      have h1 := (hr.below hW (Nat.le_refl _)).cut k hk
      simpa [ints, List.map_take] using h1
    exact refBehind_any _ _ l (rn.take k) n W (hv.below hW (Nat.le_refl _)) hcut (fun b hb => hrn b (List.mem_of_mem_take hb)) h6 hol (Nat.le_trans (List.length_take_le' k rn) hrl) hn
  have HME := Lib.hid (fun (k : Nat) => memL_behind l n (rn.take k))
  have HLN := Lib.hid (fun (k : Nat) => Nat.le_trans (behindL_len hol n (rn.take k)) (Nat.mul_le_mul_left 60 (List.length_take_le' k rn)))
  obtain ⟨res, hres⟩ : ∃ res, legalS l n rn = res := ⟨_, rfl⟩
  rw [hres]
  have HRES : Hid (legalG l n zeroM rn = res) := hres
  clear hres hrn hv hr hol
  go_enter Tryd.func32, Tryd.ntmps32
  go_wp2_with fail
  go_loopw [11] (fun x wr => ∃ k : Nat, k ≤ rn.length ∧ x = .int .i64 k ∧ Hid (legalG l n zeroM (rn.take k) = k) ∧ Hid (Below w.heap.size w wr)) (fun x _ => rn.length - (intOf x).toNat)
  case atStart => exact ⟨0, by omega, rfl, rfl, Below.refl _ _⟩
  case round =>
    obtain ⟨k, hk, rfl, HG, HB⟩ := hrel
    by_cases hlt : k < rn.length
    · obtain ⟨b, o, c', he, hbl, hcs⟩ := (HR.out.below HB.out (Nat.le_refl _)).opened (by simp [ints]; omega)
      simp only [Value.slice.injEq] at he
      obtain ⟨rfl, -, rfl⟩ := he
      have hck := hcs k _ (ints_castL rn k hlt)
      have hpl := HLT.out _ (List.getElem_mem hlt)
      have hT := HV.out.below HB.out (Nat.le_refl _)
      obtain ⟨b2, o2, c2, he2⟩ := hT.opened (by omega)
      simp only [Value.slice.injEq] at he2
      obtain ⟨rfl, -, rfl⟩ := he2
      obtain ⟨ov, x0, x1, x2, x3, x4, q⟩ := hT.get rn[k] hpl
      obtain ⟨ua, uc, rfl, -⟩ := q.len
      have hln := HLN.out k
      have hol := HOL.out rn[k]
      have HNX2 := Lib.hid (HNX.out k hlt HG.out)
      have HNO2 := Lib.hid (HNO.out k hlt HG.out)
      have hle := own_le l[rn[k]].o (behindS l n zeroM (rn.take k))
      rw [opsAtL_get hpl] at hol HNX2 HNO2
      have hme := HME.out k
      have HBE2 := Lib.hid (HBE.out k hk)
      have HOW := Lib.hid (fun (u : Value) (W : World) (h1 : Opv W (.slice ua l[rn[k]].o.length uc) l[rn[k]].o) (h2 : Mm W u (behindL l n (rn.take k))) => (show Calls Tryd.prog 61 #[.slice ua l[rn[k]].o.length uc, .agg #[u]] W fun e w' => e = .returned (.int .i64 ((ownS (behindS l n zeroM (rn.take k)) l[rn[k]].o : Nat) : Int)) ∧ Below W.heap.size W w' by
        have h3 := refOwn_any _ u l[rn[k]].o (behindL l n (rn.take k)) W h1 h2 (by omega)
        rwa [hme] at h3))
      have HQ := Lib.hid q
      have hx4 := cell_lt x4
      clear hcs x0 x1 x2 x3 hT q hme
      generalize l[rn[k]].o = ops at *
      generalize rn[k] = p at *
      generalize behindL l n (rn.take k) = K at *
      generalize behindS l n zeroM (rn.take k) = MM at *
      generalize ownS MM ops = ow at *
      have HSC : Hid (∀ W, Below wr.heap.size wr W → W.cell? ⟨b2, o2 + p * 5 + 4, none⟩ = some (.slice ua ops.length uc)) := fun W hW => (hW.cell (p := ⟨b2, o2 + p * 5 + 4, none⟩) hx4).trans x4
      have HSO : Hid (∀ W, Below wr.heap.size wr W → Opv W (.slice ua ops.length uc) ops) := fun W hW => HQ.out.below hW (Nat.le_refl _)
      have HWB : Hid (∀ W, Below wr.heap.size wr W → Below w.heap.size w W) := fun W hW => HB.out.trans (hW.mono HB.out.size)
      have hkr : (k : Int) ≤ (rc : Int) := by omega
      clear HQ hx4 HB
      go_upto_region 4 with fail
      clear x4 hck hbl
      by_cases how : ow = ops.length
      · have HG2 := Lib.hid (HNX2.out how)
        subst how
        clear HNX2 HNO2 hle
        first
        | go_must (go_region_held_law (fun w' => w'.cell? ⟨b2, o2 + p * 5 + 4, none⟩ = some (.slice ua ops.length uc))
            (first | exact HSC.out _ hb6 | exact HSC.out _ hb5 | exact HSC.out _ (below_drP _))
            (first
              | (go_at_call 62; refine (HBE2.out _ (HWB.out _ (below_drP _))).mono ?_; rintro e w5 ⟨u5, rfl, hm5, hb⟩; have hb5 := below_stpP hb)
              | (go_at_call 61; refine (HOW.out u5 _ (HSO.out _ hb5) hm5).mono ?_; rintro e w6 ⟨rfl, hb⟩; have hb6 := hb5.trans (hb.mono hb5.size))))
        | fail
        all_goals
          have HB3 := Lib.hid (HWB.out _ hb6)
          clear hb5 hb6 hm5
          go_wp2
          go_roundw
          case rel => exact ⟨k + 1, by omega, by go_num, HG2, HB3⟩
          case measure => simp [intOf]; omega
      · have hres := HNO2.out how
        rw [HRES.out] at hres
        subst hres
        have how2 : ow < ops.length := by omega
        clear HNX2 HNO2 hle how
        first
        | go_must (go_region_held_law (fun w' => w'.cell? ⟨b2, o2 + p * 5 + 4, none⟩ = some (.slice ua ops.length uc))
            (first | exact HSC.out _ hb6 | exact HSC.out _ hb5 | exact HSC.out _ (below_drP _))
            (first
              | (go_at_call 62; refine (HBE2.out _ (HWB.out _ (below_drP _))).mono ?_; rintro e w5 ⟨u5, rfl, hm5, hb⟩; have hb5 := below_stpP hb)
              | (go_at_call 61; refine (HOW.out u5 _ (HSO.out _ hb5) hm5).mono ?_; rintro e w6 ⟨rfl, hb⟩; have hb6 := hb5.trans (hb.mono hb5.size))))
        | fail
        all_goals
          have HB3 := Lib.hid (HWB.out _ hb6)
          clear hb5 hb6 hm5
          go_wp2
          go_ret
          exact ⟨rfl, HB3.out⟩
    · obtain rfl : k = rn.length := by omega
      have hres : rn.length = res := by have := HG.out; rw [List.take_length, HRES.out] at this; exact this.symm
      subst hres
      go_wp2
      go_ret
      exact ⟨rfl, HB.out⟩
end Go.Proofs.YtnnjlefljmbhkaaDoor
/- Numbers among the arguments, cut to their first N. -/
namespace Go.Proofs.YtnnjlefljmbhkaaDoor
open Go.ChangeShapes Go.WideShapes Go.RowKit

set_option maxRecDepth 100000 in
theorem open_intsN (N : Nat) {H : Type} {enc : TypeId × Value → H} {W w : World} {r : Reach} {b0 base : Nat} {sp : Nat → Bool} {held : Bool} {v : Value} {d : DataW H} {p : List MemPlace} (hv : Value.okWide Tryd.prog W r b0 24 v) (h : DataW.Trod enc Tryd.prog w base sp held 24 v d p) :
    ∃ (a : Option Addr) (n c : Nat) (row : List Int), v = .slice a n c ∧ n ≤ c ∧ Rd w (.slice a (min (n : Int) N).toNat c) (ints row) := by
  obtain ⟨a, len, cap, rfl⟩ := okWide_slice Tryd.underlying24 hv
  obtain ⟨fuel, hf⟩ := h
  rcases open_ints Tryd.underlying24 Tryd.underlying3 cells_int hf with ⟨hc, _⟩ | ⟨a', len', cap', zs, hc, _, hle, _, hzl, _, hat, _⟩
  · simp only [Value.cells, List.cons.injEq, Value.slice.injEq, and_true] at hc
    obtain ⟨rfl, rfl, rfl⟩ := hc
    exact ⟨none, 0, 0, [], rfl, Nat.le_refl _, .inl ⟨rfl, none, 0, by rw [show (min ((0 : Nat) : Int) N).toNat = 0 from by omega]⟩⟩
  · simp only [Value.cells, List.cons.injEq, Value.slice.injEq, and_true] at hc
    obtain ⟨rfl, rfl, rfl⟩ := hc
    have hml : len ≤ zs.length := by rw [hzl]; split <;> omega
    obtain ⟨k, hk⟩ : ∃ k, k = (min (len : Int) N).toNat := ⟨_, rfl⟩
    have hkl : k ≤ len := by omega
    refine ⟨some a', len, cap, zs.take k, rfl, hle, ?_⟩
    rw [← hk]
    by_cases h0 : 0 < k
    · obtain ⟨b, o, spot⟩ := a'
      have hspot : spot = none := by
        have := hat 0 (by omega)
        simpa [Addr.add] using World.cell?_spot this
      subst hspot
      refine .inr ⟨by rw [ints_len, List.length_take]; omega, b, o, cap, by rw [ints_len, List.length_take, Nat.min_eq_left (by omega)], fun i u hu => ?_⟩
      unfold ints at hu
      rw [List.getElem?_map, List.getElem?_take] at hu
      have hik : i < k := by
        by_cases hh : i < k
        · exact hh
        · rw [if_neg hh] at hu; cases hu
      rw [if_pos hik, List.getElem?_eq_getElem (by omega)] at hu
      have h1 := hat i (by omega)
      have hadd : (⟨b, o, none⟩ : Addr).add i = ⟨b, o + i, none⟩ := by unfold Addr.add; split <;> simp_all
      rw [hadd, List.getD_eq_getElem?_getD, List.getElem?_eq_getElem (by omega)] at h1
      rw [h1]
      simpa using hu
    · have : k = 0 := by omega
      subst this
      exact .inl ⟨rfl, _, _, rfl⟩
end Go.Proofs.YtnnjlefljmbhkaaDoor
/- Transactions among the arguments, as they are read. -/
namespace Go.Proofs.YtnnjlefljmbhkaaDoor.WPlain
end Go.Proofs.YtnnjlefljmbhkaaDoor.WPlain
namespace Go.Proofs.YtnnjlefljmbhkaaDoor.RPlain
end Go.Proofs.YtnnjlefljmbhkaaDoor.RPlain
namespace Go.Proofs.YtnnjlefljmbhkaaDoor
open Go.ChangeShapes Go.WideShapes Go.ChangeAt Go.RowKit
open Go.Deep WPlain RPlain

/-- a slice of elements of k cells, each of which reads as f of something: its first elements -/
theorem rows_read {α : Type} {H : Type} {enc : TypeId × Value → H} {w : World} {base : Nat} {sp : Nat → Bool} {held : Bool} {fuel : Nat} {t e : TypeId} {k : Nat} {f : α → List Value} {Q : α → Prop} {v : Value} {x : DataW H × List MemPlace}
    (ht : Tryd.prog.underlying t = some (.slice e)) (hk : Tryd.prog.cellsOf e = k) (hk0 : 0 < k) (hf : ∀ x, (f x).length = k)
    (hone : ∀ fuel cs y, DataW.trod enc Tryd.prog w base sp held fuel e cs = some y → ∃ x, cs = f x ∧ Q x)
    (h : DataW.trod enc Tryd.prog w base sp held fuel t [v] = some x) :
    ∃ (a : Option Addr) (n c : Nat), v = .slice a n c ∧ n ≤ c ∧ c ≤ maxLen ∧ (a = none → c = 0) ∧ ∀ m, m ≤ n → ∃ L : List α, L.length = m ∧ Rws k f w (.slice a m c) L ∧ ∀ x ∈ L, Q x := by
  rcases open_slice ht h with ⟨hc, _⟩ | ⟨a', len', cap', m', nn, D, Pl, hc, _, hle, hcm, hm, _, hi⟩
  · simp only [List.cons.injEq, and_true] at hc
    subst hc
    exact ⟨none, 0, 0, rfl, Nat.le_refl _, by unfold maxLen; omega, fun _ => rfl, fun m hm => ⟨[], by simp; omega, by rw [show m = 0 from by omega]; exact Rws.nil _ _ _, fun _ h => (List.not_mem_nil h).elim⟩⟩
  · simp only [List.cons.injEq, and_true] at hc
    subst hc
    refine ⟨some a', len', cap', rfl, hle, hcm, (fun hh => by cases hh), fun m hml => ?_⟩
    have hml2 : len' ≤ m' := by rw [hm]; split <;> omega
    have hev : ∀ i, i < m → ∃ x : α, Q x ∧ ∀ j, j < k → w.cell? ((a'.add (i * k)).add j) = (f x)[j]? := by
      intro i hik
      obtain ⟨cs', h1, h2⟩ := hi i (by omega)
      rw [hk] at h1
      obtain ⟨x, rfl, hq⟩ := hone _ _ _ h2
      obtain ⟨_, _, hat⟩ := World.cells?_some h1
      refine ⟨x, hq, fun j hj => ?_⟩
      have := hat j hj
      rw [this, List.getElem?_eq_getElem (by rw [hf]; exact hj)]
    have hE : ∃ E : List α, E.length = m ∧ (∀ x ∈ E, Q x) ∧ ∀ i (h : i < E.length) j, j < k → w.cell? ((a'.add (i * k)).add j) = (f E[i])[j]? := by
      clear hml hml2
      induction m with
      | zero => exact ⟨[], rfl, fun _ h => (List.not_mem_nil h).elim, fun i h => absurd h (Nat.not_lt_zero _)⟩
      | succ m ih =>
        obtain ⟨E, hEl, hEq, hE⟩ := ih (fun i hik => hev i (by omega))
        obtain ⟨e, hq, he⟩ := hev m (by omega)
        refine ⟨E ++ [e], by simp [hEl], fun x hx => ?_, fun i h j hj => ?_⟩
        · rcases List.mem_append.1 hx with hx | hx
          · exact hEq x hx
          · rw [List.mem_singleton.1 hx]; exact hq
        · by_cases hik : i < E.length
          · rw [List.getElem_append_left hik]; exact hE i hik j hj
          · have : i = m := by simp at h; omega
            subst this
            rw [List.getElem_append_right (by omega)]
            simp only [hEl, Nat.sub_self, List.getElem_cons_zero]
            exact he j hj
    obtain ⟨E, hEl, hEq, hE⟩ := hE
    refine ⟨E, hEl, ?_, hEq⟩
    by_cases h0 : 0 < E.length
    · obtain ⟨b, o, spot⟩ := a'
      have hc00 := hE 0 h0 0 hk0
      rw [List.getElem?_eq_getElem (by rw [hf]; exact hk0)] at hc00
      have hspot : spot = none := by
        have h1 := World.cell?_spot hc00
        simpa [Addr.add] using h1
      subst hspot
      have hb : b < w.heap.size := by
        have h1 := World.block_lt_of_cell? w _ hc00
        simpa [Addr.add] using h1
      refine .inr ⟨h0, b, o, cap', by rw [hEl], hb, fun i hi j u hj hu => ?_⟩
      have := hE i hi j hj
      rw [addr_plus, addr_plus, hu] at this
      exact this
    · have h00 : E = [] := List.length_eq_zero_iff.1 (by omega)
      subst h00
      simp at hEl
      subst hEl
      exact Rws.nil _ _ _
theorem cells_boolT : Tryd.prog.cellsOf 4 = 1 := by kernel_rfl
theorem cells_opT : Tryd.prog.cellsOf 119 = 3 := by kernel_rfl
theorem cells_opsT : Tryd.prog.cellsOf 80 = 1 := by kernel_rfl
theorem cells_txT : Tryd.prog.cellsOf 82 = 5 := by kernel_rfl
theorem open_op {H : Type} {enc : TypeId × Value → H} {w : World} {base : Nat} {sp : Nat → Bool} {held : Bool} (fuel : Nat) (cs : List Value) (y : DataW H × List MemPlace)
    (h : DataW.trod enc Tryd.prog w base sp held fuel 119 cs = some y) : ∃ o : Rwo, cs = opC o ∧ True := by
  obtain ⟨ys, n, _, rfl, hcl, hl, hf⟩ := DataW.trod_struct Tryd.underlying119 h
  rw [cells_opT] at hcl
  have hl3 : ys.length = 3 := hl
  have h0 : DataW.trod enc Tryd.prog w base sp held n 4 ((cs.drop 0).take (Tryd.prog.cellsOf 4)) = ys[0]? := hf 0 _ rfl
  have h1 : DataW.trod enc Tryd.prog w base sp held n 3 ((cs.drop 1).take (Tryd.prog.cellsOf 3)) = ys[1]? := hf 1 _ rfl
  have h2 : DataW.trod enc Tryd.prog w base sp held n 3 ((cs.drop 2).take (Tryd.prog.cellsOf 3)) = ys[2]? := hf 2 _ rfl
  rw [cells_boolT] at h0
  rw [cells_int] at h1 h2
  rw [List.getElem?_eq_getElem (by omega)] at h0 h1 h2
  obtain ⟨z0, c0, _⟩ := DataW.trod_bool Tryd.underlying4 h0
  obtain ⟨z1, c1, _, _⟩ := DataW.trod_int Tryd.underlying3 h1
  obtain ⟨z2, c2, _, _⟩ := DataW.trod_int Tryd.underlying3 h2
  refine ⟨⟨z0, z1, z2⟩, ?_, trivial⟩
  have a0 := at_one _ _ _ c0
  have a1 := at_one _ _ _ c1
  have a2 := at_one _ _ _ c2
  apply List.ext_getElem?
  intro i
  by_cases hi : i < 3
  · have hc : i = 0 ∨ i = 1 ∨ i = 2 := by omega
    rcases hc with rfl | rfl | rfl
    · rw [a0]; rfl
    · rw [a1]; rfl
    · rw [a2]; rfl
  · rw [List.getElem?_eq_none (by omega), List.getElem?_eq_none (by simp [opC]; omega)]
theorem open_tx {H : Type} {enc : TypeId × Value → H} {w : World} {base : Nat} {sp : Nat → Bool} {held : Bool} (fuel : Nat) (cs : List Value) (y : DataW H × List MemPlace)
    (h : DataW.trod enc Tryd.prog w base sp held fuel 82 cs = some y) : ∃ p : Tx × Value, cs = txC p ∧ Opv w p.2 p.1.o := by
  obtain ⟨ys, n, _, rfl, hcl, hl, hf⟩ := DataW.trod_struct Tryd.underlying82 h
  rw [cells_txT] at hcl
  have hl5 : ys.length = 5 := hl
  have h0 : DataW.trod enc Tryd.prog w base sp held n 3 ((cs.drop 0).take (Tryd.prog.cellsOf 3)) = ys[0]? := hf 0 _ rfl
  have h1 : DataW.trod enc Tryd.prog w base sp held n 3 ((cs.drop 1).take (Tryd.prog.cellsOf 3)) = ys[1]? := hf 1 _ rfl
  have h2 : DataW.trod enc Tryd.prog w base sp held n 3 ((cs.drop 2).take (Tryd.prog.cellsOf 3)) = ys[2]? := hf 2 _ rfl
  have h3 : DataW.trod enc Tryd.prog w base sp held n 3 ((cs.drop 3).take (Tryd.prog.cellsOf 3)) = ys[3]? := hf 3 _ rfl
  have h4 : DataW.trod enc Tryd.prog w base sp held n 80 ((cs.drop 4).take (Tryd.prog.cellsOf 80)) = ys[4]? := hf 4 _ rfl
  rw [cells_int] at h0 h1 h2 h3
  rw [cells_opsT] at h4
  rw [List.getElem?_eq_getElem (by omega)] at h0 h1 h2 h3 h4
  obtain ⟨z0, c0, _, _⟩ := DataW.trod_int Tryd.underlying3 h0
  obtain ⟨z1, c1, _, _⟩ := DataW.trod_int Tryd.underlying3 h1
  obtain ⟨z2, c2, _, _⟩ := DataW.trod_int Tryd.underlying3 h2
  obtain ⟨z3, c3, _, _⟩ := DataW.trod_int Tryd.underlying3 h3
  obtain ⟨u, hu⟩ : ∃ u, (cs.drop 4).take 1 = [u] := ⟨cs[4]'(by omega), by rw [List.drop_eq_getElem_cons (by omega)]; rfl⟩
  rw [hu] at h4
  obtain ⟨a, m, c, rfl, hmc, -, -, hr⟩ := rows_read Tryd.underlying80 cells_opT (by decide) opC_len (Q := fun _ => True) (fun fuel cs y h => open_op fuel cs y h) h4
  obtain ⟨L, hL, hR, _⟩ := hr m (Nat.le_refl _)
  refine ⟨(⟨z0, z1, z2, z3, L⟩, .slice a m c), ?_, hR, a, m, c, rfl, hmc⟩
  have a0 := at_one _ _ _ c0
  have a1 := at_one _ _ _ c1
  have a2 := at_one _ _ _ c2
  have a3 := at_one _ _ _ c3
  have a4 := at_one _ _ _ hu
  apply List.ext_getElem?
  intro i
  by_cases hi : i < 5
  · have hc : i = 0 ∨ i = 1 ∨ i = 2 ∨ i = 3 ∨ i = 4 := by omega
    rcases hc with rfl | rfl | rfl | rfl | rfl
    · rw [a0]; rfl
    · rw [a1]; rfl
    · rw [a2]; rfl
    · rw [a3]; rfl
    · rw [a4]; rfl
  · rw [List.getElem?_eq_none (by omega), List.getElem?_eq_none (by simp [txC]; omega)]
set_option maxRecDepth 100000 in
/-- transactions among the arguments, cut to their first N -/
theorem open_txs (N : Nat) {H : Type} {enc : TypeId × Value → H} {W w : World} {r : Reach} {b0 base : Nat} {sp : Nat → Bool} {held : Bool} {v : Value} {d : DataW H} {p : List MemPlace} (hv : Value.okWide Tryd.prog W r b0 33 v) (h : DataW.Trod enc Tryd.prog w base sp held 33 v d p) :
    ∃ (a : Option Addr) (n c : Nat) (l : List Tx), v = .slice a n c ∧ n ≤ c ∧ Txs w (.slice a (min (n : Int) N).toNat c) l := by
  obtain ⟨a, len, cap, rfl⟩ := okWide_slice Tryd.underlying33 hv
  obtain ⟨fuel, hf⟩ := h
  have hf' : DataW.trod enc Tryd.prog w base sp held fuel 33 [.slice a len cap] = some (d, p) := hf
  obtain ⟨a', n, c, he, hnc, -, -, hr⟩ := rows_read Tryd.underlying33 cells_txT (by decide) txC_len (Q := fun q => Opv w q.2 q.1.o) (fun fuel cs y h => open_tx fuel cs y h) hf'
  simp only [Value.slice.injEq] at he
  obtain ⟨rfl, rfl, rfl⟩ := he
  obtain ⟨L, hL, hR, hQ⟩ := hr (min (len : Int) N).toNat (by omega)
  exact ⟨a, len, cap, L.map (·.1), rfl, hnc, L, rfl, hR, hQ⟩
set_option maxRecDepth 100000 in
/-- a transaction among the arguments, by value -/
theorem open_txn {H : Type} {enc : TypeId × Value → H} {W w : World} {r : Reach} {b0 base : Nat} {sp : Nat → Bool} {held : Bool} {v : Value} {d : DataW H} {p : List MemPlace} (hv : Value.okWide Tryd.prog W r b0 82 v) (h : DataW.Trod enc Tryd.prog w base sp held 82 v d p) :
    ∃ (X : Tx) (a : Option Addr) (c : Nat), v = .agg #[.int .i64 X.n, .int .i64 X.f, .int .i64 X.l, .int .i64 X.s, .slice a X.o.length c] ∧ Opv w (.slice a X.o.length c) X.o := by
  obtain ⟨cs, rfl, hsz⟩ := okWide_struct Tryd.underlying82 hv
  obtain ⟨fuel, hf⟩ := h
  obtain ⟨q, hq, ho⟩ := open_tx _ _ _ hf
  obtain ⟨X, u⟩ := q
  dsimp only at ho
  obtain ⟨a, c, rfl, -⟩ := ho.len
  refine ⟨X, a, c, ?_, ho⟩
  congr 1
  cases cs
  simpa [Value.cells, txC] using hq
end Go.Proofs.YtnnjlefljmbhkaaDoor
