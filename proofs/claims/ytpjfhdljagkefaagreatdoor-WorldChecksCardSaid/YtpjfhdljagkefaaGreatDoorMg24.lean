/- Merged: LegI, LegJ, WorV. -/
import Derived.Test.YtpjfhdljagkefaaGreatDoorMg23
import Derived.Test.YtpjfhdljagkefaaGreatDoorMg13
import Derived.Test.YtpjfhdljagkefaaGreatDoorMg21
import Derived.Test.YtpjfhdljagkefaaGreatDoorMg19
import Derived.Deep.RegionHeldLaw
import Derived.StillTailTactics
/- The walks of the reference's Own, Behind and Legal. -/
namespace Go.Proofs.YtpjfhdljagkefaaGreatDoor.WPlain
end Go.Proofs.YtpjfhdljagkefaaGreatDoor.WPlain
namespace Go.Proofs.YtpjfhdljagkefaaGreatDoor.QPlain
end Go.Proofs.YtpjfhdljagkefaaGreatDoor.QPlain
namespace Go.Proofs.YtpjfhdljagkefaaGreatDoor.RPlain
end Go.Proofs.YtpjfhdljagkefaaGreatDoor.RPlain
namespace Go.Proofs.YtpjfhdljagkefaaGreatDoor
open Go.RowKit WPlain QPlain RPlain

set_option maxRecDepth 100000 in
set_option maxHeartbeats 2000000 in
theorem refOwn_any (uo u : Value) (ops L : List Rwo) (w : World) (ho : Opv w uo ops) (hm : Mm w u L) (hl : L.length + ops.length ≤ 60000) :
    Calls Tryz.prog 49 #[uo, .agg #[u]] w fun e w' => e = .returned (.int .i64 ((ownS (memL L) ops : Nat) : Int)) ∧ Below w.heap.size w w' := by
  obtain ⟨a, c, rfl, -⟩ := hm.1.len
  obtain ⟨oa, oc, rfl, hoc⟩ := ho.len
  have HO := Lib.hid ho
  have HM := Lib.hid hm
  have HA0 := Lib.hid (At.new w #[.slice a L.length c] 89)
  have HB0 := Lib.hid ((Below.refl w.heap.size w).alloc (Nat.le_refl _) (.cells #[.slice a L.length c] 89))
  have HIS := Lib.hid (fun (k : Nat) (hk : k ≤ ops.length) h1 h2 => own_is (M := memL L) (ops := ops) (k := k) hk h1 h2)
  have HRD := Lib.hid (fun (k : Nat) (hk : k < ops.length) => read_iff (M := memL L) hk)
  have HWI := Lib.hid (fun (k : Nat) (hk : k ≤ ops.length) (W : World) (hW : Below w.heap.size w W) => refWith_any (.slice a L.length c) (.slice oa k oc) L (ops.take k) W (hm.below hW (Nat.le_refl _)) ((ho.below hW (Nat.le_refl _)).cut k hk) (by rw [List.length_take]; omega))
  have HGE := Lib.hid (fun (k : Nat) (u' : Value) (v : Int) (W : World) (hu : Mm W u' (withL L (ops.take k))) => (show Calls Tryz.prog 71 #[.agg #[u'], .int .i64 v] W fun e w' => e = .returned (.int .i64 (withM (memL L) (ops.take k) v)) ∧ Below W.heap.size W w' by
    have h1 := refGet_any u' (withL L (ops.take k)) v W hu.1 (by have h1 := withL_len (ops.take k) L; have h2 := List.length_take_le' k ops; omega)
    rwa [memL_with] at h1))
  generalize ownS (memL L) ops = R at *
  clear ho hm
  go_enter Tryz.func49, Tryz.ntmps49
  go_wp2_with fail
  go_loopw [9] (fun x wr => ∃ k : Nat, k ≤ ops.length ∧ x = .int .i64 k ∧ Hid (∀ j, j < k → readOk (memL L) ops j) ∧ Hid (At wr w.heap.size #[.slice a L.length c] 89) ∧ Hid (Below w.heap.size w wr)) (fun x _ => ops.length - (intOf x).toNat)
  case atStart => exact ⟨0, by omega, rfl, fun j hj => absurd hj (Nat.not_lt_zero _), HA0, HB0⟩
  case round =>
    clear HA0 HB0
    obtain ⟨k, hk, rfl, HR, HA, HB⟩ := hrel
    by_cases hlt : k < ops.length
    · obtain ⟨b, o, rfl, hbl, c0, c1, c2⟩ := Opv.at (HO.out.below HB.out (Nat.le_refl _)) k hlt
      have HRK := HRD.out k hlt
      have HWI2 := Lib.hid (HWI.out k hk)
      have HGE2 := Lib.hid (HGE.out k)
      generalize hO : ops[k] = O at *
      generalize withL L (ops.take k) = K at *
      generalize withM (memL L) (ops.take k) = MM at *
      obtain ⟨ow, ov, ox⟩ := O
      dsimp only at *
      have HB2 := Lib.hid (HB.out.alloc HB.out.size (.cells #[.bool ow, .int .i64 ov, .int .i64 ox] 123))
      have HA2 := Lib.hid (HA.out.alloc (.cells #[.bool ow, .int .i64 ov, .int .i64 ox] 123))
      have HO2 := Lib.hid (At.new wr #[.bool ow, .int .i64 ov, .int .i64 ox] 123)
      clear hO HA HB
      have k0 : (k : Int) ≤ (oc : Int) := by omega
      cases ow with
      | true =>
        have hrk := HRK.2 (.inl rfl)
        have HR2 : Hid (∀ j, j < k + 1 → readOk (memL L) ops j) := fun j hj => if h : j < k then HR.out j h else by rw [show j = k from by omega]; exact hrk
        clear hrk HRK HR
        go_upto_region 4 with fail
        generalize wr.alloc (.cells #[.bool true, .int .i64 ov, .int .i64 ox] 123) = w2 at *
        generalize wr.heap.size = N2 at *
        have e0 := HO2.out.cell (i := 0) (v := .bool true) rfl
        go_quiet (fail)
        have HB3 : Hid (Below w.heap.size w (w2.drewN nq)) := below_drN HB2.out nq
        have HA3 : Hid (At (w2.drewN nq) w.heap.size #[.slice a L.length c] 89) := HA2.out
        go_wp2
        go_roundw
        case rel => exact ⟨k + 1, by omega, by go_num, HR2.out, HA3.out, HB3.out⟩
        case measure => simp [intOf]; omega
      | false =>
        go_upto_region 4 with fail
        generalize wr.alloc (.cells #[.bool false, .int .i64 ov, .int .i64 ox] 123) = w2 at *
        generalize wr.heap.size = N2 at *
        have hN2 := HO2.out.lt
        have hNw := HA2.out.lt
        have HSC : Hid (∀ W, Below w2.heap.size w2 W → (W.cell? ⟨N2, 0, none⟩ = some (.bool false) ∧ W.cell? ⟨N2, 1, none⟩ = some (.int .i64 ov) ∧ W.cell? ⟨N2, 2, none⟩ = some (.int .i64 ox)) ∧ W.cell? ⟨w.heap.size, 0, none⟩ = some (.slice a L.length c)) := fun W hW =>
          ⟨⟨(HO2.out.below hW hN2).cell (i := 0) rfl, (HO2.out.below hW hN2).cell (i := 1) rfl, (HO2.out.below hW hN2).cell (i := 2) rfl⟩, (HA2.out.below hW hNw).cell (i := 0) rfl⟩
        have HWB : Hid (∀ W, Below w2.heap.size w2 W → Below w.heap.size w W) := fun W hW => HB2.out.trans (hW.mono HB2.out.size)
        have HWA : Hid (∀ W, Below w2.heap.size w2 W → At W w.heap.size #[.slice a L.length c] 89) := fun W hW => HA2.out.below hW hNw
        clear HO2 HA2 HB2 hN2 hNw
        by_cases hox : MM ov = ox
        · have hrk := HRK.2 (.inr hox)
          have HR2 : Hid (∀ j, j < k + 1 → readOk (memL L) ops j) := fun j hj => if h : j < k then HR.out j h else by rw [show j = k from by omega]; exact hrk
          have hne : (MM ov != ox) = false := by simp [hox]
          clear hrk HRK HR
          first
          | go_must (go_region_held_law (fun w' => (w'.cell? ⟨N2, 0, none⟩ = some (.bool false) ∧ w'.cell? ⟨N2, 1, none⟩ = some (.int .i64 ov) ∧ w'.cell? ⟨N2, 2, none⟩ = some (.int .i64 ox)) ∧ w'.cell? ⟨w.heap.size, 0, none⟩ = some (.slice a L.length c))
              (first | exact HSC.out _ hb6 | exact HSC.out _ hb5 | exact HSC.out _ (below_drP _))
              (first
                | (go_at_call 72; refine (HWI2.out _ (HWB.out _ (below_drP _))).mono ?_; rintro e w5 ⟨u5, rfl, hm5, hb⟩; have hb5 := below_stpP hb)
                | (go_at_call 71; refine (HGE2.out u5 ov _ hm5).mono ?_; rintro e w6 ⟨rfl, hb⟩; have hb6 := hb5.trans (hb.mono hb5.size))))
          | fail
          all_goals
            have HB3 : Hid (Below w.heap.size w w6) := HWB.out _ hb6
            have HA3 := Lib.hid (HWA.out _ hb6)
            clear hb5 hb6 hm5
            go_wp2
            go_roundw
            case rel => exact ⟨k + 1, by omega, by go_num, HR2.out, HA3.out, HB3.out⟩
            case measure => simp [intOf]; omega
        · have hres := HIS.out k hk HR.out (fun _ hc => by
            rcases HRK.1 hc with h | h
            · cases h
            · exact hox h)
          have hne : (MM ov != ox) = true := by simp [hox]
          subst hres
          clear HRK HR hox
          first
          | go_must (go_region_held_law (fun w' => (w'.cell? ⟨N2, 0, none⟩ = some (.bool false) ∧ w'.cell? ⟨N2, 1, none⟩ = some (.int .i64 ov) ∧ w'.cell? ⟨N2, 2, none⟩ = some (.int .i64 ox)) ∧ w'.cell? ⟨w.heap.size, 0, none⟩ = some (.slice a L.length c))
              (first | exact HSC.out _ hb6 | exact HSC.out _ hb5 | exact HSC.out _ (below_drP _))
              (first
                | (go_at_call 72; refine (HWI2.out _ (HWB.out _ (below_drP _))).mono ?_; rintro e w5 ⟨u5, rfl, hm5, hb⟩; have hb5 := below_stpP hb)
                | (go_at_call 71; refine (HGE2.out u5 ov _ hm5).mono ?_; rintro e w6 ⟨rfl, hb⟩; have hb6 := hb5.trans (hb.mono hb5.size))))
          | fail
          all_goals
            have HB3 : Hid (Below w.heap.size w w6) := HWB.out _ hb6
            clear hb5 hb6 hm5
            go_wp2
            go_ret
            exact ⟨rfl, HB3.out⟩
    · obtain rfl : k = ops.length := by omega
      have hres := HIS.out ops.length (Nat.le_refl _) HR.out (fun h => absurd h (Nat.lt_irrefl _))
      subst hres
      go_wp2
      go_ret
      exact ⟨rfl, HB.out⟩
end Go.Proofs.YtpjfhdljagkefaaGreatDoor
/- The walks of the reference's Behind and Legal. -/
namespace Go.Proofs.YtpjfhdljagkefaaGreatDoor.WPlain
end Go.Proofs.YtpjfhdljagkefaaGreatDoor.WPlain
namespace Go.Proofs.YtpjfhdljagkefaaGreatDoor.QPlain
end Go.Proofs.YtpjfhdljagkefaaGreatDoor.QPlain
namespace Go.Proofs.YtpjfhdljagkefaaGreatDoor.RPlain
end Go.Proofs.YtpjfhdljagkefaaGreatDoor.RPlain
namespace Go.Proofs.YtpjfhdljagkefaaGreatDoor.RPlain
open WPlain QPlain

def behindL (l : List Tx) (n : Nat) (rn : List Nat) : List Rwo := rn.foldl (fun L i => if n.testBit i = true then withL L (opsAt l i) else L) []
theorem behindL_take {l : List Tx} {n : Nat} {rn : List Nat} {k : Nat} (hk : k < rn.length) : behindL l n (rn.take (k + 1)) = if n.testBit rn[k] = true then withL (behindL l n (rn.take k)) (opsAt l rn[k]) else behindL l n (rn.take k) := by
  unfold behindL
  rw [List.take_succ_eq_append_getElem hk, List.foldl_append]
  rfl
theorem behindL_len {l : List Tx} (hol : ∀ i, (opsAt l i).length ≤ 60) (n : Nat) (rn : List Nat) : (behindL l n rn).length ≤ 60 * rn.length := by
  refine snoc_ind (p := fun rn => (behindL l n rn).length ≤ 60 * rn.length) ?_ ?_ rn
  · exact Nat.le_refl _
  · intro r i ih
    have h1 := withL_len (opsAt l i) (behindL l n r)
    have h2 := hol i
    show ((r ++ [i]).foldl _ []).length ≤ _
    rw [List.foldl_append, List.length_append, List.length_singleton]
    show (if n.testBit i = true then withL (behindL l n r) (opsAt l i) else behindL l n r).length ≤ _
    split <;> omega
theorem memL_behind (l : List Tx) (n : Nat) (rn : List Nat) : memL (behindL l n rn) = behindS l n zeroM rn := by
  refine snoc_ind (p := fun rn => memL (behindL l n rn) = behindS l n zeroM rn) ?_ ?_ rn
  · rfl
  · intro r i ih
    rw [behind_app, ← ih]
    show memL ((r ++ [i]).foldl _ []) = stepM l n _ i
    rw [List.foldl_append]
    show memL (if n.testBit i = true then withL (behindL l n r) (opsAt l i) else behindL l n r) = _
    unfold stepM
    split
    · rw [memL_with]
    · rfl
end Go.Proofs.YtpjfhdljagkefaaGreatDoor.RPlain
namespace Go.Proofs.YtpjfhdljagkefaaGreatDoor
open Go.RowKit WPlain QPlain RPlain

set_option maxRecDepth 100000 in
set_option maxHeartbeats 2000000 in
theorem refBehind_any (v rv : Value) (l : List Tx) (rn : List Nat) (n : Nat) (w : World) (hv : Txs w v l) (hr : Rd w rv (ints (rn.map (fun x : Nat => (x : Int))))) (hrn : ∀ b ∈ rn, b < l.length) (h6 : l.length ≤ 6) (hol : ∀ i, (opsAt l i).length ≤ 60) (hrl : rn.length ≤ 12) (hn : n < 4294967296) :
    Calls Tryz.prog 50 #[v, rv, .int .u32 (n : Int)] w fun e w' => ∃ u, e = .returned (.agg #[u]) ∧ Mm w' u (behindL l n rn) ∧ Below w.heap.size w w' := by
  obtain ⟨ra, rc, rfl⟩ := hr.len
  have hil : (ints (rn.map (fun x : Nat => (x : Int)))).length = rn.length := by simp [ints]
  rw [hil] at hr ⊢
  clear hil
  have HV := Lib.hid hv
  have HR := Lib.hid hr
  have HLT : Hid (∀ b ∈ rn, b < l.length) := hrn
  have HOL := Lib.hid hol
  have HTK := Lib.hid (fun (k : Nat) (hk : k < rn.length) => behindL_take (l := l) (n := n) hk)
  have HLN := Lib.hid (fun (k : Nat) => Nat.le_trans (behindL_len hol n (rn.take k)) (Nat.mul_le_mul_left 60 (List.length_take_le' k rn)))
  have HFE : Hid (behindL l n rn = behindL l n (rn.take rn.length)) := by unfold Hid; rw [List.take_length]
  obtain ⟨a, c, rfl⟩ := hv.len
  obtain ⟨ha0, hr0, hb0⟩ := mem_pair w (.slice none 0 0)
  have HA0 := Lib.hid ha0
  have HR0 := Lib.hid hr0
  have HB0 := Lib.hid hb0
  clear hv hr hrn hol ha0 hr0 hb0
  go_enter Tryz.func50, Tryz.ntmps50
  go_wp2_with fail
  go_loopw [13] (fun x wr => ∃ k : Nat, k ≤ rn.length ∧ x = .int .i64 k ∧ Hid (∃ a' n' c', At wr (w.heap.size + 1) #[.slice a' n' c'] 89 ∧ Mm wr (.slice a' n' c') (behindL l n (rn.take k))) ∧ Hid (At wr w.heap.size #[.slice none 0 0] 89) ∧ Hid (Below w.heap.size w wr)) (fun x _ => rn.length - (intOf x).toNat)
  case atStart => exact ⟨0, by omega, rfl, ⟨_, _, _, HR0.out, Mm.nil _⟩, HA0, HB0⟩
  case round =>
    clear HA0 HR0 HB0
    obtain ⟨k, hk, rfl, HM, HA, HB⟩ := hrel
    obtain ⟨a1, n1, c1, hA, hM⟩ := HM.out
    have HC := Lib.hid hA
    have HMM := Lib.hid hM
    clear HM hA hM
    by_cases hlt : k < rn.length
    · obtain ⟨b, o, c', he, hbl, hcs⟩ := (HR.out.below HB.out (Nat.le_refl _)).opened (by simp [ints]; omega)
      simp only [Value.slice.injEq] at he
      obtain ⟨rfl, -, rfl⟩ := he
      have hck := hcs k _ (ints_castL rn k hlt)
      have hpl := HLT.out _ (List.getElem_mem hlt)
      have hT := HV.out.below HB.out (Nat.le_refl _)
      obtain ⟨b2, o2, c2, he2⟩ := hT.opened (by omega)
      simp only [Value.slice.injEq] at he2
      obtain ⟨rfl, -, rfl⟩ := he2
      obtain ⟨ov, x0, x1, x2, x3, x4, q⟩ := hT.get rn[k] hpl
      obtain ⟨ua, uc, rfl, -⟩ := q.len
      have hTE := HTK.out k hlt
      have hln := HLN.out k
      have hol := HOL.out rn[k]
      have hbt := fun (W : World) => refBit9_any n rn[k] hn (by omega) W
      rw [opsAtL_get hpl] at hTE hol
      have HQ := Lib.hid q
      clear hcs x0 x1 x2 x3 hT q
      generalize l[rn[k]].o = ops at *
      generalize rn[k] = p at *
      generalize behindL l n (rn.take k) = K at *
      generalize n.testBit p = bb at *
      cases bb with
      | false =>
        have HTE : Hid (behindL l n (rn.take (k + 1)) = K) := by unfold Hid; rw [hTE, if_neg (by decide)]
        clear hTE
        go_wp2_with (go_at_call 22; refine (hbt _).mono ?_; rintro e w3 ⟨rfl, rfl⟩)
        go_roundw
        case rel => exact ⟨k + 1, by omega, by go_num, ⟨_, _, _, HC.out, by rw [HTE.out]; exact HMM.out⟩, HA, HB⟩
        case measure => simp [intOf]; omega
      | true =>
        have HTE : Hid (behindL l n (rn.take (k + 1)) = withL K ops) := by unfold Hid; rw [hTE, if_pos rfl]
        have HWI := Lib.hid (fun (W : World) (h1 : Mm W (.slice a1 n1 c1) K) (h2 : Opv W (.slice ua ops.length uc) ops) => refWith_any _ _ K ops W h1 h2 (by omega))
        have k0 := HC.out.cell (i := 0) (v := .slice a1 n1 c1) rfl
        clear hTE
        go_upto_region 6 with (go_at_call 22; refine (hbt _).mono ?_; rintro e w3 ⟨rfl, rfl⟩)
        go_still_tail 6, (by kernel_rfl)
        change wpList _ _ _ _ _ w3.drew
        have HC4 : Hid (At w3.drew (w.heap.size + 1) #[.slice a1 n1 c1] 89) := HC.out
        have HA4 : Hid (At w3.drew w.heap.size #[.slice none 0 0] 89) := HA.out
        have HB4 : Hid (Below w.heap.size w w3.drew) := HB.out.drew
        have HM4 : Hid (Mm w3.drew (.slice a1 n1 c1) K) := HMM.out.below (below_drP w3) (Nat.le_refl _)
        have HQ4 : Hid (Opv w3.drew (.slice ua ops.length uc) ops) := HQ.out.below (below_drP w3) (Nat.le_refl _)
        clear HC HA HB HMM HQ k0 hck x4 hbl
        generalize w3.drew = w4 at *
        go_wp2_with (go_at_call 72; refine (HWI.out _ HM4.out HQ4.out).mono ?_; rintro e w5 ⟨u5, rfl, hm5, hb5⟩; obtain ⟨a5, c5, rfl, -⟩ := hm5.1.len; have HC5 := Lib.hid (HC4.out.below hb5 HC4.out.lt); have HA5 := Lib.hid (HA4.out.below hb5 HA4.out.lt); have HB5 := Lib.hid (HB4.out.trans (hb5.mono HB4.out.size)); have HM5 := Lib.hid hm5; have k5 := HC5.out.cell (i := 0) (v := .slice a1 n1 c1) rfl; have f5 := HC5.out.free 0; clear hm5 hb5)
        have HC6 := Lib.hid (HC5.out.set 0 (.slice a5 (withL K ops).length c5))
        have HM6 : Hid (Mm (w5.setCell ⟨w.heap.size + 1, 0, none⟩ (.slice a5 (withL K ops).length c5)) (.slice a5 (withL K ops).length c5) (withL K ops)) := ⟨HM5.out.1.set HC5.out _, HM5.out.2⟩
        have HA6 := Lib.hid (HA5.out.other (a := ⟨w.heap.size + 1, 0, none⟩) (by simp) (.slice a5 (withL K ops).length c5))
        have HB6 := Lib.hid (HB5.out.setCell (p := ⟨w.heap.size + 1, 0, none⟩) (by simp) (.slice a5 (withL K ops).length c5))
        clear k5 f5 HC5 HM5 HA5 HB5
        go_roundw
        case rel => exact ⟨k + 1, by omega, by go_num, ⟨_, _, _, HC6.out, by rw [HTE.out]; exact HM6.out⟩, HA6, HB6⟩
        case measure => simp [intOf]; omega
    · obtain rfl : k = rn.length := by omega
      rw [← HFE.out] at HMM
      have HM9 : Hid (Mm (wr.setCell ⟨w.heap.size, 0, none⟩ (.slice a1 n1 c1)) (.slice a1 n1 c1) (behindL l n rn)) := ⟨HMM.out.1.set HA.out _, HMM.out.2⟩
      have HA9 := Lib.hid (HA.out.set 0 (.slice a1 n1 c1))
      have HB9 := Lib.hid (HB.out.setCell (p := ⟨w.heap.size, 0, none⟩) (Nat.le_refl _) (.slice a1 n1 c1))
      have k0 := HC.out.cell (i := 0) (v := .slice a1 n1 c1) rfl
      have z0 := HA.out.cell (i := 0) (v := .slice none 0 0) rfl
      have f0 := HA.out.free 0
      clear HFE HTK HLN
      go_wp2
      generalize wr.setCell ⟨w.heap.size, 0, none⟩ (.slice a1 n1 c1) = w9 at *
      have e0 := HA9.out.cell (i := 0) (v := .slice a1 n1 c1) rfl
      refine bodyPost_ret (v := .agg #[.slice a1 n1 c1]) ?_ rfl ⟨_, rfl, HM9.out, HB9.out⟩
      simp [results, Tryz.results50, go_sem, e0]
set_option maxRecDepth 100000 in
set_option maxHeartbeats 2000000 in
theorem refLegal_any (v rv : Value) (l : List Tx) (rn : List Nat) (n : Nat) (w : World) (hv : Txs w v l) (hr : Rd w rv (ints (rn.map (fun x : Nat => (x : Int))))) (hrc : ∀ a m c, rv = .slice a m c → m ≤ c) (hrn : ∀ b ∈ rn, b < l.length) (h6 : l.length ≤ 6) (hol : ∀ i, (opsAt l i).length ≤ 60) (hrl : rn.length ≤ 12) (hn : n < 4294967296) :
    Calls Tryz.prog 26 #[v, rv, .int .u32 (n : Int)] w fun e w' => e = .returned (.int .i64 ((legalS l n rn : Nat) : Int)) ∧ Below w.heap.size w w' := by
  obtain ⟨ra, rc, rfl⟩ := hr.len
  have hil : (ints (rn.map (fun x : Nat => (x : Int)))).length = rn.length := by simp [ints]
  rw [hil] at hr hrc ⊢
  clear hil
  have hrc2 : rn.length ≤ rc := hrc _ _ _ rfl
  clear hrc
  have HV := Lib.hid hv
  have HR := Lib.hid hr
  have HLT : Hid (∀ b ∈ rn, b < l.length) := hrn
  have HOL := Lib.hid hol
  have HNX := Lib.hid (fun (k : Nat) (hk : k < rn.length) h1 h2 => legal_next (l := l) (c := n) (M := zeroM) hk h1 h2)
  have HNO := Lib.hid (fun (k : Nat) (hk : k < rn.length) h1 h2 => legal_stop (l := l) (c := n) (M := zeroM) hk h1 h2)
  obtain ⟨a, c, rfl⟩ := hv.len
  have HBE : Hid (∀ (k : Nat) (hk : k ≤ rn.length) (W : World), Below w.heap.size w W → Calls Tryz.prog 50 #[.slice a l.length c, .slice ra k rc, .int .u32 (n : Int)] W fun e w' => ∃ u, e = .returned (.agg #[u]) ∧ Mm w' u (behindL l n (rn.take k)) ∧ Below W.heap.size W w') := fun k hk W hW => by
    have hcut : Rd W (.slice ra k rc) (ints ((rn.take k).map (fun x : Nat => (x : Int)))) := by
      have h1 := (hr.below hW (Nat.le_refl _)).cut k hk
      simpa [ints, List.map_take] using h1
    exact refBehind_any _ _ l (rn.take k) n W (hv.below hW (Nat.le_refl _)) hcut (fun b hb => hrn b (List.mem_of_mem_take hb)) h6 hol (Nat.le_trans (List.length_take_le' k rn) hrl) hn
  have HME := Lib.hid (fun (k : Nat) => memL_behind l n (rn.take k))
  have HLN := Lib.hid (fun (k : Nat) => Nat.le_trans (behindL_len hol n (rn.take k)) (Nat.mul_le_mul_left 60 (List.length_take_le' k rn)))
  obtain ⟨res, hres⟩ : ∃ res, legalS l n rn = res := ⟨_, rfl⟩
  rw [hres]
  have HRES : Hid (legalG l n zeroM rn = res) := hres
  clear hres hrn hv hr hol
  go_enter Tryz.func26, Tryz.ntmps26
  go_wp2_with fail
  go_loopw [11] (fun x wr => ∃ k : Nat, k ≤ rn.length ∧ x = .int .i64 k ∧ Hid (legalG l n zeroM (rn.take k) = k) ∧ Hid (Below w.heap.size w wr)) (fun x _ => rn.length - (intOf x).toNat)
  case atStart => exact ⟨0, by omega, rfl, rfl, Below.refl _ _⟩
  case round =>
    obtain ⟨k, hk, rfl, HG, HB⟩ := hrel
    by_cases hlt : k < rn.length
    · obtain ⟨b, o, c', he, hbl, hcs⟩ := (HR.out.below HB.out (Nat.le_refl _)).opened (by simp [ints]; omega)
      simp only [Value.slice.injEq] at he
      obtain ⟨rfl, -, rfl⟩ := he
      have hck := hcs k _ (ints_castL rn k hlt)
      have hpl := HLT.out _ (List.getElem_mem hlt)
      have hT := HV.out.below HB.out (Nat.le_refl _)
      obtain ⟨b2, o2, c2, he2⟩ := hT.opened (by omega)
      simp only [Value.slice.injEq] at he2
      obtain ⟨rfl, -, rfl⟩ := he2
      obtain ⟨ov, x0, x1, x2, x3, x4, q⟩ := hT.get rn[k] hpl
      obtain ⟨ua, uc, rfl, -⟩ := q.len
      have hln := HLN.out k
      have hol := HOL.out rn[k]
      have HNX2 := Lib.hid (HNX.out k hlt HG.out)
      have HNO2 := Lib.hid (HNO.out k hlt HG.out)
      have hle := own_le l[rn[k]].o (behindS l n zeroM (rn.take k))
      rw [opsAtL_get hpl] at hol HNX2 HNO2
      have hme := HME.out k
      have HBE2 := Lib.hid (HBE.out k hk)
      have HOW := Lib.hid (fun (u : Value) (W : World) (h1 : Opv W (.slice ua l[rn[k]].o.length uc) l[rn[k]].o) (h2 : Mm W u (behindL l n (rn.take k))) => (show Calls Tryz.prog 49 #[.slice ua l[rn[k]].o.length uc, .agg #[u]] W fun e w' => e = .returned (.int .i64 ((ownS (behindS l n zeroM (rn.take k)) l[rn[k]].o : Nat) : Int)) ∧ Below W.heap.size W w' by
        have h3 := refOwn_any _ u l[rn[k]].o (behindL l n (rn.take k)) W h1 h2 (by omega)
        rwa [hme] at h3))
      have HQ := Lib.hid q
      have hx4 := cell_lt x4
      clear hcs x0 x1 x2 x3 hT q hme
      generalize l[rn[k]].o = ops at *
      generalize rn[k] = p at *
      generalize behindL l n (rn.take k) = K at *
      generalize behindS l n zeroM (rn.take k) = MM at *
      generalize ownS MM ops = ow at *
      have HSC : Hid (∀ W, Below wr.heap.size wr W → W.cell? ⟨b2, o2 + p * 5 + 4, none⟩ = some (.slice ua ops.length uc)) := fun W hW => (hW.cell (p := ⟨b2, o2 + p * 5 + 4, none⟩) hx4).trans x4
      have HSO : Hid (∀ W, Below wr.heap.size wr W → Opv W (.slice ua ops.length uc) ops) := fun W hW => HQ.out.below hW (Nat.le_refl _)
      have HWB : Hid (∀ W, Below wr.heap.size wr W → Below w.heap.size w W) := fun W hW => HB.out.trans (hW.mono HB.out.size)
      have hkr : (k : Int) ≤ (rc : Int) := by omega
      clear HQ hx4 HB
      go_upto_region 4 with fail
      clear x4 hck hbl
      by_cases how : ow = ops.length
      · have HG2 := Lib.hid (HNX2.out how)
        subst how
        clear HNX2 HNO2 hle
        first
        | go_must (go_region_held_law (fun w' => w'.cell? ⟨b2, o2 + p * 5 + 4, none⟩ = some (.slice ua ops.length uc))
            (first | exact HSC.out _ hb6 | exact HSC.out _ hb5 | exact HSC.out _ (below_drP _))
            (first
              | (go_at_call 50; refine (HBE2.out _ (HWB.out _ (below_drP _))).mono ?_; rintro e w5 ⟨u5, rfl, hm5, hb⟩; have hb5 := below_stpP hb)
              | (go_at_call 49; refine (HOW.out u5 _ (HSO.out _ hb5) hm5).mono ?_; rintro e w6 ⟨rfl, hb⟩; have hb6 := hb5.trans (hb.mono hb5.size))))
        | fail
        all_goals
          have HB3 := Lib.hid (HWB.out _ hb6)
          clear hb5 hb6 hm5
          go_wp2
          go_roundw
          case rel => exact ⟨k + 1, by omega, by go_num, HG2, HB3⟩
          case measure => simp [intOf]; omega
      · have hres := HNO2.out how
        rw [HRES.out] at hres
        subst hres
        have how2 : ow < ops.length := by omega
        clear HNX2 HNO2 hle how
        first
        | go_must (go_region_held_law (fun w' => w'.cell? ⟨b2, o2 + p * 5 + 4, none⟩ = some (.slice ua ops.length uc))
            (first | exact HSC.out _ hb6 | exact HSC.out _ hb5 | exact HSC.out _ (below_drP _))
            (first
              | (go_at_call 50; refine (HBE2.out _ (HWB.out _ (below_drP _))).mono ?_; rintro e w5 ⟨u5, rfl, hm5, hb⟩; have hb5 := below_stpP hb)
              | (go_at_call 49; refine (HOW.out u5 _ (HSO.out _ hb5) hm5).mono ?_; rintro e w6 ⟨rfl, hb⟩; have hb6 := hb5.trans (hb.mono hb5.size))))
        | fail
        all_goals
          have HB3 := Lib.hid (HWB.out _ hb6)
          clear hb5 hb6 hm5
          go_wp2
          go_ret
          exact ⟨rfl, HB3.out⟩
    · obtain rfl : k = rn.length := by omega
      have hres : rn.length = res := by have := HG.out; rw [List.take_length, HRES.out] at this; exact this.symm
      subst hres
      go_wp2
      go_ret
      exact ⟨rfl, HB.out⟩
end Go.Proofs.YtpjfhdljagkefaaGreatDoor
/- The walk of recantref15's One. -/
namespace Go.Proofs.YtpjfhdljagkefaaGreatDoor.WPlain
end Go.Proofs.YtpjfhdljagkefaaGreatDoor.WPlain
namespace Go.Proofs.YtpjfhdljagkefaaGreatDoor.QPlain
end Go.Proofs.YtpjfhdljagkefaaGreatDoor.QPlain
namespace Go.Proofs.YtpjfhdljagkefaaGreatDoor.RPlain
end Go.Proofs.YtpjfhdljagkefaaGreatDoor.RPlain
namespace Go.Proofs.YtpjfhdljagkefaaGreatDoor
open Go.RowKit WPlain QPlain RPlain

theorem fnd4_set {w : World} {N : Nat} {a b c d : Value} (h : At w N #[a, b, c, d] 26) (x0 x1 x2 x3 : Value) :
    At ((((w.setCell ⟨N, 0, none⟩ x0).setCell ⟨N, 1, none⟩ x1).setCell ⟨N, 2, none⟩ x2).setCell ⟨N, 3, none⟩ x3) N #[x0, x1, x2, x3] 26 :=
  (((h.set 0 x0).set 1 x1).set 2 x2).set 3 x3
theorem RowsO.low {B B' : Nat} {w : World} {vs : List Value} {rows : List (List Nat)} (h : RowsO B w vs rows) (hb : B' ≤ B) : RowsO B' w vs rows :=
  ⟨h.1, fun i hi hi' => own_lessW (h.2 i hi hi') hb⟩
set_option maxRecDepth 100000 in
set_option maxHeartbeats 8000000 in
theorem refOneW_any (lv : Value) (l : List Tx) (t c B s0 : Nat) (w : World) (hlv : Txs w lv l) (h6 : l.length ≤ 6) (hol : ∀ i, (opsAt l i).length ≤ 60) (ht : t < l.length) (hcl : c < 2 ^ l.length) (hB : B ≤ 1000000) (hs0 : s0 ≤ B) :
    Calls Tryz.prog 12 #[lv, .int .i64 (t : Int), .int .u32 (c : Int), .int .i64 (B : Int), .int .i64 (s0 : Int)] w fun e w' => ∃ rv, e = .returned (fndV (oneS B l t c s0).1 (oneS B l t c s0).2.1 rv (oneS B l t c s0).2.2.2) ∧
      RdX (fun k => k < w.heap.size) w' rv (nats (oneS B l t c s0).2.2.1) ∧ CapV rv ∧ SrcN rv ∧ Below w.heap.size w w' := by
  obtain ⟨w1, hw1⟩ : ∃ w1, w.alloc (.cells #[.int .i64 0, .int .u32 0, .slice none 0 0, .int .i64 0] 26) = w1 := ⟨_, rfl⟩
  have HB1 : Hid (Below w.heap.size w w1) := by
    rw [← hw1]
    exact (Below.refl _ w).alloc (Nat.le_refl _) _
  obtain ⟨N, hN⟩ : ∃ N, w.heap.size = N := ⟨_, rfl⟩
  have HA1 : Hid (At w1 N #[.int .i64 0, .int .u32 0, .slice none 0 0, .int .i64 0] 26) := by
    rw [← hw1, ← hN]
    exact At.new w _ _
  have hN1 : N < w1.heap.size := HA1.out.lt
  have HV1 := Lib.hid (hlv.below HB1.out (Nat.le_refl _))
  have h64 := Nat.lt_of_lt_of_le hcl (pow_le_64 h6)
  have hc32 : c < 4294967296 := by omega
  have HMAY := Lib.hid (fun (x : Nat) (hx : x < 4294967296) (W : World) (hW : Below w1.heap.size w1 W) => refMayW_any lv l t x c W (HV1.out.below hW (Nat.le_refl _)) h6 ht hx hc32)
  have HBITS := Lib.hid (fun (x : Nat) (hx : x < 4294967296) (W : World) (hW : Below w1.heap.size w1 W) => refBitsS_any lv l x W (HV1.out.below hW (Nat.le_refl _)) (by omega) hx)
  have HROWS := Lib.hid (fun (x : Nat) (hx : x < 4294967296) (W : World) (hW : Below w1.heap.size w1 W) => refRowsW_any lv l x W (HV1.out.below hW (Nat.le_refl _)) h6 hx)
  have HLEG := Lib.hid (fun (rv : Value) (rn : List Nat) (W : World) (hW : Below w1.heap.size w1 W) h1 h2 h3 h4 => refLegal_any lv rv l rn c W (HV1.out.below hW (Nat.le_refl _)) h1 h2 h3 h6 hol h4 hc32)
  have HRF := Lib.hid (fun (x : Nat) (r : List Nat) (hr : r ∈ rowsW l x) => (lvlW_facts h6 x (Nat.le_refl _)).2 r (by rw [lvlW_rows]; exact hr))
  have HRC : Hid (∀ x, (rowsW l x).length ≤ 46656) := fun x => by rw [← lvlW_rows]; exact (lvlW_facts h6 x (Nat.le_refl _)).1
  obtain ⟨F, hF⟩ : ∃ F, oneS B l t c s0 = F := ⟨_, rfl⟩
  rw [hF]
  have HT0 : Hid (oneG B l t c (pairsD l t c 0) s0 = F) := by rw [pairsD_zero]; exact hF
  have HNX := Lib.hid (fun a (ha : a ≤ c) => pairsD_next (l := l) (t := t) (c := c) ha)
  have HEND := Lib.hid (pairsD_end l t c)
  have HSP : Hid (∀ x, setP l t c x = if mayW l t x c = true ∧ x < 2 ^ l.length then (rowsW l x).map fun r => (x, r) else []) := fun x => rfl
  have HTL : Hid (∀ row, tellW l t c row = decide (row.length < legalS l c (row ++ [t]))) := fun row => rfl
  have HLL : Hid (∀ row, legalS l c (row ++ [t]) ≤ row.length + 1) := fun row => by
    have := legal_le l c (row ++ [t]) zeroM
    rwa [List.length_append, List.length_singleton] at this
  obtain ⟨la, lc, rfl⟩ := hlv.len
  clear hlv hF
  go_enter Tryz.func12, Tryz.ntmps12
  go_wp2_with fail
  go_loopw [4, 11] (fun y x wr => ∃ a s : Nat, a ≤ c + 1 ∧ x = .int .u32 (a : Int) ∧ y = .int .i64 (s : Int) ∧ s ≤ B ∧ Hid (oneG B l t c (pairsD l t c a) s = F) ∧ Hid (Below w1.heap.size w1 wr)) (fun _ x _ => c + 1 - (intOf x).toNat)
  case atStart => exact ⟨0, s0, by omega, rfl, rfl, hs0, HT0, Below.refl _ _⟩
  case round =>
    clear HT0
    obtain ⟨a, s, ha, rfl, rfl, hs, HT, HB⟩ := hrel
    have HAR := Lib.hid (HA1.out.below HB.out hN1)
    by_cases hlt : a ≤ c
    · have ha32 : a < 4294967296 := by omega
      have hac : (a : Int) ≤ (c : Int) := by omega
      have hmay := HMAY.out a ha32 wr HB.out
      have hnx := HNX.out a hlt
      have hsp := HSP.out a
      have hdec : decide (a < 2 ^ l.length) = true := decide_eq_true (by omega)
      cases hm : mayW l t a c with
      | false =>
        rw [hm] at hmay
        rw [hsp, if_neg (by rw [hm]; simp), List.nil_append] at hnx
        have HT2 : Hid (oneG B l t c (pairsD l t c (a + 1)) s = F) := by unfold Hid; rw [← hnx]; exact HT.out
        clear hm hnx hsp HT hdec
        go_wp2_with (go_at_call 24; refine hmay.mono ?_; rintro e w3 ⟨rfl, hb3⟩)
        go_roundw
        case rel => exact ⟨a + 1, s, by omega, by go_num, rfl, hs, HT2, HB.out.trans (hb3.mono HB.out.size)⟩
        case measure => simp [intOf]; omega
      | true =>
        rw [hm] at hmay
        rw [hsp, if_pos ⟨hm, by omega⟩] at hnx
        have hHT := HT.out
        rw [hnx] at hHT
        have HT2 : Hid (oneG B l t c (((rowsW l a).drop 0).map (fun r => (a, r)) ++ pairsD l t c (a + 1)) s = F) := by
          unfold Hid; rw [List.drop_zero]; exact hHT
        have HBI := Lib.hid (fun (W : World) (hW : Below w1.heap.size w1 W) => HBITS.out a ha32 W hW)
        rw [hdec] at HBI
        have HRW := Lib.hid (fun (W : World) (hW : Below w1.heap.size w1 W) => HROWS.out a ha32 W hW)
        have HRFA := Lib.hid (fun r hr => HRF.out a r hr)
        have hrc := HRC.out a
        clear hm hnx hsp HT hdec hHT
        go_wp2_with fail
        refine hmay.mono ?_
        rintro e w3 ⟨rfl, hb3⟩
        have HB3 := Lib.hid (HB.out.trans (hb3.mono HB.out.size))
        have hbi := HBI.out w3 HB3.out
        have hrw := HRW.out w3 HB3.out
        clear hb3 HB HBI HRW HAR hmay
        go_wp2_with (go_at_call 8; refine hbi.mono ?_; rintro e w4 ⟨rfl, hw4⟩; have hw4 := hw4.symm; subst hw4)
        refine hrw.mono ?_
        rintro e w4 ⟨v4, vs, rfl, ho4, hr4, hb4⟩
        have HB4 := Lib.hid (HB3.out.trans (hb4.mono HB3.out.size))
        have HO4 := Lib.hid (own_lessW ho4 (show w1.heap.size ≤ w3.heap.size from HB3.out.size))
        have HR4 := Lib.hid (hr4.low (show w1.heap.size ≤ w3.heap.size from HB3.out.size))
        obtain ⟨va, vc, rfl⟩ := row_slice ho4
        obtain ⟨rows, hrows⟩ : ∃ rows, rowsW l a = rows := ⟨_, rfl⟩
        rw [hrows] at HO4 HR4 HT2 HRFA hrc ⊢
        clear ho4 hr4 hb4 hrw hbi HB3 hrows
        go_wp2_with fail
        go_loopw [4, 35] (fun y x wr2 => ∃ q s : Nat, q ≤ rows.length ∧ x = .int .i64 (q : Int) ∧ y = .int .i64 (s : Int) ∧ s ≤ B ∧ Hid (oneG B l t c ((rows.drop q).map (fun r => (a, r)) ++ pairsD l t c (a + 1)) s = F) ∧ Hid (Below w4.heap.size w4 wr2)) (fun _ x _ => rows.length - (intOf x).toNat)
        case atStart => exact ⟨0, s, by omega, rfl, rfl, hs, HT2, Below.refl _ _⟩
        case round =>
          clear HT2 hs
          obtain ⟨q, s, hq, rfl, rfl, hs, HT, HBQ⟩ := hrel
          have HBR := Lib.hid (HB4.out.trans (HBQ.out.mono HB4.out.size))
          have HAR := Lib.hid (HA1.out.below HBR.out hN1)
          have hNB : Below N w wr := by
            have h1 := HB1.out.trans (HBR.out.mono HB1.out.size)
            rwa [hN] at h1
          have HNB := Lib.hid hNB
          by_cases hlq : q < rows.length
          · have hoq := HO4.out.kept (grownB11 HBQ.out) (by cases (Value.slice va rows.length vc).ownBlock <;> simp)
            have hrq := HR4.out.below HBQ.out
            obtain ⟨b, o, c', he, hb, hcs⟩ := (Rd.of_row hoq).opened (by rw [HR4.out.1]; omega)
            obtain ⟨ra, rc, hget, hown⟩ := hrq.get hlq
            have hcq := hcs q _ hget
            simp only [Value.slice.injEq] at he
            obtain ⟨rfl, -, rfl⟩ := he
            obtain ⟨hr6, hrk⟩ := HRFA.out _ (List.getElem_mem hlq)
            have hTd := HT.out
            rw [List.drop_eq_getElem_cons hlq, List.map_cons, List.cons_append, oneG] at hTd
            have htl := HTL.out rows[q]
            have hll := HLL.out rows[q]
            generalize rows[q] = r at *
            have HTD := Lib.hid hTd
            have HOW := Lib.hid hown
            clear hcs hb hget hoq hrq HT hTd hNB
            by_cases hsB : s = B
            · have hTd := HTD.out
              rw [if_pos hsB] at hTd
              subst hsB
              have tq : ((s : Int) == (s : Int)) = true := by simp
              have HTF := Lib.hid hTd
              clear hTd
              have r0 : wr.cell? ⟨N, 0, none⟩ = some (.int .i64 0) := HAR.out.cell rfl
              have r1 : wr.cell? ⟨N, 1, none⟩ = some (.int .u32 0) := HAR.out.cell rfl
              have r2 : wr.cell? ⟨N, 2, none⟩ = some (.slice none 0 0) := HAR.out.cell rfl
              have r3 : wr.cell? ⟨N, 3, none⟩ = some (.int .i64 0) := HAR.out.cell rfl
              have f0 : wr.frozen? ⟨N, 0, none⟩ = false := HAR.out.free 0
              have f1 : wr.frozen? ⟨N, 1, none⟩ = false := HAR.out.free 1
              have f2 : wr.frozen? ⟨N, 2, none⟩ = false := HAR.out.free 2
              have f3 : wr.frozen? ⟨N, 3, none⟩ = false := HAR.out.free 3
              go_wp2_with fail
              have HZ7 := Lib.hid (fnd4_set HAR.out (.int .i64 2) (.int .u32 0) (.slice none 0 0) (.int .i64 (s : Int)))
              have HO7 := Lib.hid (fnd_only wr N (.int .i64 2) (.int .u32 0) (.slice none 0 0) (.int .i64 (s : Int)))
              generalize ((((wr.setCell ⟨N, 0, none⟩ (.int .i64 2)).setCell ⟨N, 1, none⟩ (.int .u32 0)).setCell ⟨N, 2, none⟩ (.slice none 0 0)).setCell ⟨N, 3, none⟩ (.int .i64 (s : Int))) = w7 at *
              clear r0 r1 r2 r3 f0 f1 f2 f3
              have r0 : w7.cell? ⟨N, 0, none⟩ = some (.int .i64 2) := HZ7.out.cell rfl
              have r1 : w7.cell? ⟨N, 1, none⟩ = some (.int .u32 0) := HZ7.out.cell rfl
              have r2 : w7.cell? ⟨N, 2, none⟩ = some (.slice none 0 0) := HZ7.out.cell rfl
              have r3 : w7.cell? ⟨N, 3, none⟩ = some (.int .i64 (s : Int)) := HZ7.out.cell rfl
              have HB7 : Hid (Below N w w7) := by
                have h1 := HNB.out
                exact h1.trans (HO7.out.below (by have := h1.size; omega) (fun k _ hk => by omega))
              try rw [Exit.noGoto_ret]
              refine bodyPost_ret (v := fndV 2 0 (.slice none 0 0) s) (by simp [results, Tryz.results12, go_sem, r0, r1, r2, r3]; rfl) rfl ?_
              rw [← HTF.out]
              try rw [hN]
              exact ⟨_, rfl, .inl ⟨rfl, _, _, rfl⟩, capV_nil, .inl rfl, HB7.out⟩
            · have hTd := HTD.out
              rw [if_neg hsB] at hTd
              have tq : ((s : Int) == (B : Int)) = false := by rw [beq_eq_false_iff_ne]; omega
              have HTF := Lib.hid hTd
              have hwi := refWithW_any (.slice ra r.length rc) r t wr (Rd.of_row HOW.out) (SrcN.of_row HOW.out) (by omega)
              clear hTd HTD
              go_wp2_with fail
              refine hwi.mono ?_
              rintro e w5 ⟨v5, rfl, g1, g2, g3⟩
              have hb5 := HBR.out.trans (g3.mono HBR.out.size)
              have hrk1 : (r ++ [t]).length = r.length + 1 := by simp
              obtain ⟨va5, vc5, rfl⟩ := row_slice g1
              have hleg := HLEG.out (.slice va5 (r.length + 1) vc5) (r ++ [t]) w5 hb5 (by rw [← nats_ints]; exact Rd.of_row g1) (ownCap11 g1) (fun x hx => by
                rcases List.mem_append.1 hx with hx | hx
                · exact hrk x hx
                · rw [List.mem_singleton.1 hx]; exact ht) (by rw [hrk1]; omega)
              have HLG := Lib.hid hleg
              have HB5 := Lib.hid hb5
              have HQ5 := Lib.hid (HBQ.out.trans (g3.mono HBQ.out.size))
              have HOW5 := Lib.hid (HOW.out.kept (grownB11 g3) (by cases (Value.slice ra r.length rc).ownBlock <;> simp))
              clear g1 g2 g3 hb5 hleg hwi
              obtain ⟨lg, hlg⟩ : ∃ lg, legalS l c (r ++ [t]) = lg := ⟨_, rfl⟩
              rw [hlg] at HLG htl hll
              obtain ⟨tl, htl2⟩ : ∃ tl, tellW l t c r = tl := ⟨_, rfl⟩
              rw [htl2] at htl
              unfold Hid at HTF
              rw [htl2] at HTF
              have HTG := Lib.hid HTF
              clear hlg htl2 HTF
              go_wp2_with fail
              refine HLG.out.mono ?_
              rintro e w6 ⟨rfl, hb6⟩
              have HB6 := Lib.hid (HB5.out.trans (hb6.mono HB5.out.size))
              have HQ6 := Lib.hid (HQ5.out.trans (hb6.mono HQ5.out.size))
              have HOW6 := Lib.hid (HOW5.out.kept (grownB11 hb6) (by cases (Value.slice ra r.length rc).ownBlock <;> simp))
              have HA6 := Lib.hid (HA1.out.below HB6.out hN1)
              have hNB6 : Below N w w6 := by
                have h1 := HB1.out.trans (HB6.out.mono HB1.out.size)
                rwa [hN] at h1
              have HNB6 := Lib.hid hNB6
              clear hb6 hNB6 HB5 HQ5 HOW5 HLG HOW
              by_cases hgt : r.length < lg
              · rw [decide_eq_true hgt] at htl
                subst htl
                have hTd := HTG.out
                rw [if_pos rfl] at hTd
                have HTH := Lib.hid hTd
                have hgti : (r.length : Int) < (lg : Int) := by omega
                clear hTd HTG
                have r0 : w6.cell? ⟨N, 0, none⟩ = some (.int .i64 0) := HA6.out.cell rfl
                have r1 : w6.cell? ⟨N, 1, none⟩ = some (.int .u32 0) := HA6.out.cell rfl
                have r2 : w6.cell? ⟨N, 2, none⟩ = some (.slice none 0 0) := HA6.out.cell rfl
                have r3 : w6.cell? ⟨N, 3, none⟩ = some (.int .i64 0) := HA6.out.cell rfl
                have f0 : w6.frozen? ⟨N, 0, none⟩ = false := HA6.out.free 0
                have f1 : w6.frozen? ⟨N, 1, none⟩ = false := HA6.out.free 1
                have f2 : w6.frozen? ⟨N, 2, none⟩ = false := HA6.out.free 2
                have f3 : w6.frozen? ⟨N, 3, none⟩ = false := HA6.out.free 3
                go_wp2_with fail
                have HZ7 := Lib.hid (fnd4_set HA6.out (.int .i64 0) (.int .u32 (a : Int)) (.slice ra r.length rc) (.int .i64 ((s : Int) + 1)))
                have HO7 := Lib.hid (fnd_only w6 N (.int .i64 0) (.int .u32 (a : Int)) (.slice ra r.length rc) (.int .i64 ((s : Int) + 1)))
                generalize ((((w6.setCell ⟨N, 0, none⟩ (.int .i64 0)).setCell ⟨N, 1, none⟩ (.int .u32 (a : Int))).setCell ⟨N, 2, none⟩ (.slice ra r.length rc)).setCell ⟨N, 3, none⟩ (.int .i64 ((s : Int) + 1))) = w7 at *
                clear r0 r1 r2 r3 f0 f1 f2 f3
                have r0 : w7.cell? ⟨N, 0, none⟩ = some (.int .i64 0) := HZ7.out.cell rfl
                have r1 : w7.cell? ⟨N, 1, none⟩ = some (.int .u32 (a : Int)) := HZ7.out.cell rfl
                have r2 : w7.cell? ⟨N, 2, none⟩ = some (.slice ra r.length rc) := HZ7.out.cell rfl
                have r3 : w7.cell? ⟨N, 3, none⟩ = some (.int .i64 ((s : Int) + 1)) := HZ7.out.cell rfl
                have HB7 : Hid (Below N w w7) := by
                  have h1 := HNB6.out
                  exact h1.trans (HO7.out.below (by have := h1.size; omega) (fun k _ hk => by omega))
                try rw [Exit.noGoto_ret]
                refine bodyPost_ret (v := fndV 0 a (.slice ra r.length rc) (s + 1)) (by simp [results, Tryz.results12, go_sem, r0, r1, r2, r3]; rfl) rfl ?_
                have HR7 := Lib.hid (((RdX.of_row HOW6.out (X := fun k => k < w1.heap.size) (fun k hk => hk)).only HO7.out (fun k hk => by show k < _; omega)).less (Y := fun k => k < w.heap.size) (fun k hk => by show k < _; have := HB1.out.size; omega))
                rw [← HTH.out]
                try rw [hN]
                rw [hN] at HR7
                exact ⟨_, rfl, HR7.out, CapV.of_row HOW6.out, SrcN.of_row HOW6.out, HB7.out⟩
              · rw [decide_eq_false hgt] at htl
                subst htl
                have hTd := HTG.out
                rw [if_neg (by decide)] at hTd
                have HTH := Lib.hid hTd
                have hgti : ¬ ((r.length : Int) < (lg : Int)) := by omega
                clear hTd HTG
                go_wp2_with fail
                go_roundw
                case rel => exact ⟨q + 1, s + 1, by omega, by go_num, by go_num, by omega, HTH, HQ6⟩
                case measure => simp [intOf]; omega
          · obtain rfl : q = rows.length := by omega
            have hTd := HT.out
            rw [List.drop_length, List.map_nil, List.nil_append] at hTd
            have HTF := Lib.hid hTd
            clear hTd HT hNB
            go_wp2_with fail
            go_roundw
            case rel => exact ⟨a + 1, s, by omega, by go_num, rfl, hs, HTF, HBR⟩
            case measure => simp [intOf]; omega
    · obtain rfl : a = c + 1 := by omega
      have hac : ¬ (((c + 1 : Nat) : Int) ≤ (c : Int)) := by omega
      have hTd := HT.out
      rw [HEND.out] at hTd
      have HTF := Lib.hid hTd
      have hNB : Below N w wr := by
        have h1 := HB1.out.trans (HB.out.mono HB1.out.size)
        rwa [hN] at h1
      have HNB := Lib.hid hNB
      clear hTd hNB
      have r0 : wr.cell? ⟨N, 0, none⟩ = some (.int .i64 0) := HAR.out.cell rfl
      have r1 : wr.cell? ⟨N, 1, none⟩ = some (.int .u32 0) := HAR.out.cell rfl
      have r2 : wr.cell? ⟨N, 2, none⟩ = some (.slice none 0 0) := HAR.out.cell rfl
      have r3 : wr.cell? ⟨N, 3, none⟩ = some (.int .i64 0) := HAR.out.cell rfl
      have f0 : wr.frozen? ⟨N, 0, none⟩ = false := HAR.out.free 0
      have f1 : wr.frozen? ⟨N, 1, none⟩ = false := HAR.out.free 1
      have f2 : wr.frozen? ⟨N, 2, none⟩ = false := HAR.out.free 2
      have f3 : wr.frozen? ⟨N, 3, none⟩ = false := HAR.out.free 3
      go_wp2_with fail
      have HZ7 := Lib.hid (fnd4_set HAR.out (.int .i64 1) (.int .u32 0) (.slice none 0 0) (.int .i64 (s : Int)))
      have HO7 := Lib.hid (fnd_only wr N (.int .i64 1) (.int .u32 0) (.slice none 0 0) (.int .i64 (s : Int)))
      generalize ((((wr.setCell ⟨N, 0, none⟩ (.int .i64 1)).setCell ⟨N, 1, none⟩ (.int .u32 0)).setCell ⟨N, 2, none⟩ (.slice none 0 0)).setCell ⟨N, 3, none⟩ (.int .i64 (s : Int))) = w7 at *
      clear r0 r1 r2 r3 f0 f1 f2 f3
      have r0 : w7.cell? ⟨N, 0, none⟩ = some (.int .i64 1) := HZ7.out.cell rfl
      have r1 : w7.cell? ⟨N, 1, none⟩ = some (.int .u32 0) := HZ7.out.cell rfl
      have r2 : w7.cell? ⟨N, 2, none⟩ = some (.slice none 0 0) := HZ7.out.cell rfl
      have r3 : w7.cell? ⟨N, 3, none⟩ = some (.int .i64 (s : Int)) := HZ7.out.cell rfl
      have HB7 : Hid (Below N w w7) := by
        have h1 := HNB.out
        exact h1.trans (HO7.out.below (by have := h1.size; omega) (fun k _ hk => by omega))
      try rw [Exit.noGoto_ret]
      refine bodyPost_ret (v := fndV 1 0 (.slice none 0 0) s) (by simp [results, Tryz.results12, go_sem, r0, r1, r2, r3]; rfl) rfl ?_
      rw [← HTF.out]
      try rw [hN]
      exact ⟨_, rfl, .inl ⟨rfl, _, _, rfl⟩, capV_nil, .inl rfl, HB7.out⟩
end Go.Proofs.YtpjfhdljagkefaaGreatDoor
