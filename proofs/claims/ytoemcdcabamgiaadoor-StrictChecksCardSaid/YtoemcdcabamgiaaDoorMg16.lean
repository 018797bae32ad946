/- Merged: LegI, LegJ. -/
import Derived.Test.YtoemcdcabamgiaaDoorLegH
import Derived.Test.YtoemcdcabamgiaaDoorMg15
import Derived.Test.YtoemcdcabamgiaaDoorCmpF
import Derived.Deep.RegionHeldLaw
import Derived.StillTailTactics
/- The walks of the reference's Own, Behind and Legal. -/
namespace Go.Proofs.YtoemcdcabamgiaaDoor.WPlain
end Go.Proofs.YtoemcdcabamgiaaDoor.WPlain
namespace Go.Proofs.YtoemcdcabamgiaaDoor.QPlain
end Go.Proofs.YtoemcdcabamgiaaDoor.QPlain
namespace Go.Proofs.YtoemcdcabamgiaaDoor.RPlain
end Go.Proofs.YtoemcdcabamgiaaDoor.RPlain
namespace Go.Proofs.YtoemcdcabamgiaaDoor
open Go.RowKit WPlain QPlain RPlain

set_option maxRecDepth 100000 in
set_option maxHeartbeats 2000000 in
theorem refOwn_any (uo u : Value) (ops L : List Rwo) (w : World) (ho : Opv w uo ops) (hm : Mm w u L) (hl : L.length + ops.length ≤ 60000) :
    Calls Tryd.prog 72 #[uo, .agg #[u]] w fun e w' => e = .returned (.int .i64 ((ownS (memL L) ops : Nat) : Int)) ∧ Below w.heap.size w w' := by
  obtain ⟨a, c, rfl, -⟩ := hm.1.len
  obtain ⟨oa, oc, rfl, hoc⟩ := ho.len
  have HO := Lib.hid ho
  have HM := Lib.hid hm
  have HA0 := Lib.hid (At.new w #[.slice a L.length c] 116)
  have HB0 := Lib.hid ((Below.refl w.heap.size w).alloc (Nat.le_refl _) (.cells #[.slice a L.length c] 116))
  have HIS := Lib.hid (fun (k : Nat) (hk : k ≤ ops.length) h1 h2 => own_is (M := memL L) (ops := ops) (k := k) hk h1 h2)
  have HRD := Lib.hid (fun (k : Nat) (hk : k < ops.length) => read_iff (M := memL L) hk)
  have HWI := Lib.hid (fun (k : Nat) (hk : k ≤ ops.length) (W : World) (hW : Below w.heap.size w W) => refWith_any (.slice a L.length c) (.slice oa k oc) L (ops.take k) W (hm.below hW (Nat.le_refl _)) ((ho.below hW (Nat.le_refl _)).cut k hk) (by rw [List.length_take]; omega))
  have HGE := Lib.hid (fun (k : Nat) (u' : Value) (v : Int) (W : World) (hu : Mm W u' (withL L (ops.take k))) => (show Calls Tryd.prog 88 #[.agg #[u'], .int .i64 v] W fun e w' => e = .returned (.int .i64 (withM (memL L) (ops.take k) v)) ∧ Below W.heap.size W w' by
    have h1 := refGet_any u' (withL L (ops.take k)) v W hu.1 (by have h1 := withL_len (ops.take k) L; have h2 := List.length_take_le' k ops; omega)
    rwa [memL_with] at h1))
  generalize ownS (memL L) ops = R at *
  clear ho hm
  go_enter Tryd.func72, Tryd.ntmps72
  go_wp2_with fail
  go_loopw [9] (fun x wr => ∃ k : Nat, k ≤ ops.length ∧ x = .int .i64 k ∧ Hid (∀ j, j < k → readOk (memL L) ops j) ∧ Hid (At wr w.heap.size #[.slice a L.length c] 116) ∧ Hid (Below w.heap.size w wr)) (fun x _ => ops.length - (intOf x).toNat)
  case atStart => exact ⟨0, by omega, rfl, fun j hj => absurd hj (Nat.not_lt_zero _), HA0, HB0⟩
  case round =>
    clear HA0 HB0
    obtain ⟨k, hk, rfl, HR, HA, HB⟩ := hrel
    by_cases hlt : k < ops.length
    · obtain ⟨b, o, rfl, hbl, c0, c1, c2⟩ := Opv.at (HO.out.below HB.out (Nat.le_refl _)) k hlt
      have HRK := HRD.out k hlt
      have HWI2 := Lib.hid (HWI.out k hk)
      have HGE2 := Lib.hid (HGE.out k)
      generalize hO : ops[k] = O at *
      generalize withL L (ops.take k) = K at *
      generalize withM (memL L) (ops.take k) = MM at *
      obtain ⟨ow, ov, ox⟩ := O
      dsimp only at *
      have HB2 := Lib.hid (HB.out.alloc HB.out.size (.cells #[.bool ow, .int .i64 ov, .int .i64 ox] 107))
      have HA2 := Lib.hid (HA.out.alloc (.cells #[.bool ow, .int .i64 ov, .int .i64 ox] 107))
      have HO2 := Lib.hid (At.new wr #[.bool ow, .int .i64 ov, .int .i64 ox] 107)
      clear hO HA HB
      have k0 : (k : Int) ≤ (oc : Int) := by omega
      cases ow with
      | true =>
        have hrk := HRK.2 (.inl rfl)
        have HR2 : Hid (∀ j, j < k + 1 → readOk (memL L) ops j) := fun j hj => if h : j < k then HR.out j h else by rw [show j = k from by omega]; exact hrk
        clear hrk HRK HR
        go_upto_region 4 with fail
        generalize wr.alloc (.cells #[.bool true, .int .i64 ov, .int .i64 ox] 107) = w2 at *
        generalize wr.heap.size = N2 at *
        have e0 := HO2.out.cell (i := 0) (v := .bool true) rfl
        go_quiet (fail)
        have HB3 : Hid (Below w.heap.size w (w2.drewN nq)) := below_drN HB2.out nq
        have HA3 : Hid (At (w2.drewN nq) w.heap.size #[.slice a L.length c] 116) := HA2.out
        go_wp2
        go_roundw
        case rel => exact ⟨k + 1, by omega, by go_num, HR2.out, HA3.out, HB3.out⟩
        case measure => simp [intOf]; omega
      | false =>
        go_upto_region 4 with fail
        generalize wr.alloc (.cells #[.bool false, .int .i64 ov, .int .i64 ox] 107) = w2 at *
        generalize wr.heap.size = N2 at *
        have hN2 := HO2.out.lt
        have hNw := HA2.out.lt
        have HSC : Hid (∀ W, Below w2.heap.size w2 W → (W.cell? ⟨N2, 0, none⟩ = some (.bool false) ∧ W.cell? ⟨N2, 1, none⟩ = some (.int .i64 ov) ∧ W.cell? ⟨N2, 2, none⟩ = some (.int .i64 ox)) ∧ W.cell? ⟨w.heap.size, 0, none⟩ = some (.slice a L.length c)) := fun W hW =>
          ⟨⟨(HO2.out.below hW hN2).cell (i := 0) rfl, (HO2.out.below hW hN2).cell (i := 1) rfl, (HO2.out.below hW hN2).cell (i := 2) rfl⟩, (HA2.out.below hW hNw).cell (i := 0) rfl⟩
        have HWB : Hid (∀ W, Below w2.heap.size w2 W → Below w.heap.size w W) := fun W hW => HB2.out.trans (hW.mono HB2.out.size)
        have HWA : Hid (∀ W, Below w2.heap.size w2 W → At W w.heap.size #[.slice a L.length c] 116) := fun W hW => HA2.out.below hW hNw
        clear HO2 HA2 HB2 hN2 hNw
        by_cases hox : MM ov = ox
        · have hrk := HRK.2 (.inr hox)
          have HR2 : Hid (∀ j, j < k + 1 → readOk (memL L) ops j) := fun j hj => if h : j < k then HR.out j h else by rw [show j = k from by omega]; exact hrk
          have hne : (MM ov != ox) = false := by simp [hox]
          clear hrk HRK HR
          first
          | go_must (go_region_held_law (fun w' => (w'.cell? ⟨N2, 0, none⟩ = some (.bool false) ∧ w'.cell? ⟨N2, 1, none⟩ = some (.int .i64 ov) ∧ w'.cell? ⟨N2, 2, none⟩ = some (.int .i64 ox)) ∧ w'.cell? ⟨w.heap.size, 0, none⟩ = some (.slice a L.length c))
              (first | exact HSC.out _ hb6 | exact HSC.out _ hb5 | exact HSC.out _ (below_drP _))
              (first
                | (go_at_call 89; refine (HWI2.out _ (HWB.out _ (below_drP _))).mono ?_; rintro e w5 ⟨u5, rfl, hm5, hb⟩; have hb5 := below_stpP hb)
                | (go_at_call 88; refine (HGE2.out u5 ov _ hm5).mono ?_; rintro e w6 ⟨rfl, hb⟩; have hb6 := hb5.trans (hb.mono hb5.size))))
          | fail
          all_goals
            have HB3 : Hid (Below w.heap.size w w6) := HWB.out _ hb6
            have HA3 := Lib.hid (HWA.out _ hb6)
            clear hb5 hb6 hm5
            go_wp2
            go_roundw
            case rel => exact ⟨k + 1, by omega, by go_num, HR2.out, HA3.out, HB3.out⟩
            case measure => simp [intOf]; omega
        · have hres := HIS.out k hk HR.out (fun _ hc => by
            rcases HRK.1 hc with h | h
            · cases h
            · exact hox h)
          have hne : (MM ov != ox) = true := by simp [hox]
          subst hres
          clear HRK HR hox
          first
          | go_must (go_region_held_law (fun w' => (w'.cell? ⟨N2, 0, none⟩ = some (.bool false) ∧ w'.cell? ⟨N2, 1, none⟩ = some (.int .i64 ov) ∧ w'.cell? ⟨N2, 2, none⟩ = some (.int .i64 ox)) ∧ w'.cell? ⟨w.heap.size, 0, none⟩ = some (.slice a L.length c))
              (first | exact HSC.out _ hb6 | exact HSC.out _ hb5 | exact HSC.out _ (below_drP _))
              (first
                | (go_at_call 89; refine (HWI2.out _ (HWB.out _ (below_drP _))).mono ?_; rintro e w5 ⟨u5, rfl, hm5, hb⟩; have hb5 := below_stpP hb)
                | (go_at_call 88; refine (HGE2.out u5 ov _ hm5).mono ?_; rintro e w6 ⟨rfl, hb⟩; have hb6 := hb5.trans (hb.mono hb5.size))))
          | fail
          all_goals
            have HB3 : Hid (Below w.heap.size w w6) := HWB.out _ hb6
            clear hb5 hb6 hm5
            go_wp2
            go_ret
            exact ⟨rfl, HB3.out⟩
    · obtain rfl : k = ops.length := by omega
      have hres := HIS.out ops.length (Nat.le_refl _) HR.out (fun h => absurd h (Nat.lt_irrefl _))
      subst hres
      go_wp2
      go_ret
      exact ⟨rfl, HB.out⟩
end Go.Proofs.YtoemcdcabamgiaaDoor
/- The walks of the reference's Behind and Legal. -/
namespace Go.Proofs.YtoemcdcabamgiaaDoor.WPlain
end Go.Proofs.YtoemcdcabamgiaaDoor.WPlain
namespace Go.Proofs.YtoemcdcabamgiaaDoor.QPlain
end Go.Proofs.YtoemcdcabamgiaaDoor.QPlain
namespace Go.Proofs.YtoemcdcabamgiaaDoor.RPlain
end Go.Proofs.YtoemcdcabamgiaaDoor.RPlain
namespace Go.Proofs.YtoemcdcabamgiaaDoor.RPlain
open WPlain QPlain

def behindL (l : List Tx) (n : Nat) (rn : List Nat) : List Rwo := rn.foldl (fun L i => if n.testBit i = true then withL L (opsAt l i) else L) []
theorem behindL_take {l : List Tx} {n : Nat} {rn : List Nat} {k : Nat} (hk : k < rn.length) : behindL l n (rn.take (k + 1)) = if n.testBit rn[k] = true then withL (behindL l n (rn.take k)) (opsAt l rn[k]) else behindL l n (rn.take k) := by
  unfold behindL
  rw [List.take_succ_eq_append_getElem hk, List.foldl_append]
  rfl
theorem behindL_len {l : List Tx} (hol : ∀ i, (opsAt l i).length ≤ 60) (n : Nat) (rn : List Nat) : (behindL l n rn).length ≤ 60 * rn.length := by
  refine snoc_ind (p := fun rn => (behindL l n rn).length ≤ 60 * rn.length) ?_ ?_ rn
  · exact Nat.le_refl _
  · intro r i ih
    have h1 := withL_len (opsAt l i) (behindL l n r)
    have h2 := hol i
    show ((r ++ [i]).foldl _ []).length ≤ _
    rw [List.foldl_append, List.length_append, List.length_singleton]
    show (if n.testBit i = true then withL (behindL l n r) (opsAt l i) else behindL l n r).length ≤ _
    split <;> omega
theorem memL_behind (l : List Tx) (n : Nat) (rn : List Nat) : memL (behindL l n rn) = behindS l n zeroM rn := by
  refine snoc_ind (p := fun rn => memL (behindL l n rn) = behindS l n zeroM rn) ?_ ?_ rn
  · rfl
  · intro r i ih
    rw [behind_app, ← ih]
    show memL ((r ++ [i]).foldl _ []) = stepM l n _ i
    rw [List.foldl_append]
    show memL (if n.testBit i = true then withL (behindL l n r) (opsAt l i) else behindL l n r) = _
    unfold stepM
    split
    · rw [memL_with]
    · rfl
end Go.Proofs.YtoemcdcabamgiaaDoor.RPlain
namespace Go.Proofs.YtoemcdcabamgiaaDoor
open Go.RowKit WPlain QPlain RPlain

theorem mem_none (w : World) : At ((w.alloc (.cells #[.slice none 0 0] 116)).alloc (.cells #[.slice none 0 0] 116)) w.heap.size #[.slice none 0 0] 116 := (mem_pair w (.slice none 0 0)).1
set_option maxRecDepth 100000 in
set_option maxHeartbeats 2000000 in
theorem refBehind_any (v rv : Value) (l : List Tx) (rn : List Nat) (n : Nat) (w : World) (hv : Txs w v l) (hr : Rd w rv (ints (rn.map (fun x : Nat => (x : Int))))) (hrn : ∀ b ∈ rn, b < l.length) (h6 : l.length ≤ 6) (hol : ∀ i, (opsAt l i).length ≤ 60) (hrl : rn.length ≤ 12) (hn : n < 4294967296) :
    Calls Tryd.prog 73 #[v, rv, .int .u32 (n : Int)] w fun e w' => ∃ u, e = .returned (.agg #[u]) ∧ Mm w' u (behindL l n rn) ∧ Below w.heap.size w w' := by
  obtain ⟨ra, rc, rfl⟩ := hr.len
  have hil : (ints (rn.map (fun x : Nat => (x : Int)))).length = rn.length := by simp [ints]
  rw [hil] at hr ⊢
  clear hil
  have HV := Lib.hid hv
  have HR := Lib.hid hr
  have HLT : Hid (∀ b ∈ rn, b < l.length) := hrn
  have HOL := Lib.hid hol
  have HTK := Lib.hid (fun (k : Nat) (hk : k < rn.length) => behindL_take (l := l) (n := n) hk)
  have HLN := Lib.hid (fun (k : Nat) => Nat.le_trans (behindL_len hol n (rn.take k)) (Nat.mul_le_mul_left 60 (List.length_take_le' k rn)))
  have HFE : Hid (behindL l n rn = behindL l n (rn.take rn.length)) := by unfold Hid; rw [List.take_length]
  obtain ⟨a, c, rfl⟩ := hv.len
  obtain ⟨ha0, hr0, hb0⟩ := mem_pair w (.slice none 0 0)
  have HA0 := Lib.hid ha0
  have HR0 := Lib.hid hr0
  have HB0 := Lib.hid hb0
  clear hv hr hrn hol ha0 hr0 hb0
  go_enter Tryd.func73, Tryd.ntmps73
  go_wp2_with fail
  go_loopw [13] (fun x wr => ∃ k : Nat, k ≤ rn.length ∧ x = .int .i64 k ∧ Hid (∃ a' n' c', At wr (w.heap.size + 1) #[.slice a' n' c'] 116 ∧ Mm wr (.slice a' n' c') (behindL l n (rn.take k))) ∧ Hid (At wr w.heap.size #[.slice none 0 0] 116) ∧ Hid (Below w.heap.size w wr)) (fun x _ => rn.length - (intOf x).toNat)
  case atStart => exact ⟨0, by omega, rfl, ⟨_, _, _, HR0.out, Mm.nil _⟩, HA0, HB0⟩
  case round =>
    clear HA0 HR0 HB0
    obtain ⟨k, hk, rfl, HM, HA, HB⟩ := hrel
    obtain ⟨a1, n1, c1, hA, hM⟩ := HM.out
    have HC := Lib.hid hA
    have HMM := Lib.hid hM
    clear HM hA hM
    by_cases hlt : k < rn.length
    · obtain ⟨b, o, c', he, hbl, hcs⟩ := (HR.out.below HB.out (Nat.le_refl _)).opened (by simp [ints]; omega)
      simp only [Value.slice.injEq] at he
      obtain ⟨rfl, -, rfl⟩ := he
      have hck := hcs k _ (ints_castL rn k hlt)
      have hpl := HLT.out _ (List.getElem_mem hlt)
      have hT := HV.out.below HB.out (Nat.le_refl _)
      obtain ⟨b2, o2, c2, he2⟩ := hT.opened (by omega)
      simp only [Value.slice.injEq] at he2
      obtain ⟨rfl, -, rfl⟩ := he2
      obtain ⟨ov, x0, x1, x2, x3, x4, q⟩ := hT.get rn[k] hpl
      obtain ⟨ua, uc, rfl, -⟩ := q.len
      have hTE := HTK.out k hlt
      have hln := HLN.out k
      have hol := HOL.out rn[k]
      have hbt := fun (W : World) => refBit9_any n rn[k] hn (by omega) W
      rw [opsAtL_get hpl] at hTE hol
      have HQ := Lib.hid q
      clear hcs x0 x1 x2 x3 hT q
      generalize l[rn[k]].o = ops at *
      generalize rn[k] = p at *
      generalize behindL l n (rn.take k) = K at *
      generalize n.testBit p = bb at *
      cases bb with
      | false =>
        have HTE : Hid (behindL l n (rn.take (k + 1)) = K) := by unfold Hid; rw [hTE, if_neg (by decide)]
        clear hTE
        go_wp2_with (go_at_call 69; refine (hbt _).mono ?_; rintro e w3 ⟨rfl, rfl⟩)
        go_roundw
        case rel => exact ⟨k + 1, by omega, by go_num, ⟨_, _, _, HC.out, by rw [HTE.out]; exact HMM.out⟩, HA, HB⟩
        case measure => simp [intOf]; omega
      | true =>
        have HTE : Hid (behindL l n (rn.take (k + 1)) = withL K ops) := by unfold Hid; rw [hTE, if_pos rfl]
        have HWI := Lib.hid (fun (W : World) (h1 : Mm W (.slice a1 n1 c1) K) (h2 : Opv W (.slice ua ops.length uc) ops) => refWith_any _ _ K ops W h1 h2 (by omega))
        have k0 := HC.out.cell (i := 0) (v := .slice a1 n1 c1) rfl
        clear hTE
        go_upto_region 6 with (go_at_call 69; refine (hbt _).mono ?_; rintro e w3 ⟨rfl, rfl⟩)
        go_still_tail 6, (by kernel_rfl)
        change wpList _ _ _ _ _ w3.drew
        have HC4 : Hid (At w3.drew (w.heap.size + 1) #[.slice a1 n1 c1] 116) := HC.out
        have HA4 : Hid (At w3.drew w.heap.size #[.slice none 0 0] 116) := HA.out
        have HB4 : Hid (Below w.heap.size w w3.drew) := HB.out.drew
        have HM4 : Hid (Mm w3.drew (.slice a1 n1 c1) K) := HMM.out.below (below_drP w3) (Nat.le_refl _)
        have HQ4 : Hid (Opv w3.drew (.slice ua ops.length uc) ops) := HQ.out.below (below_drP w3) (Nat.le_refl _)
        clear HC HA HB HMM HQ k0 hck x4 hbl
        generalize w3.drew = w4 at *
        go_wp2_with (go_at_call 89; refine (HWI.out _ HM4.out HQ4.out).mono ?_; rintro e w5 ⟨u5, rfl, hm5, hb5⟩; obtain ⟨a5, c5, rfl, -⟩ := hm5.1.len; have HC5 := Lib.hid (HC4.out.below hb5 HC4.out.lt); have HA5 := Lib.hid (HA4.out.below hb5 HA4.out.lt); have HB5 := Lib.hid (HB4.out.trans (hb5.mono HB4.out.size)); have HM5 := Lib.hid hm5; have k5 := HC5.out.cell (i := 0) (v := .slice a1 n1 c1) rfl; have f5 := HC5.out.free 0; clear hm5 hb5)
        have HC6 := Lib.hid (HC5.out.set 0 (.slice a5 (withL K ops).length c5))
        have HM6 : Hid (Mm (w5.setCell ⟨w.heap.size + 1, 0, none⟩ (.slice a5 (withL K ops).length c5)) (.slice a5 (withL K ops).length c5) (withL K ops)) := ⟨HM5.out.1.set HC5.out _, HM5.out.2⟩
        have HA6 := Lib.hid (HA5.out.other (a := ⟨w.heap.size + 1, 0, none⟩) (by simp) (.slice a5 (withL K ops).length c5))
        have HB6 := Lib.hid (HB5.out.setCell (p := ⟨w.heap.size + 1, 0, none⟩) (by simp) (.slice a5 (withL K ops).length c5))
        clear k5 f5 HC5 HM5 HA5 HB5
        go_roundw
        case rel => exact ⟨k + 1, by omega, by go_num, ⟨_, _, _, HC6.out, by rw [HTE.out]; exact HM6.out⟩, HA6, HB6⟩
        case measure => simp [intOf]; omega
    · obtain rfl : k = rn.length := by omega
      rw [← HFE.out] at HMM
      have HM9 : Hid (Mm (wr.setCell ⟨w.heap.size, 0, none⟩ (.slice a1 n1 c1)) (.slice a1 n1 c1) (behindL l n rn)) := ⟨HMM.out.1.set HA.out _, HMM.out.2⟩
      have HA9 := Lib.hid (HA.out.set 0 (.slice a1 n1 c1))
      have HB9 := Lib.hid (HB.out.setCell (p := ⟨w.heap.size, 0, none⟩) (Nat.le_refl _) (.slice a1 n1 c1))
      have k0 := HC.out.cell (i := 0) (v := .slice a1 n1 c1) rfl
      have z0 := HA.out.cell (i := 0) (v := .slice none 0 0) rfl
      have f0 := HA.out.free 0
      clear HFE HTK HLN
      go_wp2
      generalize wr.setCell ⟨w.heap.size, 0, none⟩ (.slice a1 n1 c1) = w9 at *
      have e0 := HA9.out.cell (i := 0) (v := .slice a1 n1 c1) rfl
      refine bodyPost_ret (v := .agg #[.slice a1 n1 c1]) ?_ rfl ⟨_, rfl, HM9.out, HB9.out⟩
      simp [results, Tryd.results73, go_sem, e0]
set_option maxRecDepth 100000 in
set_option maxHeartbeats 2000000 in
theorem refLegal_any (v rv : Value) (l : List Tx) (rn : List Nat) (n : Nat) (w : World) (hv : Txs w v l) (hr : Rd w rv (ints (rn.map (fun x : Nat => (x : Int))))) (hrc : ∀ a m c, rv = .slice a m c → m ≤ c) (hrn : ∀ b ∈ rn, b < l.length) (h6 : l.length ≤ 6) (hol : ∀ i, (opsAt l i).length ≤ 60) (hrl : rn.length ≤ 12) (hn : n < 4294967296) :
    Calls Tryd.prog 50 #[v, rv, .int .u32 (n : Int)] w fun e w' => e = .returned (.int .i64 ((legalS l n rn : Nat) : Int)) ∧ Below w.heap.size w w' := by
  obtain ⟨ra, rc, rfl⟩ := hr.len
  have hil : (ints (rn.map (fun x : Nat => (x : Int)))).length = rn.length := by simp [ints]
  rw [hil] at hr hrc ⊢
  clear hil
  have hrc2 : rn.length ≤ rc := hrc _ _ _ rfl
  clear hrc
  have HV := Lib.hid hv
  have HR := Lib.hid hr
  have HLT : Hid (∀ b ∈ rn, b < l.length) := hrn
  have HOL := Lib.hid hol
  have HNX := Lib.hid (fun (k : Nat) (hk : k < rn.length) h1 h2 => legal_next (l := l) (c := n) (M := zeroM) hk h1 h2)
  have HNO := Lib.hid (fun (k : Nat) (hk : k < rn.length) h1 h2 => legal_stop (l := l) (c := n) (M := zeroM) hk h1 h2)
  obtain ⟨a, c, rfl⟩ := hv.len
  have HBE : Hid (∀ (k : Nat) (hk : k ≤ rn.length) (W : World), Below w.heap.size w W → Calls Tryd.prog 73 #[.slice a l.length c, .slice ra k rc, .int .u32 (n : Int)] W fun e w' => ∃ u, e = .returned (.agg #[u]) ∧ Mm w' u (behindL l n (rn.take k)) ∧ Below W.heap.size W w') := fun k hk W hW => by
    have hcut : Rd W (.slice ra k rc) (ints ((rn.take k).map (fun x : Nat => (x : Int)))) := by
      have h1 := (hr.below hW (Nat.le_refl _)).cut k hk
      simpa [ints, List.map_take] using h1
    exact refBehind_any _ _ l (rn.take k) n W (hv.below hW (Nat.le_refl _)) hcut (fun b hb => hrn b (List.mem_of_mem_take hb)) h6 hol (Nat.le_trans (List.length_take_le' k rn) hrl) hn
  have HME := Lib.hid (fun (k : Nat) => memL_behind l n (rn.take k))
  have HLN := Lib.hid (fun (k : Nat) => Nat.le_trans (behindL_len hol n (rn.take k)) (Nat.mul_le_mul_left 60 (List.length_take_le' k rn)))
  obtain ⟨res, hres⟩ : ∃ res, legalS l n rn = res := ⟨_, rfl⟩
  rw [hres]
  have HRES : Hid (legalG l n zeroM rn = res) := hres
  clear hres hrn hv hr hol
  go_enter Tryd.func50, Tryd.ntmps50
  go_wp2_with fail
  go_loopw [11] (fun x wr => ∃ k : Nat, k ≤ rn.length ∧ x = .int .i64 k ∧ Hid (legalG l n zeroM (rn.take k) = k) ∧ Hid (Below w.heap.size w wr)) (fun x _ => rn.length - (intOf x).toNat)
  case atStart => exact ⟨0, by omega, rfl, rfl, Below.refl _ _⟩
  case round =>
    obtain ⟨k, hk, rfl, HG, HB⟩ := hrel
    by_cases hlt : k < rn.length
    · obtain ⟨b, o, c', he, hbl, hcs⟩ := (HR.out.below HB.out (Nat.le_refl _)).opened (by simp [ints]; omega)
      simp only [Value.slice.injEq] at he
      obtain ⟨rfl, -, rfl⟩ := he
      have hck := hcs k _ (ints_castL rn k hlt)
      have hpl := HLT.out _ (List.getElem_mem hlt)
      have hT := HV.out.below HB.out (Nat.le_refl _)
      obtain ⟨b2, o2, c2, he2⟩ := hT.opened (by omega)
      simp only [Value.slice.injEq] at he2
      obtain ⟨rfl, -, rfl⟩ := he2
      obtain ⟨ov, x0, x1, x2, x3, x4, q⟩ := hT.get rn[k] hpl
      obtain ⟨ua, uc, rfl, -⟩ := q.len
      have hln := HLN.out k
      have hol := HOL.out rn[k]
      have HNX2 := Lib.hid (HNX.out k hlt HG.out)
      have HNO2 := Lib.hid (HNO.out k hlt HG.out)
      have hle := own_le l[rn[k]].o (behindS l n zeroM (rn.take k))
      rw [opsAtL_get hpl] at hol HNX2 HNO2
      have hme := HME.out k
      have HBE2 := Lib.hid (HBE.out k hk)
      have HOW := Lib.hid (fun (u : Value) (W : World) (h1 : Opv W (.slice ua l[rn[k]].o.length uc) l[rn[k]].o) (h2 : Mm W u (behindL l n (rn.take k))) => (show Calls Tryd.prog 72 #[.slice ua l[rn[k]].o.length uc, .agg #[u]] W fun e w' => e = .returned (.int .i64 ((ownS (behindS l n zeroM (rn.take k)) l[rn[k]].o : Nat) : Int)) ∧ Below W.heap.size W w' by
        have h3 := refOwn_any _ u l[rn[k]].o (behindL l n (rn.take k)) W h1 h2 (by omega)
        rwa [hme] at h3))
      have HQ := Lib.hid q
      have hx4 := cell_lt x4
      clear hcs x0 x1 x2 x3 hT q hme
      generalize l[rn[k]].o = ops at *
      generalize rn[k] = p at *
      generalize behindL l n (rn.take k) = K at *
      generalize behindS l n zeroM (rn.take k) = MM at *
      generalize ownS MM ops = ow at *
      have HSC : Hid (∀ W, Below wr.heap.size wr W → W.cell? ⟨b2, o2 + p * 5 + 4, none⟩ = some (.slice ua ops.length uc)) := fun W hW => (hW.cell (p := ⟨b2, o2 + p * 5 + 4, none⟩) hx4).trans x4
      have HSO : Hid (∀ W, Below wr.heap.size wr W → Opv W (.slice ua ops.length uc) ops) := fun W hW => HQ.out.below hW (Nat.le_refl _)
      have HWB : Hid (∀ W, Below wr.heap.size wr W → Below w.heap.size w W) := fun W hW => HB.out.trans (hW.mono HB.out.size)
      have hkr : (k : Int) ≤ (rc : Int) := by omega
      clear HQ hx4 HB
      go_upto_region 4 with fail
      clear x4 hck hbl
      by_cases how : ow = ops.length
      · have HG2 := Lib.hid (HNX2.out how)
        subst how
        clear HNX2 HNO2 hle
        first
        | go_must (go_region_held_law (fun w' => w'.cell? ⟨b2, o2 + p * 5 + 4, none⟩ = some (.slice ua ops.length uc))
            (first | exact HSC.out _ hb6 | exact HSC.out _ hb5 | exact HSC.out _ (below_drP _))
            (first
              | (go_at_call 73; refine (HBE2.out _ (HWB.out _ (below_drP _))).mono ?_; rintro e w5 ⟨u5, rfl, hm5, hb⟩; have hb5 := below_stpP hb)
              | (go_at_call 72; refine (HOW.out u5 _ (HSO.out _ hb5) hm5).mono ?_; rintro e w6 ⟨rfl, hb⟩; have hb6 := hb5.trans (hb.mono hb5.size))))
        | fail
        all_goals
          have HB3 := Lib.hid (HWB.out _ hb6)
          clear hb5 hb6 hm5
          go_wp2
          go_roundw
          case rel => exact ⟨k + 1, by omega, by go_num, HG2, HB3⟩
          case measure => simp [intOf]; omega
      · have hres := HNO2.out how
        rw [HRES.out] at hres
        subst hres
        have how2 : ow < ops.length := by omega
        clear HNX2 HNO2 hle how
        first
        | go_must (go_region_held_law (fun w' => w'.cell? ⟨b2, o2 + p * 5 + 4, none⟩ = some (.slice ua ops.length uc))
            (first | exact HSC.out _ hb6 | exact HSC.out _ hb5 | exact HSC.out _ (below_drP _))
            (first
              | (go_at_call 73; refine (HBE2.out _ (HWB.out _ (below_drP _))).mono ?_; rintro e w5 ⟨u5, rfl, hm5, hb⟩; have hb5 := below_stpP hb)
              | (go_at_call 72; refine (HOW.out u5 _ (HSO.out _ hb5) hm5).mono ?_; rintro e w6 ⟨rfl, hb⟩; have hb6 := hb5.trans (hb.mono hb5.size))))
        | fail
        all_goals
          have HB3 := Lib.hid (HWB.out _ hb6)
          clear hb5 hb6 hm5
          go_wp2
          go_ret
          exact ⟨rfl, HB3.out⟩
    · obtain rfl : k = rn.length := by omega
      have hres : rn.length = res := by have := HG.out; rw [List.take_length, HRES.out] at this; exact this.symm
      subst hres
      go_wp2
      go_ret
      exact ⟨rfl, HB.out⟩
end Go.Proofs.YtoemcdcabamgiaaDoor
