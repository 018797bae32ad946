/- The walks of package unique's sourceOf and addWrites. -/
import Derived.Test.YtkliahdgciajjaaDoorUnqC
import Derived.Test.YtkliahdgciajjaaDoorMg12
import Derived.BigQuiet
namespace Go.Proofs.YtkliahdgciajjaaDoor.WPlain
end Go.Proofs.YtkliahdgciajjaaDoor.WPlain
namespace Go.Proofs.YtkliahdgciajjaaDoor.QPlain
end Go.Proofs.YtkliahdgciajjaaDoor.QPlain
namespace Go.Proofs.YtkliahdgciajjaaDoor.RPlain
end Go.Proofs.YtkliahdgciajjaaDoor.RPlain
namespace Go.Proofs.YtkliahdgciajjaaDoor
open Go.RowKit WPlain QPlain RPlain

set_option maxRecDepth 100000 in
theorem sourceOf_any (t : Nat) (o : Rwo) (M k : Nat) (S : Wrt) (w : World) (hm : WMap w M k S) (hv : (Lit.int .i64 o.v).wf = true) (hx : (Lit.int .i64 o.x).wf = true) :
    Calls Tryd.prog 25 #[.int .i64 (t : Int), .agg #[.bool o.w, .int .i64 o.v, .int .i64 o.x], .map (some M)] w fun e w' => e = .returned (.int .i64 (readW S t o)) ∧ Below w.heap.size w w' := by
  have hb0 : Below w.heap.size w (w.alloc (.cells #[.bool o.w, .int .i64 o.v, .int .i64 o.x] 46)) := (Below.refl _ w).alloc (Nat.le_refl _) _
  have q1 := (hm.below hb0).look hv hx
  unfold readW
  clear hm hv hx
  by_cases h0 : o.x = 0
  · have t0 : ((o.x : Int) == 0) = true := by simp [h0]
    rw [if_pos h0]
    clear q1 h0
    go_enter Tryd.func25, Tryd.ntmps25
    go_wp2
    go_ret
    exact ⟨rfl, hb0⟩
  · have t0 : ((o.x : Int) == 0) = false := by simp [h0]
    rw [if_neg h0]
    cases hs : S o.v o.x with
    | none =>
      rw [hs] at q1
      unfold lookV at q1
      clear hs h0
      go_enter Tryd.func25, Tryd.ntmps25
      go_wp2
      go_ret
      exact ⟨rfl, hb0⟩
    | some y =>
      rw [hs] at q1
      unfold lookV at q1
      dsimp only
      clear hs h0
      by_cases he : y = t
      · subst he
        rw [if_pos rfl]
        have te : ((y : Int) == (y : Int)) = true := by simp
        go_enter Tryd.func25, Tryd.ntmps25
        go_wp2
        go_ret
        exact ⟨rfl, hb0⟩
      · rw [if_neg he]
        have te : ((y : Int) == (t : Int)) = false := by simp; omega
        go_enter Tryd.func25, Tryd.ntmps25
        go_wp2
        go_ret
        exact ⟨rfl, hb0⟩
theorem addsW_drop {t : Nat} {ops : List Rwo} {k : Nat} (hk : k < ops.length) (S : Wrt) : addsW t (ops.drop k) S = if ops[k].w = true then (if badW t S ops[k] = true then none else addsW t (ops.drop (k + 1)) (putW t S ops[k])) else addsW t (ops.drop (k + 1)) S := by
  rw [List.drop_eq_getElem_cons hk]
  rfl
set_option maxRecDepth 100000 in
set_option maxHeartbeats 4000000 in
theorem addWrites_any (t M k0 : Nat) (v : Value) (ops : List Rwo) (S : Wrt) (w : World) (hm : WMap w M k0 S) (ho : Opv w v ops) (hok : ∀ o ∈ ops, (Lit.int .i64 o.v).wf = true ∧ (Lit.int .i64 o.x).wf = true) (hk : k0 + ops.length ≤ 60000) :
    Calls Tryd.prog 24 #[.map (some M), .int .i64 (t : Int), v] w fun e w' => e = .returned (.bool (addsW t ops S).isSome) ∧ Only (fun b => b = M) w w' ∧ (∀ S', addsW t ops S = some S' → WMap w' M (k0 + ops.length) S') := by
  obtain ⟨oa, oc, rfl, hoc⟩ := ho.len
  have HO := Lib.hid ho
  have HM0 := Lib.hid hm
  have HOK := Lib.hid hok
  have HD := Lib.hid (fun (k : Nat) (hk : k < ops.length) (S : Wrt) => addsW_drop (t := t) hk S)
  have HR0 : Hid (addsW t (ops.drop 0) S = addsW t ops S) := rfl
  obtain ⟨R, hR⟩ : ∃ R, addsW t ops S = R := ⟨_, rfl⟩
  rw [hR] at HR0 ⊢
  have HE0 := Lib.hid (Only.refl (fun b => b = M) w)
  clear ho hm hok hR
  go_enter Tryd.func24, Tryd.ntmps24
  go_wp2_with fail
  go_loopw [14] (fun x wr => ∃ k : Nat, k ≤ ops.length ∧ x = .int .i64 k ∧ (∃ S', Hid (WMap wr M (k0 + k) S') ∧ Hid (addsW t (ops.drop k) S' = R)) ∧ Hid (Only (fun b => b = M) w wr)) (fun x _ => ops.length - (intOf x).toNat)
  case atStart => exact ⟨0, by omega, rfl, ⟨S, HM0, HR0⟩, HE0⟩
  case round =>
    obtain ⟨k, hkl, rfl, ⟨S', HM, HR⟩, HE⟩ := hrel
    by_cases hlt : k < ops.length
    · obtain ⟨b, o, rfl, hbl, c0, c1, c2⟩ := Opv.at (Opv.turned HM0.out HE.out HO.out) k hlt
      have hwf := HOK.out _ (List.getElem_mem hlt)
      have hdr := HD.out k hlt S'
      rw [HR.out] at hdr
      clear HM0 HR0 HE0 HR
      generalize ops[k] = O at *
      obtain ⟨ow, ov, ox⟩ := O
      dsimp only at *
      have HWF := Lib.hid hwf
      have hba : Below wr.heap.size wr (wr.alloc (.cells #[.bool ow, .int .i64 ov, .int .i64 ox] 46)) := (Below.refl _ wr).alloc (Nat.le_refl _) _
      have HE1 := Lib.hid (HE.out.alloc (.cells #[.bool ow, .int .i64 ov, .int .i64 ox] 46))
      have HM1 := Lib.hid (HM.out.below hba)
      cases ow with
      | false =>
        rw [if_neg (by simp)] at hdr
        have HD1 := Lib.hid hdr.symm
        have HMM := Lib.hid (HM1.out.mono (show k0 + k ≤ k0 + (k + 1) by omega))
        clear hdr HM HE hba hwf
        go_wp2
        go_roundw
        case rel => exact ⟨k + 1, by omega, by go_num, ⟨S', HMM, HD1⟩, HE1⟩
        case measure => simp [intOf]; omega
      | true =>
        rw [if_pos rfl] at hdr
        have hbb : Below (wr.alloc (.cells #[.bool true, .int .i64 ov, .int .i64 ox] 46)).heap.size (wr.alloc (.cells #[.bool true, .int .i64 ov, .int .i64 ox] 46)) ((wr.alloc (.cells #[.bool true, .int .i64 ov, .int .i64 ox] 46)).alloc (.cells #[.int .i64 ov, .int .i64 ox] 72)) := (Below.refl _ _).alloc (Nat.le_refl _) _
        have HM2 := Lib.hid (HM1.out.below hbb)
        have HE2 := Lib.hid (HE1.out.alloc (.cells #[.int .i64 ov, .int .i64 ox] 72))
        have q1 := HM2.out.look hwf.1 hwf.2
        obtain ⟨w3, q2, hm3, hg3⟩ := HM2.out.set t (o := ⟨true, ov, ox⟩) hwf.1 hwf.2 (by omega)
        dsimp only at q2
        have HM3 := Lib.hid hm3
        have HE3 := Lib.hid (HE2.out.grown hg3 (fun _ _ he => (Option.some.inj he).symm))
        clear hba hbb HM HE HM1 HE1 hm3 hg3 hwf
        by_cases h0 : ox = 0
        · have t0 : ((ox : Int) == 0) = true := by simp [h0]
          have hb : badW t S' ⟨true, ov, ox⟩ = true := by unfold badW; simp [h0]
          rw [hb, if_pos rfl] at hdr
          clear q2 HM3 HE3 hb
          have hlk : ∃ y b, lookV (S' ov ox) = .tuple #[.int .i64 y, .bool b] := by
            cases S' ov ox with
            | none => exact ⟨_, _, rfl⟩
            | some y => exact ⟨_, _, rfl⟩
          obtain ⟨y, bb, hlk⟩ := hlk
          rw [hlk] at q1
          subst hdr
          clear h0
          go_wp2
          go_ret
          exact ⟨rfl, HE2.out, fun S' h => by cases h⟩
        · have t0 : ((ox : Int) == 0) = false := by simp [h0]
          cases hs : S' ov ox with
          | none =>
            have hb : badW t S' ⟨true, ov, ox⟩ = false := by unfold badW; simp [h0, hs, elseW]
            rw [hb, if_neg (by simp)] at hdr
            have HD1 := Lib.hid hdr.symm
            rw [hs] at q1
            unfold lookV at q1
            clear h0 hs hb hdr
            go_wp2
            go_roundw
            case rel => exact ⟨k + 1, by omega, by go_num, ⟨_, HM3, HD1⟩, HE3⟩
            case measure => simp [intOf]; omega
          | some y =>
            rw [hs] at q1
            unfold lookV at q1
            by_cases he : y = t
            · have hb : badW t S' ⟨true, ov, ox⟩ = false := by unfold badW; simp [h0, hs, elseW, he]
              rw [hb, if_neg (by simp)] at hdr
              have HD1 := Lib.hid hdr.symm
              have te : ((y : Int) != (t : Int)) = false := by simp [he]
              clear h0 hs hb hdr he
              go_wp2
              go_roundw
              case rel => exact ⟨k + 1, by omega, by go_num, ⟨_, HM3, HD1⟩, HE3⟩
              case measure => simp [intOf]; omega
            · have hb : badW t S' ⟨true, ov, ox⟩ = true := by unfold badW; simp [hs, elseW, he]
              rw [hb, if_pos rfl] at hdr
              subst hdr
              have te : ((y : Int) != (t : Int)) = true := by simp; omega
              clear h0 hs hb he q2
              go_wp2
              go_ret
              first | exact ⟨rfl, HE2.out, fun S' h => by cases h⟩ | exact ⟨rfl, HE2.out⟩
    · obtain rfl : k = ops.length := by omega
      have hr : R = some S' := by
        have h1 := HR.out
        rw [List.drop_length] at h1
        exact h1.symm
      subst hr
      go_wp2
      go_ret
      exact ⟨rfl, HE.out, fun S2 h => Option.some.inj h ▸ HM.out⟩
end Go.Proofs.YtkliahdgciajjaaDoor
