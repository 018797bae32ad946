/- Merged: OrdG, OrdI. -/
import Derived.Test.YtnddiaonceeicaaDoorOrdE
import Derived.BigQuiet
/- The walks of package order's Before and Keeps. -/
namespace Go.Proofs.YtnddiaonceeicaaDoor.WPlain
end Go.Proofs.YtnddiaonceeicaaDoor.WPlain
namespace Go.Proofs.YtnddiaonceeicaaDoor.QPlain
end Go.Proofs.YtnddiaonceeicaaDoor.QPlain
namespace Go.Proofs.YtnddiaonceeicaaDoor.RPlain
end Go.Proofs.YtnddiaonceeicaaDoor.RPlain
namespace Go.Proofs.YtnddiaonceeicaaDoor.RPlain
open WPlain QPlain

theorem pow_32 {n x : Nat} (hn : n ≤ 6) (hx : x < 2 ^ n) : x < 4294967296 :=
  Nat.lt_of_lt_of_le hx (Nat.pow_le_pow_right (n := 2) (i := n) (j := 32) (by decide) (by omega))
theorem two_32 {n k : Nat} (hn : n ≤ 6) (hk : k < n) : 2 ^ k < 4294967296 := Nat.pow_lt_pow_right (a := 2) (m := k) (n := 32) (by decide) (by omega)
end Go.Proofs.YtnddiaonceeicaaDoor.RPlain
namespace Go.Proofs.YtnddiaonceeicaaDoor
open Go.RowKit WPlain QPlain RPlain

end Go.Proofs.YtnddiaonceeicaaDoor
/- The walks of the reference's After, There, Keeps, Of and Same. -/
namespace Go.Proofs.YtnddiaonceeicaaDoor.WPlain
end Go.Proofs.YtnddiaonceeicaaDoor.WPlain
namespace Go.Proofs.YtnddiaonceeicaaDoor.QPlain
end Go.Proofs.YtnddiaonceeicaaDoor.QPlain
namespace Go.Proofs.YtnddiaonceeicaaDoor.RPlain
end Go.Proofs.YtnddiaonceeicaaDoor.RPlain
namespace Go.Proofs.YtnddiaonceeicaaDoor
open Go.RowKit WPlain QPlain RPlain

set_option maxRecDepth 100000 in
set_option maxHeartbeats 1000000 in
theorem refSameU_any (v v' : Value) (L L' : List Nat) (w : World) (hv : Rd w v (u32s L)) (hv' : Rd w v' (u32s L')) (he : L = L') (hl : L.length ≤ 65536) :
    Calls Tryd.prog 11 #[v, v'] w fun e w' => e = .returned (.bool true) ∧ ∃ z, w' = w.drewN z := by
  subst he
  have hul : (u32s L).length = L.length := by simp [u32s]
  have HV := Lib.hid hv
  have HV' := Lib.hid hv'
  obtain ⟨a, c, rfl⟩ := hv.len
  obtain ⟨a', c', rfl⟩ := hv'.len
  rw [hul] at HV HV' ⊢
  clear hv hv' 
  go_enter Tryd.func11, Tryd.ntmps11
  go_wp2_with fail
  go_loopw [13] (fun x wr => ∃ k : Nat, k ≤ L.length ∧ x = .int .i64 k ∧ ∃ z, wr = w.drewN z) (fun x _ => L.length - (intOf x).toNat)
  case atStart => exact ⟨0, by omega, rfl, 0, rfl⟩
  case round =>
    obtain ⟨k, hk, rfl, z, rfl⟩ := hrel
    by_cases hlt : k < L.length
    · have hget : (u32s L)[k]? = some (.int .u32 (L[k] : Nat)) := by unfold u32s; rw [List.getElem?_map, List.getElem?_eq_getElem hlt]; rfl
      obtain ⟨b, o, c1, he, hbl, hcs⟩ := HV.out.opened (by omega)
      simp only [Value.slice.injEq] at he
      obtain ⟨rfl, -, rfl⟩ := he
      obtain ⟨b2, o2, c2, he2, hbl2, hcs2⟩ := HV'.out.opened (by omega)
      simp only [Value.slice.injEq] at he2
      obtain ⟨rfl, -, rfl⟩ := he2
      have e1 : (w.drewN z).cell? ⟨b, o + k, none⟩ = some (.int .u32 (L[k] : Nat)) := hcs k _ hget
      have e2 : (w.drewN z).cell? ⟨b2, o2 + k, none⟩ = some (.int .u32 (L[k] : Nat)) := hcs2 k _ hget
      clear hcs hcs2 hget
      generalize L[k] = y at *
      obtain ⟨wz, hwz⟩ : ∃ wz, w.drewN z = wz := ⟨_, rfl⟩
      rw [hwz] at e1 e2 ⊢
      have HWZ := Lib.hid hwz
      clear hwz
      go_wp2_with fail
      go_quiet (fail)
      go_wp2
      go_roundw
      case rel => exact ⟨k + 1, by omega, by go_num, _, by rw [← HWZ.out]; exact World.drewN_drewN _ _ _⟩
      case measure => simp [intOf]; omega
    · obtain rfl : k = L.length := by omega
      go_wp2
      go_ret
      exact ⟨rfl, _, rfl⟩
end Go.Proofs.YtnddiaonceeicaaDoor
