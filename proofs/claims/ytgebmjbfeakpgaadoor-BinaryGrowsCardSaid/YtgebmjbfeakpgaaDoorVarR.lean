/- The walks of the reference's Put and Same. -/
import Derived.Test.YtgebmjbfeakpgaaDoorRows
import Derived.Test.YtgebmjbfeakpgaaDoorVarA
import Derived.Test.YtgebmjbfeakpgaaDoorOpenBy
import Derived.Test.YtgebmjbfeakpgaaDoorKit
import Derived.RegionTactic
namespace Go.Proofs.YtgebmjbfeakpgaaDoor.VPlain
end Go.Proofs.YtgebmjbfeakpgaaDoor.VPlain
namespace Go.Proofs.YtgebmjbfeakpgaaDoor
open Go.RowKit VPlain

theorem infoU8 : (Tryd.prog.info? 5).map (fun i => (i.zero, i.size, i.bytes)) = some (some (.int .u8 0), 1, 1) := by kernel_rfl

set_option maxHeartbeats 1000000 in
theorem refPut_any (x : Nat) (hx : x < 18446744073709551616) (w : World) :
    Calls Tryd.prog 30 #[.int .u64 (x : Int)] w fun e w' => ∃ v, e = .returned v ∧ w'.ownsRow w.heap.size 5 1 v (nb x).length (bs (nb x)) ∧ Below w.heap.size w w' := by
  obtain ⟨j0, hj0, hy0, hy1', hy2'⟩ := info_parts infoU8
  have hb0 := (Below.refl w.heap.size w).alloc (Nat.le_refl _) (.cells #[] 5)
  have hrow := World.ownsRow_made (size := 1) (e := 5) (base := w.heap.size) w #[] 0 (Nat.le_refl _) (by unfold maxLen; omega) rfl
  have h10 := nb_len10 hx
  go_enter Tryd.func30, Tryd.ntmps30
  go_wp2_with fail
  go_loopw [0, 3] (fun p y wr => ∃ (pre : List Nat) (r : Nat), p = .int .u64 (r : Int) ∧ r < 18446744073709551616 ∧ Hid (nb x = pre ++ nb r) ∧ wr.ownsRow w.heap.size 5 1 y pre.length (bs pre) ∧ Below w.heap.size w wr) (fun p _ _ => (intOf p).toNat)
  case atStart => exact ⟨[], x, rfl, hx, rfl, hrow, hb0⟩
  case round =>
    clear hb0 hrow
    obtain ⟨pre, r, rfl, hr, HN, hy, hb⟩ := hrel
    have hpl : pre.length < 10 := by
      have h2 := congrArg List.length HN.out
      rw [List.length_append] at h2
      have := nb_pos r
      omega
    by_cases hm : 128 ≤ r
    · have e1 : (128 : Int) ≤ (r : Int) := by omega
      have e2 : ((r : Int) % 128 + 128) % 256 = (r : Int) % 128 + 128 := by omega
      have e3 : (r : Int) % 128 % 256 = (r : Int) % 128 := by omega
      have HN2 : Hid (nb x = (pre ++ [r % 128 + 128]) ++ nb (r / 128)) := by unfold Hid; rw [HN.out, nb_big hm]; simp
      have ec : ((r % 128 + 128 : Nat) : Int) = (r : Int) % 128 + 128 := by omega
      go_wp2_with (at_builtin; refine wpList_append_own _ rfl _ _ 22 rfl w.heap.size 5 j0 (.int .u8 0) 1 1 Tryd.underlying22 hj0 hy0 hy1' hy2' rfl (by decide) _ _ _ rfl (hy.alloc _) ⟨wr.heap.size, 0, none⟩ 1 1 [.int .u8 ((r : Int) % 128 + 128)] rfl rfl ?d1 ?d2 ?d3 ?d4 ?d5 ?_)
      case d1 => exact cell_one_at _ _ _
      case d2 => intro u hu; simp at hu; subst hu; rfl
      case d3 => unfold maxLen; omega
      case d4 => omega
      case d5 => have := hb.size; simp; omega
      intro v2 w3 hy3 hg3 _
      have hb3 : Below w.heap.size w w3 := (hb.alloc hb.size _).grown hg3 (by have := hb.size; simp; omega) (fun k' hk' => (hy.lt k' hk').1)
      have HY : Hid (w3.ownsRow w.heap.size 5 1 v2 (pre ++ [r % 128 + 128]).length (bs (pre ++ [r % 128 + 128]))) := by
        unfold Hid
        rw [List.length_append]
        unfold bs at *
        rw [List.map_append, List.map_singleton, ec]
        exact hy3
      clear hy hy3 hg3 hb
      go_wp2
      go_roundw
      case rel => exact ⟨pre ++ [r % 128 + 128], r / 128, by go_num, by omega, HN2, HY.out, hb3⟩
      case measure => simp [intOf]; omega
    · have e1 : ¬ (128 : Int) ≤ (r : Int) := by omega
      have e2 : (r : Int) % 256 = (r : Int) := by omega
      have hN3 : nb x = pre ++ [r] := by rw [HN.out, nb_small (by omega)]
      go_wp2_with (at_builtin; refine wpList_append_own _ rfl _ _ 22 rfl w.heap.size 5 j0 (.int .u8 0) 1 1 Tryd.underlying22 hj0 hy0 hy1' hy2' rfl (by decide) _ _ _ rfl (hy.alloc _) ⟨wr.heap.size, 0, none⟩ 1 1 [.int .u8 (r : Int)] rfl rfl (cell_one_at _ _ _) (one_int _ _) ?d3 ?d4 ?d5 ?_)
      case d3 => unfold maxLen; omega
      case d4 => omega
      case d5 => have := hb.size; simp; omega
      intro v2 w3 hy3 hg3 _
      have hb3 : Below w.heap.size w w3 := (hb.alloc hb.size _).grown hg3 (by have := hb.size; simp; omega) (fun k' hk' => (hy.lt k' hk').1)
      have HY : Hid (w3.ownsRow w.heap.size 5 1 v2 (nb x).length (bs (nb x))) := by
        unfold Hid
        rw [hN3, List.length_append]
        unfold bs at *
        rw [List.map_append, List.map_singleton]
        exact hy3
      obtain ⟨ya, yc, rfl⟩ := row_slice hy3
      clear hy hy3 hg3 hb hN3
      go_wp2
      go_ret
      exact ⟨_, rfl, HY.out, hb3⟩
end Go.Proofs.YtgebmjbfeakpgaaDoor
