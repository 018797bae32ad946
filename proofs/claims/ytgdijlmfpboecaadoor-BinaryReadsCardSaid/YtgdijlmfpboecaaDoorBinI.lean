/- The walk of alive, a read of package binary. -/
import Derived.Test.YtgdijlmfpboecaaDoorBinH
import Derived.Test.YtgdijlmfpboecaaDoorTxtI
namespace Go.Proofs.YtgdijlmfpboecaaDoor.WPlain
end Go.Proofs.YtgdijlmfpboecaaDoor.WPlain
namespace Go.Proofs.YtgdijlmfpboecaaDoor.VPlain
end Go.Proofs.YtgdijlmfpboecaaDoor.VPlain
namespace Go.Proofs.YtgdijlmfpboecaaDoor
open Go.RowKit WPlain VPlain BPlain

set_option maxRecDepth 100000 in
set_option maxHeartbeats 1000000 in
theorem alive_any (w : World) (hK : HasK w) : Calls Tryd.prog 6 #[] w fun e w' => e = .returned (.bool true) ∧ Below w.heap.size w w' := by
  have hp : parseB [1, 4, 2, 172, 2, 2] = ([⟨2, 300, 2, 0⟩], 0, 0) := by decide +kernel
  have hb0 := (Below.refl w.heap.size w).alloc (Nat.le_refl _) (.cells #[.int .u8 1, .int .u8 4, .int .u8 2, .int .u8 172, .int .u8 2, .int .u8 2] 5)
  have hA := At.new w #[.int .u8 1, .int .u8 4, .int .u8 2, .int .u8 172, .int .u8 2, .int .u8 2] 5
  have hP := parseB_any (some ⟨w.heap.size, 0, none⟩) 6 [1, 4, 2, 172, 2, 2] (w.alloc (.cells #[.int .u8 1, .int .u8 4, .int .u8 2, .int .u8 172, .int .u8 2, .int .u8 2] 5))
    (.inr ⟨by simp [bs], w.heap.size, 0, 6, rfl, fun i u hu => by rw [Nat.zero_add]; exact hA.cell (by simpa [bs] using hu)⟩) (by decide) (by decide) (by decide) (by decide) (fun h => by cases h) (hK.later hb0 (Nat.le_refl _))
  rw [hp] at hP
  have HP := Lib.hid hP
  have HB0 := Lib.hid hb0
  clear hP hA hb0 hp hK
  have heq : ∀ w, (binOp .eql 44 (.agg #[.int .i64 2, .int .i64 300, .int .i64 2, .int .i64 0]) (.agg #[.int .i64 2, .int .i64 300, .int .i64 2, .int .i64 0])).run Tryd.prog w = .ok (.bool true) w := fun w => run_eql_ev ⟨2, 300, 2, 0⟩ ⟨2, 300, 2, 0⟩ w
  have hgd := fun op p q w => run_guard_ev op p q #[.int .i64 2, .int .i64 300, .int .i64 2, .int .i64 0] #[.int .i64 2, .int .i64 300, .int .i64 2, .int .i64 0] w
  go_enter Tryd.func6, Tryd.ntmps6
  go_wp2_with fail
  generalize w.alloc (.cells #[.int .u8 1, .int .u8 4, .int .u8 2, .int .u8 172, .int .u8 2, .int .u8 2] 5) = w1 at *
  refine HP.out.mono ?_
  rintro e w2 ⟨v, rfl, hv, _, _, hb⟩
  have HB := Lib.hid (HB0.out.trans (hb.mono HB0.out.size))
  clear hb
  rcases hv with ⟨e0, _⟩ | ⟨_, b, o, c, rfl, hlt, hc⟩
  · simp at e0
  · obtain ⟨c0, c1, c2, c3⟩ := hc 0 (by simp)
    clear hc
    simp only [List.getElem_cons_zero, List.length_cons, List.length_nil, Nat.zero_mul, Nat.add_zero, Nat.zero_add] at c0 c1 c2 c3 ⊢
    go_wp2
    go_ret
    exact ⟨rfl, HB.out⟩
end Go.Proofs.YtgdijlmfpboecaaDoor
