/- The walk of alive. -/
import Derived.Test.YtkclbgpkmkdhjaaVarG
import Derived.Test.YtkclbgpkmkdhjaaVarZ
namespace Go.Proofs.Ytkclbgpkmkdhjaa
open Go.RowKit VPlain

theorem alive_any (w : World) :
    Calls Try.prog 7 #[] w fun e w' => e = .returned (.bool true) ∧ Below w.heap.size w w' := by
  have hb := (Below.refl w.heap.size w).alloc (Nat.le_refl _) (.cells #[.int .u8 9, .int .u8 172, .int .u8 2] 5)
  have hA := At.new w #[.int .u8 9, .int .u8 172, .int .u8 2] 5
  have hv : ∀ j u, (bs [9, 172, 2])[j]? = some u → (w.alloc (.cells #[.int .u8 9, .int .u8 172, .int .u8 2] 5)).cell? ⟨w.heap.size, 0 + j, none⟩ = some u := by
    intro j u hu
    rw [Nat.zero_add]
    exact hA.cell (by simpa [bs] using hu)
  have hg : Calls Try.prog 15 #[.slice (some ⟨w.heap.size, 0, none⟩) 3 3, .int .i64 1] (w.alloc (.cells #[.int .u8 9, .int .u8 172, .int .u8 2] 5)) fun en w' => en = .returned (.tuple #[.int .u64 300, .int .i64 3, .int .i64 0]) ∧ (w.alloc (.cells #[.int .u8 9, .int .u8 172, .int .u8 2] 5)) = w' :=
    get_in w.heap.size 0 3 [9, 172, 2] 1 (by simp) (by simp) (by simp) (by simp) _ hv 300 2 0 (by decide)
  have hz : Calls Try.prog 11 #[.int .i64 (-1)] (w.alloc (.cells #[.int .u8 9, .int .u8 172, .int .u8 2] 5)) fun en w' => en = .returned (.int .u64 1) ∧ (w.alloc (.cells #[.int .u8 9, .int .u8 172, .int .u8 2] 5)) = w' :=
    zig_any (-1) (by omega) (by omega) _
  clear hv hA
  have HG := Lib.hid hg
  have HZ := Lib.hid hz
  clear hg hz
  go_enter Try.func7, Try.ntmps7
  go_wp2_with fail
  refine HG.out.mono ?_
  rintro e w1 ⟨rfl, rfl⟩
  go_wp2_with fail
  refine HZ.out.mono ?_
  rintro e w1 ⟨rfl, rfl⟩
  go_wp2
  go_ret
  exact ⟨rfl, hb⟩
end Go.Proofs.Ytkclbgpkmkdhjaa
