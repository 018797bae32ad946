/- The walks of package varint's fault and Get. -/
import Derived.Test.YtgdijlmfpboecaaDoorRows
import Derived.Test.YtgdijlmfpboecaaDoorVarA
import Derived.Test.YtgdijlmfpboecaaDoorOpenBy
import Derived.Test.YtgdijlmfpboecaaDoorKit
import Derived.RegionTactic
import Derived.Laws.BitsAllLaws
namespace Go.Proofs.YtgdijlmfpboecaaDoor.VPlain
end Go.Proofs.YtgdijlmfpboecaaDoor.VPlain
namespace Go.Proofs.YtgdijlmfpboecaaDoor
open Go.RowKit VPlain

/-- what is wrong with a byte at its place -/
def flt (c k : Nat) : Nat := if k = 9 ∧ 1 < c then 3 else if 0 < k ∧ c = 0 then 2 else 0

theorem fault_any (c k : Nat) (hc : c < 256) (w : World) :
    Calls Tryd.prog 28 #[.int .u8 c, .int .i64 k] w fun e w' => e = .returned (.int .i64 (flt c k : Nat)) ∧ w = w' := by
  obtain ⟨r, hr⟩ : ∃ r, r = flt c k := ⟨_, rfl⟩
  rw [← hr]
  unfold flt at hr
  by_cases h9 : k = 9
  · subst h9
    by_cases h1 : 1 < c
    · obtain ⟨hr2, -⟩ : r = 3 ∧ True := ⟨by simpa [h1] using hr, trivial⟩
      clear hr
      subst hr2
      have a1 : (1 : Int) < (c : Int) := by omega
      go_enter Tryd.func28, Tryd.ntmps28
      go_wp2
      go_ret
      exact ⟨rfl, rfl⟩
    · have a1 : ¬ (1 : Int) < (c : Int) := by omega
      by_cases h0 : c = 0
      · subst h0
        obtain ⟨hr2, -⟩ : r = 2 ∧ True := ⟨by simpa using hr, trivial⟩
        clear hr
        subst hr2
        go_enter Tryd.func28, Tryd.ntmps28
        go_wp2
        go_ret
        exact ⟨rfl, rfl⟩
      · obtain rfl : c = 1 := by omega
        obtain ⟨hr2, -⟩ : r = 0 ∧ True := ⟨by simpa using hr, trivial⟩
        clear hr
        subst hr2
        go_enter Tryd.func28, Tryd.ntmps28
        go_wp2
        go_ret
        exact ⟨rfl, rfl⟩
  · have a9 : ((k : Int) == 9) = false := by simp; omega
    by_cases hk : 0 < k
    · have ak : (0 : Int) < (k : Int) := by omega
      by_cases h0 : c = 0
      · subst h0
        obtain ⟨hr2, -⟩ : r = 2 ∧ True := ⟨by simpa [h9, hk] using hr, trivial⟩
        clear hr
        subst hr2
        go_enter Tryd.func28, Tryd.ntmps28
        go_wp2
        go_ret
        exact ⟨rfl, rfl⟩
      · have a0 : ((c : Int) == 0) = false := by simp; omega
        obtain ⟨hr2, -⟩ : r = 0 ∧ True := ⟨by simpa [h9, hk, h0] using hr, trivial⟩
        clear hr
        subst hr2
        go_enter Tryd.func28, Tryd.ntmps28
        go_wp2
        go_ret
        exact ⟨rfl, rfl⟩
    · obtain rfl : k = 0 := by omega
      obtain ⟨hr2, -⟩ : r = 0 ∧ True := ⟨by simpa using hr, trivial⟩
      clear hr
      subst hr2
      go_enter Tryd.func28, Tryd.ntmps28
      go_wp2
      go_ret
      exact ⟨rfl, rfl⟩
end Go.Proofs.YtgdijlmfpboecaaDoor
