/- The walks of package word's Words and of what it calls. -/
import Derived.Test.YtnbecfgoambbpaaDoorRows
import Derived.Test.YtnbecfgoambbpaaDoorShelf
import Derived.Test.YtnbecfgoambbpaaDoorPlainA
import Derived.Test.YtnbecfgoambbpaaDoorKit
namespace Go.Proofs.YtnbecfgoambbpaaDoor
open Go.RowKit WPlain

/-- The library's variable MaxLen holds some int. -/
def HasM (w : World) : Prop := ∃ m, w.cell? ⟨1, 0, none⟩ = some (.int .i64 m)
theorem HasM.later {B : Nat} {w w' : World} (h : HasM w) (hb : Below B w w') (hB : w.heap.size ≤ B) : HasM w' := by
  obtain ⟨m, hm⟩ := h
  exact ⟨m, (hb.cell (p := ⟨1, 0, none⟩) (Nat.lt_of_lt_of_le (World.block_lt_of_cell? w _ hm) hB)).trans hm⟩

theorem info9 : (Tryd.prog.info? 9).map (fun i => (i.zero, i.size, i.bytes)) = some (some (.string ByteArray.empty), 1, 16) := by kernel_rfl
theorem info3 : (Tryd.prog.info? 3).map (fun i => (i.zero, i.size, i.bytes)) = some (some (.int .i64 0), 1, 8) := by kernel_rfl

theorem isGap_yes (c : UInt8) (w : World) (h : gap c = true) :
    Calls Tryd.prog 34 #[.int .u8 c.toNat] w fun e w' => e = .returned (.bool true) ∧ w = w' := by
  by_cases h9 : c = 9
  · subst h9
    go_enter Tryd.func34, Tryd.ntmps34
    go_wp2
    go_ret
    exact ⟨rfl, rfl⟩
  · have h32 : c = 32 := by simpa [gap, h9] using h
    subst h32
    go_enter Tryd.func34, Tryd.ntmps34
    go_wp2
    go_ret
    exact ⟨rfl, rfl⟩
theorem isGap_no (c : UInt8) (w : World) (h : gap c = false) :
    Calls Tryd.prog 34 #[.int .u8 c.toNat] w fun e w' => e = .returned (.bool false) ∧ w = w' := by
  have h9 : ¬ (c.toNat : Int) = 9 := by
    intro hc
    have : c = 9 := UInt8.toNat_inj.1 (by simpa using Int.ofNat.inj hc)
    subst this; simp [gap] at h
  have h32 : ¬ (c.toNat : Int) = 32 := by
    intro hc
    have : c = 32 := UInt8.toNat_inj.1 (by simpa using Int.ofNat.inj hc)
    subst this; simp [gap] at h
  have b9 : ((c.toNat : Int) == 9) = false := by simpa using h9
  have b32 : ((c.toNat : Int) == 32) = false := by simpa using h32
  go_enter Tryd.func34, Tryd.ntmps34
  go_wp2
  go_ret
  exact ⟨rfl, rfl⟩
end Go.Proofs.YtnbecfgoambbpaaDoor
