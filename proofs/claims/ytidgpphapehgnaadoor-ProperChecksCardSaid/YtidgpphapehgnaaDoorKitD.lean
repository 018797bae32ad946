/- Append of events, whatever the source. -/
import Derived.Test.YtidgpphapehgnaaDoorTxtG
import Derived.Laws.AppendOwnNone
namespace Go.Proofs.YtidgpphapehgnaaDoor.WPlain
end Go.Proofs.YtidgpphapehgnaaDoor.WPlain
namespace Go.Proofs.YtidgpphapehgnaaDoor
open Go.RowKit WPlain

theorem addr_add (b o j : Nat) : (⟨b, o, none⟩ : Addr).add j = ⟨b, o + j, none⟩ := by unfold Addr.add; split <;> simp_all
theorem Evs.cells {w : World} {a : Addr} {n c : Nat} {h : List Ev} (hv : Evs w (.slice (some a) n c) h) : ∀ j u, (evsCells h)[j]? = some u → w.cell? (a.add j) = some u := by
  intro j u hu
  rcases hv with ⟨rfl, _⟩ | ⟨_, b, o, c', he, hlt, hc⟩
  · simp [evsCells] at hu
  · obtain ⟨rfl, rfl, rfl⟩ : a = ⟨b, o, none⟩ ∧ n = h.length ∧ c = c' := by simpa using he
    have hj : j < h.length * 4 := by
      have := (List.getElem?_eq_some_iff.1 hu).1
      rw [evsCells_len] at this
      exact this
    have hi : j / 4 < h.length := by omega
    obtain ⟨c0, c1, c2, c3⟩ := hc (j / 4) hi
    have hg := evsCells_get h (j / 4) hi (j % 4) (by omega)
    rw [show j / 4 * 4 + j % 4 = j from by omega, hu] at hg
    rw [addr_add]
    have hm : j % 4 = 0 ∨ j % 4 = 1 ∨ j % 4 = 2 ∨ j % 4 = 3 := by omega
    rcases hm with hm | hm | hm | hm
    · rw [hm] at hg; rw [show o + j = o + j / 4 * 4 from by omega, c0]; exact hg.symm
    · rw [hm] at hg; rw [show o + j = o + j / 4 * 4 + 1 from by omega, c1]; exact hg.symm
    · rw [hm] at hg; rw [show o + j = o + j / 4 * 4 + 2 from by omega, c2]; exact hg.symm
    · rw [hm] at hg; rw [show o + j = o + j / 4 * 4 + 3 from by omega, c3]; exact hg.symm
theorem Evs.length {w : World} {a : Option Addr} {n c : Nat} {h : List Ev} (hv : Evs w (.slice a n c) h) : n = h.length := by
  obtain ⟨a', c', he⟩ := hv.len
  simp at he
  exact he.2.1
end Go.Proofs.YtidgpphapehgnaaDoor
