/- Append of events, whatever the source. -/
import Derived.Test.YtpbkieeheepelaaDoorTxtG
import Derived.Laws.AppendOwnNone
namespace Go.Proofs.YtpbkieeheepelaaDoor.WPlain
end Go.Proofs.YtpbkieeheepelaaDoor.WPlain
namespace Go.Proofs.YtpbkieeheepelaaDoor
open Go.RowKit WPlain

theorem evs_oneCell (h : List Ev) : ∀ u ∈ evsCells h, u.oneCell' = true := by
  intro u hu
  simp only [evsCells, List.mem_flatMap] at hu
  obtain ⟨e, _, he⟩ := hu
  simp [evCells] at he
  rcases he with rfl | rfl | rfl | rfl <;> rfl
theorem addr_add (b o j : Nat) : (⟨b, o, none⟩ : Addr).add j = ⟨b, o + j, none⟩ := by unfold Addr.add; split <;> simp_all
theorem Evs.cells {w : World} {a : Addr} {n c : Nat} {h : List Ev} (hv : Evs w (.slice (some a) n c) h) : ∀ j u, (evsCells h)[j]? = some u → w.cell? (a.add j) = some u := by
  intro j u hu
  rcases hv with ⟨rfl, _⟩ | ⟨_, b, o, c', he, hlt, hc⟩
  · simp [evsCells] at hu
  · obtain ⟨rfl, rfl, rfl⟩ : a = ⟨b, o, none⟩ ∧ n = h.length ∧ c = c' := by simpa using he
    have hj : j < h.length * 4 := by
      have := (List.getElem?_eq_some_iff.1 hu).1
      rw [evsCells_len] at this
      exact this
    have hi : j / 4 < h.length := by omega
    obtain ⟨c0, c1, c2, c3⟩ := hc (j / 4) hi
    have hg := evsCells_get h (j / 4) hi (j % 4) (by omega)
    rw [show j / 4 * 4 + j % 4 = j from by omega, hu] at hg
    rw [addr_add]
    have hm : j % 4 = 0 ∨ j % 4 = 1 ∨ j % 4 = 2 ∨ j % 4 = 3 := by omega
    rcases hm with hm | hm | hm | hm
    · rw [hm] at hg; rw [show o + j = o + j / 4 * 4 from by omega, c0]; exact hg.symm
    · rw [hm] at hg; rw [show o + j = o + j / 4 * 4 + 1 from by omega, c1]; exact hg.symm
    · rw [hm] at hg; rw [show o + j = o + j / 4 * 4 + 2 from by omega, c2]; exact hg.symm
    · rw [hm] at hg; rw [show o + j = o + j / 4 * 4 + 3 from by omega, c3]; exact hg.symm
theorem Evs.length {w : World} {a : Option Addr} {n c : Nat} {h : List Ev} (hv : Evs w (.slice a n c) h) : n = h.length := by
  obtain ⟨a', c', he⟩ := hv.len
  simp at he
  exact he.2.1
theorem wpList_append_src {ops : Array Oper} {rest : List Oper} {o : Oper} {a : Act} {w : World} {Q : Exit → Act → World → Prop} (hgd : o.guard = none) (s x : Operand)
    (ho : o.op = .call { callee := .builtin .append, args := #[s, x], argTypes := #[22, 22] }) (base : Nat)
    (v : Value) (n : Nat) (xs : List Value) (hs : a.eval s = v) (hown : w.ownsRow base 41 4 v n xs)
    (v2 : Value) (h : List Ev) (hx : a.eval x = v2) (hv : Evs w v2 h) (hsrc : Src v2) (h63 : n + h.length ≤ 65536) (hbase : base ≤ w.heap.size)
    (hK : ∀ v' w', w'.ownsRow base 41 4 v' (n + h.length) (xs ++ evsCells h) → w.grownBy w' v.ownBlock → wpList Tryd.prog ops Q rest (a.put o.dst v') w') : wpList Tryd.prog ops Q (o :: rest) a w := by
  obtain ⟨j0, hj0, hy0, hy1', hy2'⟩ := info_parts info41
  rcases hsrc with rfl | ⟨ad, m, c, rfl⟩
  · have h0 : h = [] := List.length_eq_zero_iff.1 hv.length.symm
    subst h0
    have hrest := hK v w (by simpa [evsCells] using hown) ⟨rfl, rfl, rfl, Nat.le_refl _, fun _ _ _ => rfl⟩
    exact wpList_append_own_none hgd s x 22 ho base 41 j0 4 Tryd.underlying22 hj0 v n xs hs hown hx hrest
  · obtain rfl := hv.length
    refine wpList_append_own w hgd s x 22 ho base 41 j0 _ 4 32 Tryd.underlying22 hj0 hy0 hy1' hy2' rfl (by decide) v n xs hs hown ad h.length c (evsCells h) hx (evsCells_len h) hv.cells (evs_oneCell h) (by unfold maxLen; omega) (by omega) hbase ?_
    intro v' w' h2 h3 _
    exact hK v' w' h2 h3
end Go.Proofs.YtpbkieeheepelaaDoor
