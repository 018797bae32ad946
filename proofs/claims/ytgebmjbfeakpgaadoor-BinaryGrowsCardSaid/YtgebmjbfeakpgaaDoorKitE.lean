/- Append of bytes, whatever the source. -/
import Derived.Test.YtgebmjbfeakpgaaDoorVarR
import Derived.Laws.AppendOwnNone
namespace Go.Proofs.YtgebmjbfeakpgaaDoor.VPlain
end Go.Proofs.YtgebmjbfeakpgaaDoor.VPlain
namespace Go.Proofs.YtgebmjbfeakpgaaDoor
open Go.RowKit VPlain

/-- a source of append: nil, or at an address -/
def SrcB (v : Value) : Prop := v = .slice none 0 0 ∨ ∃ ad m c, v = .slice (some ad) m c
theorem bs_oneCell (h : List Nat) : ∀ u ∈ bs h, u.oneCell' = true := by
  intro u hu
  simp only [bs, List.mem_map] at hu
  obtain ⟨e, _, rfl⟩ := hu
  rfl
theorem addr_addB (b o j : Nat) : (⟨b, o, none⟩ : Addr).add j = ⟨b, o + j, none⟩ := by unfold Addr.add; split <;> simp_all
theorem rd_cells {w : World} {a : Addr} {n c : Nat} {xs : List Value} (hv : Rd w (.slice (some a) n c) xs) : ∀ j u, xs[j]? = some u → w.cell? (a.add j) = some u := by
  intro j u hu
  rcases hv with ⟨rfl, _⟩ | ⟨_, b, o, c', he, hc⟩
  · simp at hu
  · obtain ⟨rfl, rfl, rfl⟩ : a = ⟨b, o, none⟩ ∧ n = xs.length ∧ c = c' := by simpa using he
    rw [addr_addB]
    exact hc j u hu
theorem rd_length {w : World} {a : Option Addr} {n c : Nat} {xs : List Value} (hv : Rd w (.slice a n c) xs) : n = xs.length := by
  obtain ⟨a', c', he⟩ := hv.len
  simp at he
  exact he.2.1
theorem wpList_append_by {ops : Array Oper} {rest : List Oper} {o : Oper} {a : Act} {w : World} {Q : Exit → Act → World → Prop} (hgd : o.guard = none) (s x : Operand)
    (ho : o.op = .call { callee := .builtin .append, args := #[s, x], argTypes := #[22, 22] }) (base : Nat)
    (v : Value) (n : Nat) (xs : List Value) (hs : a.eval s = v) (hown : w.ownsRow base 5 1 v n xs)
    (v2 : Value) (h : List Nat) (hx : a.eval x = v2) (hv : Rd w v2 (bs h)) (hsrc : SrcB v2) (h63 : n + h.length ≤ 65536) (hbase : base ≤ w.heap.size)
    (hK : ∀ v' w', w'.ownsRow base 5 1 v' (n + h.length) (xs ++ bs h) → w.grownBy w' v.ownBlock → wpList Tryd.prog ops Q rest (a.put o.dst v') w') : wpList Tryd.prog ops Q (o :: rest) a w := by
  obtain ⟨j0, hj0, hy0, hy1', hy2'⟩ := info_parts infoU8
  rcases hsrc with rfl | ⟨ad, m, c, rfl⟩
  · have h0 : h = [] := by
      have h1 := rd_length hv
      rw [bs_len] at h1
      exact List.length_eq_zero_iff.1 h1.symm
    subst h0
    have hrest := hK v w (by simpa [bs] using hown) ⟨rfl, rfl, rfl, Nat.le_refl _, fun _ _ _ => rfl⟩
    exact wpList_append_own_none hgd s x 22 ho base 5 j0 1 Tryd.underlying22 hj0 v n xs hs hown hx hrest
  · have h1 := rd_length hv
    rw [bs_len] at h1
    subst h1
    refine wpList_append_own w hgd s x 22 ho base 5 j0 _ 1 1 Tryd.underlying22 hj0 hy0 hy1' hy2' rfl (by decide) v n xs hs hown ad h.length c (bs h) hx (by rw [bs_len]; omega) (rd_cells hv) (bs_oneCell h) (by unfold maxLen; omega) (by omega) hbase ?_
    intro v' w' h2 h3 _
    exact hK v' w' h2 h3
end Go.Proofs.YtgebmjbfeakpgaaDoor
