/- The walk of VarintBack. (Written by gen_varB.py.) -/
import Derived.Test.YtgebmjbfeakpgaaDoorVarC
import Derived.Test.YtgebmjbfeakpgaaDoorVarP
import Derived.Test.YtgebmjbfeakpgaaDoorVarS
import Derived.Test.YtgebmjbfeakpgaaDoorVarG
import Derived.Test.YtgebmjbfeakpgaaDoorVarZ
import Derived.RegionTactic
import Derived.Deep.RegionHeld
import Derived.Deep.DrawnRows
import Derived.WalkLawsBesides
namespace Go.Proofs.YtgebmjbfeakpgaaDoor.VPlain
end Go.Proofs.YtgebmjbfeakpgaaDoor.VPlain
attribute [local go_sem ↓] Go.wp_at_zero Go.wp_at_succ
namespace Go.Proofs.YtgebmjbfeakpgaaDoor
open Go.RowKit VPlain

theorem get_row (v : Value) (n : Nat) (l : List Nat) (i : Nat) (w : World) (B : Nat) (ho : w.ownsRow B 5 1 v n (bs l)) (hb : ∀ x ∈ l, x < 256) (hi : i < l.length) (y j e : Nat) (hg : getL 0 (l.drop i) = (y, j, e)) :
    Calls Tryd.prog 69 #[v, .int .i64 i] w fun en w' => en = .returned (.tuple #[.int .u64 y, .int .i64 (i + j : Nat), .int .i64 e]) ∧ w = w' := by
  have hl : l.length = n := by have := ho.1; rw [bs_len] at this; omega
  have hR := Rd.of_row ho
  rcases ho.2 with ⟨rfl, h0⟩ | ⟨g, cap, cur, rfl, hB, hgb, hn, hm, hs, ht⟩
  · omega
  · rcases hR with ⟨e0, _⟩ | ⟨_, b, o, c', he, hc⟩
    · have := bs_len l; rw [e0] at this; simp at this; omega
    · rw [bs_len] at he
      simp only [Value.slice.injEq] at he
      obtain ⟨ha, rfl, rfl⟩ := he
      rw [ha]
      exact get_in b o cap l i hi hn (by unfold maxLen at hm; omega) hb w hc y j e hg
theorem got_there (A B : List Nat) (x : Nat) (hx : x < 18446744073709551616) : getL 0 ((A ++ nb x ++ B).drop A.length) = (x, (nb x).length, 0) := by
  rw [List.append_assoc, List.drop_left]
  exact getL_nb B x 0 (by omega) (by simpa using hx) (fun h => by omega)

theorem src_cut {a : Option Addr} {n c m : Nat} (h : a = none → c = 0) (hn : n ≤ c) (hm : m ≤ n) : SrcB (.slice a m c) := by
  cases a with
  | none => have := h rfl; exact .inl (by rw [show m = 0 from by omega, this])
  | some p => exact .inr ⟨_, _, _, rfl⟩
end Go.Proofs.YtgebmjbfeakpgaaDoor
