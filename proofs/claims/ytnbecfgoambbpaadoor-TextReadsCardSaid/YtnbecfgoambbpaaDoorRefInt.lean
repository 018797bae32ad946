/- The walk of the reference's Int, whole. -/
import Derived.Test.YtnbecfgoambbpaaDoorWalkL
namespace Go.Proofs.YtnbecfgoambbpaaDoor
open Go.RowKit WPlain

theorem refInt_any (s : ByteArray) (w : World) (hs : s.size ≤ 4294967280) :
    Calls Tryd.prog 55 #[.string s] w fun e w' => e = .returned (.agg #[.int .i64 (intSpec s.data.toList).1, .int .i64 (intSpec s.data.toList).2]) ∧ Below w.heap.size w w' := by
  have key : ∀ b : Bool, Lib.hasPrefix s.data.toList [45] = b → ∀ d : List UInt8, Lib.trimPrefix s.data.toList [45] = d →
      (if refDigs d = true ∧ ¬ (b = true ∧ d = [48]) then (if aboveB d (most b) = true then #[Value.int .i64 0, .int .i64 3] else #[.int .i64 (sgn b (val d)), .int .i64 0]) else #[.int .i64 0, .int .i64 2]) =
      #[.int .i64 (intSpec s.data.toList).1, .int .i64 (intSpec s.data.toList).2] := by
    intro b hb d hd
    subst hb hd
    split
    · rename_i h
      rw [intSpec_num _ h.1 h.2]
      split <;> rfl
    · rename_i h
      rw [intSpec_syn _ h]
  rcases hasP_one s 45 with ⟨hp, h0, h45⟩ | ⟨hp, h45⟩
  · have ht : Lib.trimPrefix s.data.toList [45] = (s.extract 1 s.size).data.toList := by
      unfold Lib.trimPrefix; rw [hp, if_pos rfl, Lib.extract_data, Lib.size_eq]
      rw [List.take_of_length_le (by rw [List.length_drop]; omega)]
      rfl
    refine (refInt_neg s _ w hs h0 h45 rfl).mono fun e w' ⟨he, hb⟩ => ⟨?_, hb⟩
    rw [he, key true hp _ ht]
  · have ht : Lib.trimPrefix s.data.toList [45] = s.data.toList := by
      unfold Lib.trimPrefix; rw [hp]; rfl
    refine (refInt_pos s _ w hs h45 rfl).mono fun e w' ⟨he, hb⟩ => ⟨?_, hb⟩
    rw [he, key false hp _ ht]

end Go.Proofs.YtnbecfgoambbpaaDoor
