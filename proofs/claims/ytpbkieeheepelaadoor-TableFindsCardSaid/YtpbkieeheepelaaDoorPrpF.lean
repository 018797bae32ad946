/- Plain words: the kinds that may come next, collected and sorted. -/
import Derived.Test.YtpbkieeheepelaaDoorPrpA
import Derived.Sort.KeysCollected
namespace Go.Proofs.YtpbkieeheepelaaDoor.WPlain
end Go.Proofs.YtpbkieeheepelaaDoor.WPlain
namespace Go.Proofs.YtpbkieeheepelaaDoor.QPlain
open WPlain

/-- the kinds that may come next in a state, rising -/
def kindsS (s : Nat) : List Int := (mvs.getD s []).map fun p => (p.1 : Int)
/-- the kinds met so far -/
def Coll (s : Nat) (left : Lit → Bool) (ss : List Int) : Prop := ss.Nodup ∧ ∀ x : Int, x ∈ ss ↔ (Maps.has (rowD s) (.int .i64 x) = true ∧ left (.int .i64 x) = false)
theorem Coll.start (s : Nat) : Coll s (Maps.has (rowD s)) [] := ⟨List.nodup_nil, fun x => by cases Maps.has (rowD s) (.int .i64 x) <;> simp⟩
theorem Coll.step {s : Nat} {left : Lit → Bool} {ss : List Int} (h : Coll s left ss) {x : Int} {y : DataW Unit} (hlk : left (.int .i64 x) = true) (hat : ∀ zd, (rowD s).atKey (.int .i64 x) zd = y) :
    Coll s (fun z => left z && !z.sameKey (.int .i64 x)) (ss ++ [x]) := by
  have hhas : Maps.has (rowD s) (.int .i64 x) = true := Maps.has_true_of_atKey hat
  have hnew : x ∉ ss := fun hx => by have := ((h.2 x).1 hx).2; rw [hlk] at this; cases this
  refine ⟨List.nodup_append.2 ⟨h.1, by simp, fun a ha b hb => by simp at hb; subst hb; exact fun e => hnew (e ▸ ha)⟩, fun y => ?_⟩
  by_cases hy : y = x
  · subst hy; simp [hhas, Lit.sameKey]
  · simp [h.2 y, hy, Lit.sameKey]
theorem row_keys {s : Nat} (h8 : s < 8) : ∃ es, rowD s = .map es ∧ es.map (·.1) = (kindsS s).map (Lit.int .i64) := by
  rcases eight h8 with rfl | rfl | rfl | rfl | rfl | rfl | rfl | rfl <;> exact ⟨_, rfl, rfl⟩
theorem kinds_has {s : Nat} (h8 : s < 8) (x : Int) : x ∈ kindsS s ↔ Maps.has (rowD s) (.int .i64 x) = true := by
  obtain ⟨es, h1, h2⟩ := row_keys h8
  rw [h1, Maps.has_eq]
  have h3 : es.any (fun p => p.1.sameKey (.int .i64 x)) = (es.map (·.1)).any (fun l => l.sameKey (.int .i64 x)) := by rw [List.any_map]; rfl
  rw [h3, h2, List.any_map, List.any_eq_true]
  simp [Lit.sameKey]
end Go.Proofs.YtpbkieeheepelaaDoor.QPlain
