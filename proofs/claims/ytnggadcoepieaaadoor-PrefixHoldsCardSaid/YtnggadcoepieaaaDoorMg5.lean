/- Merged: PrpE, PrpF. -/
import Derived.Test.YtnggadcoepieaaaDoorPrpD
import Derived.Test.YtnggadcoepieaaaDoorMg2
import Derived.Sort.KeysCollected
/- The walk of Check. -/
namespace Go.Proofs.YtnggadcoepieaaaDoor.WPlain
end Go.Proofs.YtnggadcoepieaaaDoor.WPlain
namespace Go.Proofs.YtnggadcoepieaaaDoor.QPlain
end Go.Proofs.YtnggadcoepieaaaDoor.QPlain
namespace Go.Proofs.YtnggadcoepieaaaDoor
open Go.RowKit WPlain QPlain

theorem check_any (v : Value) (h : List Ev) (w : World) (hK : HasK w) (hv : Evs w v h) (hl : h.length ≤ 65536) :
    Calls Tryd.prog 16 #[v] w fun e w' => e = .returned (.tuple #[.int .i64 ((checkS h).1 : Nat), .int .i64 ((checkS h).2 : Nat)]) ∧ Below w.heap.size w w' := by
  have HF := Lib.hid (follow_any v h w hK hv hl)
  obtain ⟨a, c, rfl⟩ := hv.len
  clear hv hK
  unfold Fol at HF
  generalize checkS h = C at *
  generalize flw0 h = Z at *
  obtain ⟨n, er⟩ := C
  dsimp only at HF ⊢
  go_enter Tryd.func16, Tryd.ntmps16
  go_wp2_with fail
  refine HF.out.mono ?_
  rintro e w1 ⟨hb, h1, h2⟩
  by_cases h0 : er = 0
  · obtain ⟨S, m, rfl, _⟩ := h2 h0
    subst h0
    clear h1 h2
    go_wp2
    exact bodyPost_ret (v := .tuple #[.int .i64 n, .int .i64 0]) (by simp [results, Tryd.results16, go_sem]) rfl ⟨rfl, hb⟩
  · obtain rfl := h1 h0
    clear h1 h2
    go_wp2
    exact bodyPost_ret (v := .tuple #[.int .i64 n, .int .i64 er]) (by simp [results, Tryd.results16, go_sem]) rfl ⟨rfl, hb⟩
end Go.Proofs.YtnggadcoepieaaaDoor
/- Plain words: the kinds that may come next, collected and sorted. -/
namespace Go.Proofs.YtnggadcoepieaaaDoor.WPlain
end Go.Proofs.YtnggadcoepieaaaDoor.WPlain
namespace Go.Proofs.YtnggadcoepieaaaDoor.QPlain
open WPlain

/-- the kinds that may come next in a state, rising -/
def kindsS (s : Nat) : List Int := (mvs.getD s []).map fun p => (p.1 : Int)
/-- the kinds met so far -/
def Coll (s : Nat) (left : Lit → Bool) (ss : List Int) : Prop := ss.Nodup ∧ ∀ x : Int, x ∈ ss ↔ (Maps.has (rowD s) (.int .i64 x) = true ∧ left (.int .i64 x) = false)
theorem Coll.start (s : Nat) : Coll s (Maps.has (rowD s)) [] := ⟨List.nodup_nil, fun x => by cases Maps.has (rowD s) (.int .i64 x) <;> simp⟩
theorem Coll.step {s : Nat} {left : Lit → Bool} {ss : List Int} (h : Coll s left ss) {x : Int} {y : DataW Unit} (hlk : left (.int .i64 x) = true) (hat : ∀ zd, (rowD s).atKey (.int .i64 x) zd = y) :
    Coll s (fun z => left z && !z.sameKey (.int .i64 x)) (ss ++ [x]) := by
  have hhas : Maps.has (rowD s) (.int .i64 x) = true := Maps.has_true_of_atKey hat
  have hnew : x ∉ ss := fun hx => by have := ((h.2 x).1 hx).2; rw [hlk] at this; cases this
  refine ⟨List.nodup_append.2 ⟨h.1, by simp, fun a ha b hb => by simp at hb; subst hb; exact fun e => hnew (e ▸ ha)⟩, fun y => ?_⟩
  by_cases hy : y = x
  · subst hy; simp [hhas, Lit.sameKey]
  · simp [h.2 y, hy, Lit.sameKey]
theorem row_keys {s : Nat} (h8 : s < 8) : ∃ es, rowD s = .map es ∧ es.map (·.1) = (kindsS s).map (Lit.int .i64) := by
  rcases eight h8 with rfl | rfl | rfl | rfl | rfl | rfl | rfl | rfl <;> exact ⟨_, rfl, rfl⟩
theorem kinds_has {s : Nat} (h8 : s < 8) (x : Int) : x ∈ kindsS s ↔ Maps.has (rowD s) (.int .i64 x) = true := by
  obtain ⟨es, h1, h2⟩ := row_keys h8
  rw [h1, Maps.has_eq]
  have h3 : es.any (fun p => p.1.sameKey (.int .i64 x)) = (es.map (·.1)).any (fun l => l.sameKey (.int .i64 x)) := by rw [List.any_map]; rfl
  rw [h3, h2, List.any_map, List.any_eq_true]
  simp [Lit.sameKey]
end Go.Proofs.YtnggadcoepieaaaDoor.QPlain
