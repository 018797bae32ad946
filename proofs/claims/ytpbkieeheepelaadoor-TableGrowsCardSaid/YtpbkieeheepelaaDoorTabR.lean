/- Plain words: what TableGrows asks of a table. -/
import Derived.Test.YtpbkieeheepelaaDoorTabP
import Derived.Test.YtpbkieeheepelaaDoorTabM
namespace Go.Proofs.YtpbkieeheepelaaDoor.WPlain
end Go.Proofs.YtpbkieeheepelaaDoor.WPlain
namespace Go.Proofs.YtpbkieeheepelaaDoor.QPlain
end Go.Proofs.YtpbkieeheepelaaDoor.QPlain
namespace Go.Proofs.YtpbkieeheepelaaDoor.RPlain
open WPlain QPlain

theorem find_at {h : List Ev} {i : Nat} (hi : i < (namesOf h).length) : findS (tableS h) (namesOf h)[i] = some i := by
  have hl : i < (tableS h).length := by rw [tableS_len]; exact hi
  refine findS_some hl (by rw [tableS_get hi]; rfl) (fun y hy hc => ?_)
  obtain ⟨j, hj, rfl⟩ := List.mem_take_iff_getElem.1 hy
  have hj2 : j < (namesOf h).length := by omega
  rw [tableS_get hj2] at hc
  have h1 : (namesOf h)[j] = (namesOf h)[i] := hc
  have := (List.getElem_inj (names_nodup h)).1 h1
  omega
theorem rise_at {h : List Ev} {p i : Nat} (hi : i < (namesOf h).length) (hp : p < i) : fstOf h ((namesOf h)[p]'(by omega)) < fstOf h (namesOf h)[i] :=
  List.pairwise_iff_getElem.1 (fst_rise h) p i (by omega) hi hp
/-- answers of a transaction among the first events -/
def cnt (h : List Ev) (t : Int) : Nat := (h.filter (answers t)).length
theorem cnt_ops (h : List Ev) (t : Int) : (opsOf h t).length = cnt h t := ops_len h t
theorem cnt_take {h : List Ev} {k : Nat} (hk : k < h.length) (t : Int) : cnt (h.take (k + 1)) t = cnt (h.take k) t + (if answers t h[k] = true then 1 else 0) := by
  unfold cnt
  rw [List.take_succ_eq_append_getElem hk, List.filter_append, List.length_append]
  congr 1
  simp only [List.filter_cons, List.filter_nil]
  split <;> rfl
theorem cnt_le (h : List Ev) (t : Int) : cnt h t ≤ h.length := List.length_filter_le _ _
theorem names_cut (h : List Ev) (K : Nat) : (namesOf (h.take K)).length ≤ (namesOf h).length ∧ ∀ i (hi : i < (namesOf (h.take K)).length) (hi2 : i < (namesOf h).length), (namesOf (h.take K))[i] = (namesOf h)[i] := by
  have h1 := names_more (h.take K) (h.drop K)
  rw [List.take_append_drop] at h1
  exact ⟨h1.length_le, fun i hi hi2 => h1.getElem hi⟩
theorem tx_cut (h : List Ev) (K : Nat) (t : Int) (ht : t ∈ namesOf (h.take K)) : fstOf h t = fstOf (h.take K) t ∧ lstOf (h.take K) t ≤ lstOf h t ∧ (opsOf (h.take K) t).length ≤ (opsOf h t).length ∧ (opsOf h t).take (opsOf (h.take K) t).length = opsOf (h.take K) t := by
  have h1 := tx_more (h.take K) (h.drop K) t ht
  rw [List.take_append_drop] at h1
  exact ⟨h1.1, h1.2.1, h1.2.2.length_le, (List.prefix_iff_eq_take.1 h1.2.2).symm⟩
theorem check_cut {h : List Ev} (hc : (checkS h).2 = 0) (K : Nat) (hK : K ≤ h.length) : (checkS (h.take K)).2 = 0 := by
  rcases check_take (check_agree hc).1 hK with h1 | h1 | h1
  · rw [h1.2.2]
  · rw [h1.2.2]
  · rw [hc] at h1; exact absurd h1.1 (by decide)
end Go.Proofs.YtpbkieeheepelaaDoor.RPlain
