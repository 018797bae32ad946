/- Plain lines of a text: no program in sight. -/
import Derived.Test.YtnbecfgoambbpaaDoorTxtA
import Derived.Lib.SplitLaws
namespace Go.Proofs.YtnbecfgoambbpaaDoor.WPlain

theorem linesOf_ne (s : List UInt8) : linesOf s ≠ [] := by
  cases s with
  | nil => simp [linesOf]
  | cons c r =>
    unfold linesOf
    split
    · simp
    · split <;> simp
theorem linesOf_nl (r : List UInt8) : linesOf (10 :: r) = [] :: linesOf r := by rw [linesOf, if_pos rfl]
theorem linesOf_other (c : UInt8) (r l : List UInt8) (t : List (List UInt8)) (hc : c ≠ 10) (h : linesOf r = l :: t) : linesOf (c :: r) = (c :: l) :: t := by
  rw [linesOf, if_neg hc, h]

theorem splitK_lines : ∀ s : List UInt8, Lib.splitK [10] 0 (Lib.count s [10]) s = linesOf s
  | [] => by rw [Lib.count_miss (by simp [Lib.index])]; rfl
  | c :: r => by
    have ih := splitK_lines r
    by_cases hc : c = 10
    · subst hc
      have hix : Lib.index (10 :: r) [10] = ((0 : Nat) : Int) := by rw [Lib.index]; simp [List.isPrefixOf]
      rw [Lib.count_cons_eq, linesOf_nl, ← ih, Nat.add_comm, Lib.splitK, hix]
      simp
    · rw [Lib.count_cons_ne c 10 r hc]
      have hp : ([10] : List UInt8).isPrefixOf (c :: r) = false := by simp [List.isPrefixOf, Ne.symm hc]
      have hix : Lib.index (c :: r) [10] = if Lib.index r [10] == -1 then -1 else Lib.index r [10] + 1 := by rw [Lib.index, hp]; simp
      by_cases hm : Lib.index r [10] = -1
      · have h0 : Lib.count r [10] = 0 := Lib.count_miss hm
        rw [h0] at ih ⊢
        simp only [Lib.splitK] at ih ⊢
        exact (linesOf_other c r r [] hc ih.symm).symm
      · have hge := Lib.index_ge r [10]
        obtain ⟨j, hj⟩ : ∃ j : Nat, Lib.index r [10] = j := ⟨(Lib.index r [10]).toNat, by omega⟩
        have hk := Lib.count_hit (s := r) (sub := [10]) (by simp) hj
        have hix' : Lib.index (c :: r) [10] = ((j + 1 : Nat) : Int) := by rw [hix, if_neg (fun e => hm (beq_iff_eq.1 e)), hj]; omega
        rw [hk] at ih ⊢
        rw [Nat.add_comm 1] at ih ⊢
        rw [Lib.splitK, hj] at ih
        rw [Lib.splitK, hix']
        rw [if_neg (by simp)] at ih
        rw [if_neg (by simp; omega)]
        have e := linesOf_other c r _ _ hc ih.symm
        rw [e]
        simp

theorem lines_len (s : List UInt8) : (linesOf s).length ≤ s.length + 1 := by
  induction s with
  | nil => simp [linesOf]
  | cons c r ih =>
    by_cases hc : c = 10
    · subst hc; rw [linesOf_nl]; simp; omega
    · cases h : linesOf r with
      | nil => exact absurd h (linesOf_ne r)
      | cons l t => rw [linesOf_other c r l t hc h]; rw [h] at ih; simp at ih ⊢; omega
theorem lines_le (s : List UInt8) : ∀ l ∈ linesOf s, l.length ≤ s.length := by
  induction s with
  | nil => simp [linesOf]
  | cons c r ih =>
    intro l hl
    by_cases hc : c = 10
    · subst hc; rw [linesOf_nl] at hl
      rcases List.mem_cons.1 hl with rfl | hl
      · simp
      · have := ih l hl; simp; omega
    · cases h : linesOf r with
      | nil => exact absurd h (linesOf_ne r)
      | cons l' t =>
        rw [linesOf_other c r l' t hc h] at hl
        rcases List.mem_cons.1 hl with rfl | hl
        · have := ih l' (by rw [h]; simp); simp; omega
        · have := ih l (by rw [h]; simp [hl]); simp; omega
/-- the pieces that strings.Split gives -/
theorem split_vals (s : ByteArray) : (Lib.splitB ⟨#[10]⟩ 0 (Lib.countB s ⟨#[10]⟩) s).map Value.string = (linesOf s.data.toList).map (fun l => Value.string ⟨l.toArray⟩) := by
  have h1 := Lib.splitB_data ⟨#[10]⟩ 0 (Lib.countB s ⟨#[10]⟩) s
  have h2 : (⟨#[10]⟩ : ByteArray).data.toList = [10] := rfl
  rw [h2] at h1
  have h3 := splitK_lines s.data.toList
  have h4 : Lib.countB s ⟨#[10]⟩ = Lib.count s.data.toList [10] := rfl
  rw [h4] at h1 ⊢
  rw [h3] at h1
  rw [← h1, List.map_map]
  rfl
theorem split_len (s : ByteArray) : Lib.countB s ⟨#[10]⟩ + 1 = (linesOf s.data.toList).length := by
  have h := Lib.splitB_all ⟨#[10]⟩ (by decide) 0 (Lib.countB s ⟨#[10]⟩) s rfl
  rw [← h, ← List.length_map (f := Value.string), split_vals, List.length_map]

theorem placeAt_le (L : Ln) (hb : ∀ b ∈ L.bs, b ≤ L.en) (i : Nat) : placeAt L i ≤ L.en := by
  unfold placeAt
  cases h : L.bs[i]? with
  | none => simp
  | some b => exact hb b (List.mem_of_getElem? h)
theorem evOf_at (L : Ln) (h : List Ev) (hb : ∀ b ∈ L.bs, b ≤ L.en) : (evOf L h).2.1 ≤ L.en := by
  unfold evOf
  repeat' split
  all_goals first | exact placeAt_le L hb _ | exact Nat.zero_le _
theorem evOf_60 (L : Ln) (h : List Ev) (he : (evOf L h).2.2 = 0) : h.length ≠ 60 := by
  intro h60
  unfold evOf at he
  rw [if_pos h60] at he
  simp at he
theorem lnOf_bs (p : List UInt8) : ∀ b ∈ (lnOf p).bs, b ≤ (lnOf p).en := by
  intro b hb
  simp only [lnOf, List.mem_map] at hb ⊢
  obtain ⟨q, hq, rfl⟩ := hb
  have h1 := wsl_in (lineOf p) 0 none (by simp) q hq
  have h2 := lineOf_le p
  omega
theorem lnOf_len (p : List UInt8) : (lnOf p).ws.length = (words (lineOf p)).length ∧ (lnOf p).bs.length = (words (lineOf p)).length := by simp [lnOf]
theorem lnOf_ws (p : List UInt8) : ∀ l ∈ (lnOf p).ws, l.length ≤ p.length := by
  intro l hl
  simp only [lnOf, List.mem_map] at hl
  obtain ⟨q, hq, rfl⟩ := hl
  have h2 := lineOf_le p
  unfold cutAt
  rw [List.length_take, List.length_drop]
  omega
theorem parseL_skip (p : List UInt8) (r : List (List UInt8)) (b : Nat) (h : List Ev) (hw : (words (lineOf p)).length = 0) : parseL (p :: r) b h = parseL r (b + p.length + 1) h := by rw [parseL, if_pos hw]
theorem parseL_err (p : List UInt8) (r : List (List UInt8)) (b : Nat) (h : List Ev) (hw : ¬ (words (lineOf p)).length = 0) (he : (evOf (lnOf p) h).2.2 ≠ 0) : parseL (p :: r) b h = ([], b + (evOf (lnOf p) h).2.1, (evOf (lnOf p) h).2.2) := by
  rw [parseL, if_neg hw, if_pos he]
theorem parseL_ok (p : List UInt8) (r : List (List UInt8)) (b : Nat) (h : List Ev) (hw : ¬ (words (lineOf p)).length = 0) (he : (evOf (lnOf p) h).2.2 = 0) : parseL (p :: r) b h = parseL r (b + p.length + 1) (h ++ [(evOf (lnOf p) h).1]) := by
  rw [parseL, if_neg hw, if_neg (by simpa using he)]
end Go.Proofs.YtnbecfgoambbpaaDoor.WPlain
