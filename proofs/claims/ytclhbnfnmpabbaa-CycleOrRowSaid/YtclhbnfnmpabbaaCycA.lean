/- Plain words: ways back. -/
import Derived.Test.YtclhbnfnmpabbaaExtB
namespace Go.Proofs.Ytclhbnfnmpabbaa.RPlain

/-- is a row a cycle? -/
def walkB (L row : List Nat) : Bool := !row.isEmpty && (List.range row.length).all fun i => !(row.take i).contains (row.getD i 0) && aft L (row.getD i 0) (row.getD ((i + 1) % row.length) 0)
def nodL (n s : Nat) : List (List Nat) := extP n (fun row k => !row.contains k) s []
def leastG (L : List Nat) : Nat → Nat → List Nat
  | 0, _ => []
  | f + 1, s => match (nodL L.length s).find? (walkB L) with | some r => r | none => leastG L f (s + 1)
def leastS (L : List Nat) : List Nat := leastG L L.length 1
structure Cyc (L row : List Nat) : Prop where
  pos : 0 < row.length
  nodup : row.Nodup
  lt : ∀ k ∈ row, k < L.length
  edge : ∀ i (hi : i < row.length), aft L row[i] (row[(i + 1) % row.length]'(Nat.mod_lt _ (by omega))) = true
theorem getD_get {l : List Nat} {i : Nat} (hi : i < l.length) : l.getD i 0 = l[i] := by rw [List.getD_eq_getElem?_getD, List.getElem?_eq_getElem hi, Option.getD_some]
theorem nodup_take {l : List Nat} : l.Nodup ↔ ∀ i (hi : i < l.length), l[i] ∉ l.take i := by
  constructor
  · intro h i hi hm
    obtain ⟨j, hj, he⟩ := List.mem_take_iff_getElem.1 hm
    have := (List.getElem_inj h).1 he
    omega
  · intro h
    rw [List.Nodup, List.pairwise_iff_getElem]
    intro i j hi hj hij he
    exact h j hj (List.mem_take_iff_getElem.2 ⟨i, by omega, he⟩)
theorem walk_iff {L row : List Nat} (hlt : ∀ k ∈ row, k < L.length) : walkB L row = true ↔ Cyc L row := by
  unfold walkB
  rw [Bool.and_eq_true, List.all_eq_true]
  constructor
  · rintro ⟨h1, h2⟩
    have hpos : 0 < row.length := by
      cases row with
      | nil => cases h1
      | cons x r => simp
    have h3 : ∀ i (hi : i < row.length), row[i] ∉ row.take i ∧ aft L row[i] (row[(i + 1) % row.length]'(Nat.mod_lt _ hpos)) = true := fun i hi => by
      have := h2 i (List.mem_range.2 hi)
      rw [getD_get hi, getD_get (Nat.mod_lt _ hpos), Bool.and_eq_true] at this
      exact ⟨by simpa using this.1, this.2⟩
    exact ⟨hpos, nodup_take.2 fun i hi => (h3 i hi).1, hlt, fun i hi => (h3 i hi).2⟩
  · intro h
    refine ⟨by
      cases row with
      | nil => exact absurd h.pos (by simp)
      | cons x r => rfl, fun i hi => ?_⟩
    have hi' := List.mem_range.1 hi
    rw [getD_get hi', getD_get (Nat.mod_lt _ h.pos), Bool.and_eq_true]
    exact ⟨by simpa using nodup_take.1 h.nodup i hi', h.edge i hi'⟩
theorem stepsN_iff : ∀ (t row : List Nat), stepsP (fun row k => !row.contains k) row t = true ↔ t.Nodup ∧ ∀ b ∈ row, ∀ a ∈ t, a ≠ b := by
  intro t
  induction t with
  | nil => intro row; simp [stepsP]
  | cons k r ih =>
    intro row
    rw [stepsP, Bool.and_eq_true, ih, List.nodup_cons]
    simp only [Bool.not_eq_true', List.contains_eq_mem, decide_eq_false_iff_not]
    constructor
    · rintro ⟨h1, h2, h3⟩
      refine ⟨⟨fun hk => h3 k (by simp) k hk rfl, h2⟩, fun b hb a ha => ?_⟩
      rcases List.mem_cons.1 ha with rfl | ha
      · exact fun hc => h1 (hc ▸ hb)
      · exact h3 b (List.mem_append_left _ hb) a ha
    · rintro ⟨⟨h1, h2⟩, h3⟩
      refine ⟨fun hk => h3 k hk k (List.mem_cons_self ..) rfl, h2, fun b hb a ha => ?_⟩
      rcases List.mem_append.1 hb with hb | hb
      · exact h3 b hb a (List.mem_cons_of_mem _ ha)
      · rw [List.mem_singleton.1 hb]; exact fun hc => h1 (hc ▸ ha)
theorem nodL_filter (n s : Nat) : nodL n s = (allT n s).filter (stepsP (fun row k => !row.contains k) []) := by
  unfold nodL
  rw [ext_filter]
  simp
theorem nodL_mem {n s : Nat} {row : List Nat} : row ∈ nodL n s ↔ row.length = s ∧ (∀ k ∈ row, k < n) ∧ row.Nodup := by
  rw [nodL_filter, List.mem_filter, allT_mem, stepsN_iff]
  simp [and_assoc]
theorem nodL_rise (n s : Nat) : (nodL n s).Pairwise (· < ·) := by rw [nodL_filter]; exact (allT_rise _ _).filter _
/-- of two cycles the one is not greater -/
def notMore (a b : List Nat) : Prop := a.length < b.length ∨ (a.length = b.length ∧ ¬ b < a)
theorem find_least {p : List Nat → Bool} : ∀ {l : List (List Nat)} {r : List Nat}, l.Pairwise (· < ·) → l.find? p = some r → ∀ x ∈ l, p x = true → ¬ x < r := by
  intro l
  induction l with
  | nil => intro r _ _ x hx; cases hx
  | cons y s ih =>
    intro r hp hf x hx hpx
    obtain ⟨h1, h2⟩ := List.pairwise_cons.1 hp
    rw [List.find?_cons] at hf
    cases hy : p y with
    | true =>
      rw [hy] at hf
      have hf' : y = r := by simpa using hf
      subst hf'
      rcases List.mem_cons.1 hx with rfl | hx
      · exact List.lt_irrefl _
      · exact fun hc => List.lt_irrefl _ (List.lt_trans hc (h1 x hx))
    | false =>
      rw [hy] at hf
      rcases List.mem_cons.1 hx with rfl | hx
      · rw [hy] at hpx; cases hpx
      · exact ih h2 (by simpa using hf) x hx hpx
theorem least_spec {L : List Nat} : ∀ (f s : Nat), 1 ≤ s → ((leastG L f s = [] ∧ ∀ row, Cyc L row → s ≤ row.length → row.length < s + f → False) ∨ (Cyc L (leastG L f s) ∧ s ≤ (leastG L f s).length ∧ ∀ row, Cyc L row → s ≤ row.length → notMore (leastG L f s) row)) := by
  intro f
  induction f with
  | zero => intro s _; exact .inl ⟨rfl, fun row _ h1 h2 => by omega⟩
  | succ f ih =>
    intro s hs
    rw [leastG]
    cases hf : (nodL L.length s).find? (walkB L) with
    | some r =>
      right
      dsimp only
      have h1 := List.find?_some hf
      obtain ⟨e1, e2, e3⟩ := nodL_mem.1 (List.mem_of_find?_eq_some hf)
      refine ⟨(walk_iff e2).1 h1, by omega, fun row hr hle => ?_⟩
      rcases Nat.lt_or_ge r.length row.length with h2 | h2
      · exact .inl h2
      · refine .inr ⟨by omega, find_least (nodL_rise _ _) hf row (nodL_mem.2 ⟨by omega, hr.lt, hr.nodup⟩) ((walk_iff hr.lt).2 hr)⟩
    | none =>
      dsimp only
      have hno : ∀ row, Cyc L row → row.length ≠ s := fun row hr hl => by
        have := List.find?_eq_none.1 hf row (nodL_mem.2 ⟨hl, hr.lt, hr.nodup⟩)
        exact this ((walk_iff hr.lt).2 hr)
      rcases ih (s + 1) (by omega) with ⟨g1, g2⟩ | ⟨g1, g2, g3⟩
      · exact .inl ⟨g1, fun row hr h1 h2 => g2 row hr (by have := hno row hr; omega) (by omega)⟩
      · exact .inr ⟨g1, by omega, fun row hr h1 => g3 row hr (by have := hno row hr; omega)⟩
theorem cyc_len {L row : List Nat} (h : Cyc L row) : row.length ≤ L.length := by
  have := nodup_le row (List.range L.length) h.nodup fun x hx => List.mem_range.2 (h.lt x hx)
  rwa [List.length_range] at this
/-- the least cycle, or there is none -/
theorem least_tells (L : List Nat) : (leastS L = [] ∧ ∀ row, ¬ Cyc L row) ∨ (Cyc L (leastS L) ∧ ∀ row, Cyc L row → notMore (leastS L) row) := by
  rcases least_spec (L := L) L.length 1 (Nat.le_refl _) with ⟨h1, h2⟩ | ⟨h1, _, h3⟩
  · exact .inl ⟨h1, fun row hr => h2 row hr hr.pos (by have := cyc_len hr; omega)⟩
  · exact .inr ⟨h1, fun row hr => h3 row hr hr.pos⟩
/-- turned on it is one still -/
theorem rot_get {row : List Nat} {k i : Nat} (hk : k < row.length) (hi : i < (row.drop k ++ row.take k).length) : (row.drop k ++ row.take k)[i] = row[(i + k) % row.length]'(Nat.mod_lt _ (by omega)) := by
  have hl : (row.drop k ++ row.take k).length = row.length := by rw [List.length_append, List.length_drop, List.length_take]; omega
  rw [hl] at hi
  by_cases h : i < row.length - k
  · rw [List.getElem_append_left (by rw [List.length_drop]; exact h), List.getElem_drop]
    have : (i + k) % row.length = k + i := by rw [Nat.mod_eq_of_lt (by omega)]; omega
    simp only [this]
  · rw [List.getElem_append_right (by rw [List.length_drop]; omega), List.getElem_take]
    have : (i + k) % row.length = i - (row.drop k).length := by
      rw [List.length_drop, Nat.mod_eq_sub_mod (by omega), Nat.mod_eq_of_lt (by omega)]
      omega
    simp only [this]
theorem Cyc.rot {L row : List Nat} (h : Cyc L row) {k : Nat} (hk : k < row.length) : Cyc L (row.drop k ++ row.take k) := by
  have hl : (row.drop k ++ row.take k).length = row.length := by rw [List.length_append, List.length_drop, List.length_take]; omega
  have hp : (row.drop k ++ row.take k).Perm row := by
    have := List.perm_append_comm (l₁ := row.drop k) (l₂ := row.take k)
    rwa [List.take_append_drop] at this
  refine ⟨by rw [hl]; exact h.pos, hp.nodup_iff.2 h.nodup, fun x hx => h.lt x (hp.subset hx), fun i hi => ?_⟩
  rw [rot_get hk hi, rot_get hk]
  have hi' : (i + k) % row.length < row.length := Nat.mod_lt _ h.pos
  have h1 := h.edge ((i + k) % row.length) hi'
  have h2 : ((i + 1) % (row.drop k ++ row.take k).length + k) % row.length = ((i + k) % row.length + 1) % row.length := by
    rw [hl, Nat.mod_add_mod, Nat.mod_add_mod]
    congr 1
    omega
  simp only [h2]
  exact h1
/-- it begins with its least place -/
theorem least_first {L : List Nat} (h : Cyc L (leastS L)) (hl : ∀ row, Cyc L row → notMore (leastS L) row) : ∀ x ∈ leastS L, (leastS L)[0]'h.pos ≤ x := by
  intro x hx
  obtain ⟨k, hk, he⟩ := List.getElem_of_mem hx
  rcases Nat.lt_or_ge x ((leastS L)[0]'h.pos) with hlt | hge
  · exfalso
    have hr := h.rot hk
    have hlen : ((leastS L).drop k ++ (leastS L).take k).length = (leastS L).length := by rw [List.length_append, List.length_drop, List.length_take]; omega
    rcases hl _ hr with h1 | ⟨_, h1⟩
    · omega
    · refine h1 ?_
      rw [List.drop_eq_getElem_cons hk, he]
      obtain ⟨y, r, hyr⟩ : ∃ y r, leastS L = y :: r := by
        cases hc : leastS L with
        | nil => have := h.pos; rw [hc] at this; exact absurd this (by simp)
        | cons y r => exact ⟨y, r, rfl⟩
      have hy : (leastS L)[0]'h.pos = y := by simp only [hyr]; rfl
      rw [hy] at hlt
      generalize leastS L = Z at *
      subst hyr
      exact List.cons_lt_cons_iff.2 (.inl hlt)
  · exact hge
/-- closed ways, with places more than once -/
structure Clo (L row : List Nat) : Prop where
  pos : 0 < row.length
  lt : ∀ k ∈ row, k < L.length
  edge : ∀ i (hi : i < row.length), aft L row[i] (row[(i + 1) % row.length]'(Nat.mod_lt _ (by omega))) = true
theorem clo_cyc {L : List Nat} : ∀ (m : Nat) (row : List Nat), row.length ≤ m → Clo L row → ∃ c, Cyc L c := by
  intro m
  induction m with
  | zero => intro row h hc; have := hc.pos; omega
  | succ m ih =>
    intro row hm hc
    by_cases hn : row.Nodup
    · exact ⟨row, hc.pos, hn, hc.lt, hc.edge⟩
    · have : ∃ i, ∃ hi : i < row.length, row[i] ∈ row.take i := by
        rw [nodup_take] at hn
        simp only [Classical.not_forall, Classical.not_not] at hn
        obtain ⟨i, hi, h⟩ := hn
        exact ⟨i, hi, h⟩
      obtain ⟨j, hj, hmem⟩ := this
      obtain ⟨i, hi, he⟩ := List.mem_take_iff_getElem.1 hmem
      have hij : i < j := by omega
      have hlen : ((row.drop i).take (j - i)).length = j - i := by rw [List.length_take, List.length_drop]; omega
      have hget : ∀ x (hx : x < ((row.drop i).take (j - i)).length), ((row.drop i).take (j - i))[x] = row[i + x]'(by omega) := fun x hx => by rw [List.getElem_take, List.getElem_drop]
      refine ih ((row.drop i).take (j - i)) (by omega) ⟨by omega, fun k hk => hc.lt k (List.mem_of_mem_drop (List.mem_of_mem_take hk)), fun x hx => ?_⟩
      rw [hget x hx, hget]
      have h1 := hc.edge (i + x) (by omega)
      have h2 : row[(i + x + 1) % row.length]'(Nat.mod_lt _ (by omega)) = row[i + (x + 1) % ((row.drop i).take (j - i)).length]'(by have := Nat.mod_lt (x + 1) (show 0 < ((row.drop i).take (j - i)).length by omega); omega) := by
        by_cases hx1 : x + 1 < j - i
        · have e1 : (i + x + 1) % row.length = i + (x + 1) % ((row.drop i).take (j - i)).length := by
            rw [hlen, Nat.mod_eq_of_lt (by omega), Nat.mod_eq_of_lt hx1]
            omega
          simp only [e1]
        · have e1 : (i + x + 1) % row.length = j := by rw [Nat.mod_eq_of_lt (by omega)]; omega
          have e2 : (x + 1) % ((row.drop i).take (j - i)).length = 0 := by rw [hlen, show x + 1 = j - i from by omega, Nat.mod_self]
          simp only [e1, e2, Nat.add_zero]
          exact he.symm
      rw [← h2]
      exact h1
theorem trans_path {L : List Nat} {a b : Nat} (h : Relation.TransGen (Edge L) a b) : ∃ row : List Nat, ∃ hp : 0 < row.length, row[0] = a ∧ (∀ k ∈ row, k < L.length) ∧ (∀ i (hi : i + 1 < row.length), aft L row[i] row[i + 1] = true) ∧ aft L (row[row.length - 1]'(by omega)) b = true ∧ b < L.length := by
  induction h with
  | single h => exact ⟨[a], by simp, rfl, fun k hk => by rw [List.mem_singleton.1 hk]; exact h.1, fun i hi => absurd hi (by simp), h.2.2, h.2.1⟩
  | tail _ h ih =>
    rename_i b c _
    obtain ⟨row, hp, h0, h1, h2, h3, h4⟩ := ih
    refine ⟨row ++ [b], by simp, ?_, fun k hk => ?_, fun i hi => ?_, ?_, h.2.1⟩
    · rw [List.getElem_append_left hp]; exact h0
    · rcases List.mem_append.1 hk with hk | hk
      · exact h1 k hk
      · rw [List.mem_singleton.1 hk]; exact h4
    · rw [List.length_append, List.length_singleton] at hi
      rw [List.getElem_append_left (by omega)]
      by_cases hl : i + 1 < row.length
      · rw [List.getElem_append_left hl]; exact h2 i hl
      · rw [List.getElem_append_right (by omega)]
        have e1 : i = row.length - 1 := by omega
        have e2 : i + 1 - row.length = 0 := by omega
        simp only [e1]
        simp only [show row.length - 1 + 1 - row.length = 0 from by omega, List.getElem_cons_zero]
        exact h3
    · have : (row ++ [b]).length - 1 = row.length := by rw [List.length_append, List.length_singleton]; omega
      simp only [this]
      rw [List.getElem_append_right (Nat.le_refl _)]
      simp only [Nat.sub_self, List.getElem_cons_zero]
      exact h.2.2
/-- there is a cycle, just if there is a way back -/
theorem cyc_iff (L : List Nat) : (∃ row, Cyc L row) ↔ ¬ Free L := by
  constructor
  · rintro ⟨row, h⟩ hf
    have hT : ∀ d, d < row.length → Relation.TransGen (Edge L) (row[0]'h.pos) (row[(d + 1) % row.length]'(Nat.mod_lt _ h.pos)) := by
      intro d
      induction d with
      | zero => intro hd; exact .single ⟨h.lt _ (List.getElem_mem _), h.lt _ (List.getElem_mem _), h.edge 0 hd⟩
      | succ d ih =>
        intro hd
        have h1 := ih (by omega)
        have h2 : (d + 1) % row.length = d + 1 := Nat.mod_eq_of_lt hd
        simp only [h2] at h1
        exact h1.tail ⟨h.lt _ (List.getElem_mem _), h.lt _ (List.getElem_mem _), h.edge (d + 1) hd⟩
    have h1 := hT (row.length - 1) (by have := h.pos; omega)
    have h2 : (row.length - 1 + 1) % row.length = 0 := by rw [show row.length - 1 + 1 = row.length from by have := h.pos; omega, Nat.mod_self]
    simp only [h2] at h1
    exact hf _ h1
  · intro hf
    unfold Free at hf
    simp only [Classical.not_forall, Classical.not_not] at hf
    obtain ⟨a, ha⟩ := hf
    obtain ⟨row, hp, h0, h1, h2, h3, _⟩ := trans_path ha
    refine clo_cyc row.length row (Nat.le_refl _) ⟨hp, h1, fun i hi => ?_⟩
    by_cases hl : i + 1 < row.length
    · have : (i + 1) % row.length = i + 1 := Nat.mod_eq_of_lt hl
      simp only [this]
      exact h2 i hl
    · have e1 : i = row.length - 1 := by omega
      subst e1
      have : (row.length - 1 + 1) % row.length = 0 := by rw [show row.length - 1 + 1 = row.length from by omega, Nat.mod_self]
      simp only [this]
      rw [h0]
      exact h3
/-- with one edge more -/
theorem cyc_more {L L' : List Nat} (hl : L.length = L'.length) (h : ∀ a b, aft L a b = true → aft L' a b = true) {row : List Nat} (hc : Cyc L row) : Cyc L' row :=
  ⟨hc.pos, hc.nodup, fun k hk => hl ▸ hc.lt k hk, fun i hi => h _ _ (hc.edge i hi)⟩
theorem cyc_new {L L' : List Nat} (hl : L.length = L'.length) {i k : Nat} (h : ∀ a b, aft L' a b = true → aft L a b = true ∨ (a = i ∧ b = k)) {row : List Nat} (hc : Cyc L' row) (hn : ¬ Cyc L row) : i ∈ row ∧ k ∈ row := by
  by_cases hm : ∃ x, ∃ hx : x < row.length, row[x] = i ∧ row[(x + 1) % row.length]'(Nat.mod_lt _ (by omega)) = k
  · obtain ⟨x, hx, rfl, rfl⟩ := hm
    exact ⟨List.getElem_mem _, List.getElem_mem _⟩
  · exfalso
    refine hn ⟨hc.pos, hc.nodup, fun y hy => hl ▸ hc.lt y hy, fun x hx => ?_⟩
    rcases h _ _ (hc.edge x hx) with h1 | ⟨h1, h2⟩
    · exact h1
    · exact absurd ⟨x, hx, h1, h2⟩ hm
end Go.Proofs.Ytclhbnfnmpabbaa.RPlain
