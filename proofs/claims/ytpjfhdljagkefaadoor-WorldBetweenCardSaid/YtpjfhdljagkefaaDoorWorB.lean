/- Plain words: consistency is between; how many steps there may be. -/
import Derived.Test.YtpjfhdljagkefaaDoorWorA
namespace Go.Proofs.YtpjfhdljagkefaaDoor.WPlain
end Go.Proofs.YtpjfhdljagkefaaDoor.WPlain
namespace Go.Proofs.YtpjfhdljagkefaaDoor.QPlain
end Go.Proofs.YtpjfhdljagkefaaDoor.QPlain
namespace Go.Proofs.YtpjfhdljagkefaaDoor.RPlain
open WPlain QPlain

/-- is a choice one that tells? -/
def goodW (l : List Tx) (c : Nat) : Prop := (∃ row, Expl l c c row) ∧ ∀ t, t < l.length → c.testBit t = false → sawW l c t
def costW (l : List Tx) (c : Nat) : Nat := mostW l.length + sumW l c (List.range l.length)
theorem choice_tells {B : Nat} {l : List Tx} {c : Nat} (hself : ∀ i, i < l.length → bfrAt l i i = false) (s : Nat) (hs : s ≤ B) :
    ((choiceW B l c s).1 = 0 ∨ (choiceW B l c s).1 = 1 ∨ (choiceW B l c s).1 = 2) ∧ s ≤ (choiceW B l c s).2.2.2 ∧ (choiceW B l c s).2.2.2 ≤ B ∧ (choiceW B l c s).2.2.2 ≤ s + costW l c ∧
      ((choiceW B l c s).1 = 2 → B < s + costW l c) ∧ ((choiceW B l c s).1 ≠ 0 → (choiceW B l c s).2.1 = [] ∧ (choiceW B l c s).2.2.1 = []) ∧
      ((choiceW B l c s).1 = 0 → Expl l c c (choiceW B l c s).2.1 ∧ (choiceW B l c s).2.2.1.length = ((List.range l.length).filter fun t => !c.testBit t).length ∧
        ∀ j (hj : j < (choiceW B l c s).2.2.1.length) (hj2 : j < ((List.range l.length).filter fun t => !c.testBit t).length),
          (((choiceW B l c s).2.2.1[j]).1, ((choiceW B l c s).2.2.1[j]).2.1) ∈ pairsW l ((List.range l.length).filter fun t => !c.testBit t)[j] c ∧ tellW l ((List.range l.length).filter fun t => !c.testBit t)[j] c ((choiceW B l c s).2.2.1[j]).2.1 = true) ∧
      ((choiceW B l c s).1 = 1 → ¬ goodW l c) ∧ ((choiceW B l c s).1 = 0 → goodW l c) := by
  obtain ⟨a1, a2, a3⟩ := row_tells (B := B) (l := l) (who := c) (c := c) hself s hs
  obtain ⟨b1, b2, b3, b4, b5, b6, b7, b8⟩ := own_tells (B := B) (l := l) (c := c) (List.range l.length) (fromS B l c c (l.length + 1) [] s).2.2 a1.le
  have hge := a1.ge
  have hmost := a1.most
  unfold costW
  unfold choiceW
  by_cases hv : (fromS B l c c (l.length + 1) [] s).1 ≠ 0
  · rw [if_pos hv]
    refine ⟨a1.v, hge, a1.le, by dsimp only; omega, fun h => by have := (a1.full h).2; omega, fun _ => ⟨rfl, rfl⟩, fun h => absurd h hv, fun h => ?_, fun h => absurd h hv⟩
    rintro ⟨⟨row, hr⟩, _⟩
    exact a3 h row hr
  · rw [if_neg hv]
    have hv0 : (fromS B l c c (l.length + 1) [] s).1 = 0 := by simpa using hv
    by_cases hw : (ownG B l c (List.range l.length) (fromS B l c c (l.length + 1) [] s).2.2).1 ≠ 0
    · rw [if_pos hw]
      refine ⟨b1, by dsimp only; omega, b3, by dsimp only; omega, fun h => by have := b5 h; omega, fun _ => ⟨rfl, rfl⟩, fun h => absurd h hw, fun h => ?_, fun h => absurd h hw⟩
      rintro ⟨_, hg⟩
      obtain ⟨t, ht, hc, hn⟩ := b8 h
      exact hn (hg t (List.mem_range.1 ht) hc)
    · rw [if_neg hw]
      have hw0 : (ownG B l c (List.range l.length) (fromS B l c c (l.length + 1) [] s).2.2).1 = 0 := by simpa using hw
      obtain ⟨e1, e2⟩ := b7 hw0
      refine ⟨.inl rfl, by dsimp only; omega, b3, by dsimp only; omega, fun h => (by cases h), fun h => absurd rfl h, fun _ => ⟨a2 hv0, e1, e2⟩, fun h => (by cases h), fun _ => ⟨⟨_, a2 hv0⟩, fun t ht hc => ?_⟩⟩
      have hm : t ∈ (List.range l.length).filter fun t => !c.testBit t := List.mem_filter.2 ⟨List.mem_range.2 ht, by rw [hc]; rfl⟩
      obtain ⟨j, hj, he⟩ := List.getElem_of_mem hm
      have h1 := e2 j (by rw [e1]; exact hj) hj
      rw [he] at h1
      exact ⟨_, h1.1, h1.2⟩
theorem world_tells {B : Nat} {l : List Tx} (hself : ∀ i, i < l.length → bfrAt l i i = false) {C : Nat} : ∀ (cs : List Nat) (s : Nat), s ≤ B → (∀ c ∈ cs, costW l c ≤ C) →
    ((worldG B l cs s).1 = 0 ∨ (worldG B l cs s).1 = 1 ∨ (worldG B l cs s).1 = 2) ∧ (worldG B l cs s).2.2.2.2 ≤ B ∧ ((worldG B l cs s).1 = 2 → B < s + cs.length * C) ∧
      ((worldG B l cs s).1 ≠ 0 → (worldG B l cs s).2.1 = 0 ∧ (worldG B l cs s).2.2.1 = [] ∧ (worldG B l cs s).2.2.2.1 = []) ∧
      ((worldG B l cs s).1 = 0 → (worldG B l cs s).2.1 ∈ cs ∧ goodW l (worldG B l cs s).2.1 ∧ Expl l (worldG B l cs s).2.1 (worldG B l cs s).2.1 (worldG B l cs s).2.2.1 ∧
        (worldG B l cs s).2.2.2.1.length = ((List.range l.length).filter fun t => !(worldG B l cs s).2.1.testBit t).length ∧
        ∀ j (hj : j < (worldG B l cs s).2.2.2.1.length) (hj2 : j < ((List.range l.length).filter fun t => !(worldG B l cs s).2.1.testBit t).length),
          (((worldG B l cs s).2.2.2.1[j]).1, ((worldG B l cs s).2.2.2.1[j]).2.1) ∈ pairsW l ((List.range l.length).filter fun t => !(worldG B l cs s).2.1.testBit t)[j] (worldG B l cs s).2.1 ∧
            tellW l ((List.range l.length).filter fun t => !(worldG B l cs s).2.1.testBit t)[j] (worldG B l cs s).2.1 ((worldG B l cs s).2.2.2.1[j]).2.1 = true) ∧
      ((worldG B l cs s).1 = 1 → ∀ c ∈ cs, ¬ goodW l c) := by
  intro cs
  induction cs with
  | nil => intro s hs _; exact ⟨.inr (.inl rfl), hs, fun h => (by cases h), fun _ => ⟨rfl, rfl, rfl⟩, fun h => (by cases h), fun _ c hc => (by cases hc)⟩
  | cons c r ih =>
    intro s hs hC
    have hc := hC c (List.mem_cons_self ..)
    obtain ⟨a1, a2, a3, a4, a5, a6, a7, a8, a9⟩ := choice_tells (B := B) (l := l) (c := c) hself s hs
    have hmul : (c :: r).length * C = r.length * C + C := by rw [List.length_cons, Nat.succ_mul]
    rw [worldG]
    by_cases hv : (choiceW B l c s).1 = 1
    · rw [if_pos hv]
      obtain ⟨g1, g2, g3, g4, g5, g6⟩ := ih (choiceW B l c s).2.2.2 a3 (fun x hx => hC x (List.mem_cons_of_mem _ hx))
      refine ⟨g1, g2, fun h => by have := g3 h; omega, g4, fun h => ⟨List.mem_cons_of_mem _ (g5 h).1, (g5 h).2⟩, fun h x hx => ?_⟩
      rcases List.mem_cons.1 hx with rfl | hx
      · exact a8 hv
      · exact g6 h x hx
    · rw [if_neg hv]
      refine ⟨a1, a3, fun h => by have := a5 h; omega, fun h => ⟨if_neg h, (a6 h).1, (a6 h).2⟩, fun h => ?_, fun h => absurd h hv⟩
      rw [if_pos h]
      exact ⟨List.mem_cons_self .., a9 h, (a7 h).1, (a7 h).2.1, (a7 h).2.2⟩
/-- how many steps -/
theorem ext_most {n : Nat} {S : List Nat} {p : List Nat → Nat → Bool} (hp : ∀ row k, k < n → p row k = true → k ∈ S ∧ k ∉ row) : ∀ (s : Nat) (row : List Nat), row.Nodup → (∀ k ∈ row, k ∈ S) → S.Nodup → row.length + s = S.length → (extP n p s row).length ≤ factN s := by
  intro s
  induction s with
  | zero => intro row _ _ _ _; exact Nat.le_refl _
  | succ s ih =>
    intro row hn hr hnS hl
    rw [extP, List.length_flatMap]
    have h1 : ∀ L : List Nat, (∀ k ∈ L, k < n) → (L.map fun k => (if p row k = true then extP n p s (row ++ [k]) else []).length).sum ≤ (L.map fun k => if p row k = true then factN s else 0).sum := by
      intro L
      induction L with
      | nil => intro _; exact Nat.le_refl _
      | cons k r ihL =>
        intro hL
        rw [List.map_cons, List.map_cons, List.sum_cons, List.sum_cons]
        have h2 := ihL fun x hx => hL x (List.mem_cons_of_mem _ hx)
        by_cases hpk : p row k = true
        · rw [if_pos hpk, if_pos hpk]
          obtain ⟨h3, h4⟩ := hp row k (hL k (List.mem_cons_self ..)) hpk
          have h5 := ih (row ++ [k]) (List.nodup_append.2 ⟨hn, by simp, fun a ha b hb => by rw [List.mem_singleton.1 hb]; exact fun hc => h4 (hc ▸ ha)⟩) (fun x hx => by
            rcases List.mem_append.1 hx with hx | hx
            · exact hr x hx
            · rw [List.mem_singleton.1 hx]; exact h3) hnS (by rw [List.length_append, List.length_singleton]; omega)
          omega
        · rw [if_neg hpk, if_neg hpk]
          simp only [List.length_nil]
          omega
    refine Nat.le_trans (h1 _ fun k hk => List.mem_range.1 hk) ?_
    rw [sum_ite, factN, Nat.mul_comm (factN s)]
    refine Nat.mul_le_mul_right _ ?_
    have h6 := nodup_le (row ++ (List.range n).filter (p row)) S (List.nodup_append.2 ⟨hn, List.nodup_range.filter _, fun a ha b hb hc => by
      have h7 := List.mem_filter.1 hb
      exact (hp row b (List.mem_range.1 h7.1) h7.2).2 (hc ▸ ha)⟩) (fun x hx => by
        rcases List.mem_append.1 hx with hx | hx
        · exact hr x hx
        · have h7 := List.mem_filter.1 hx
          exact (hp row x (List.mem_range.1 h7.1) h7.2).1)
    rw [List.length_append] at h6
    omega
theorem rows_most (l : List Tx) (set : Nat) : (rowsW l set).length ≤ factN (setL l.length set).length := by
  refine ext_most (S := setL l.length set) (fun row k hk hpk => ?_) _ [] List.nodup_nil (fun k hk => by cases hk) (List.nodup_range.filter _) (by simp)
  unfold nxtW at hpk
  rw [Bool.and_eq_true, List.all_eq_true] at hpk
  refine ⟨setL_mem.2 ⟨hk, hpk.1⟩, fun hm => ?_⟩
  have := hpk.2 k hm
  simp at this
theorem factN_mono {a b : Nat} (h : a ≤ b) : factN a ≤ factN b := by
  induction b with
  | zero => rw [Nat.le_zero.1 h]; exact Nat.le_refl _
  | succ b ih =>
    rcases Nat.lt_or_ge a (b + 1) with h2 | h2
    · rw [factN, Nat.mul_succ]; exact Nat.le_trans (ih (by omega)) (Nat.le_add_left _ _)
    · rw [show a = b + 1 from by omega]; exact Nat.le_refl _
theorem sub_count : ∀ c, c < 64 → ((List.range (c + 1)).filter fun s => s &&& c == s).length ≤ 2 ^ pcN c := by decide +kernel
theorem pc_le (n c : Nat) (h6 : n ≤ 6) (hc : c < 2 ^ n) : (setL n c).length = pcN c := by
  unfold setL pcN
  obtain ⟨d, hd⟩ : ∃ d, 6 = n + d := ⟨6 - n, by omega⟩
  rw [hd, List.range_add, List.filter_append, List.length_append]
  have h1 : ((List.range d).map (n + ·)).filter c.testBit = [] := by
    rw [List.filter_eq_nil_iff]
    intro m hm
    obtain ⟨x, _, rfl⟩ := List.mem_map.1 hm
    rw [Nat.testBit_lt_two_pow (Nat.lt_of_lt_of_le hc (Nat.pow_le_pow_right (by decide) (by omega)))]
    simp
  rw [h1, List.length_nil, Nat.add_zero]
theorem take_getElem_mem' {α : Type} {l : List α} {k : Nat} {b : α} (h : b ∈ l.take k) : ∃ (j : Nat) (hj : j < l.length), j < k ∧ l[j] = b := by
  obtain ⟨j, hj, rfl⟩ := List.mem_take_iff_getElem.1 h
  exact ⟨j, by omega, by omega, rfl⟩
theorem pairs_most {l : List Tx} (h6 : l.length ≤ 6) {t c : Nat} (hc : c < 2 ^ l.length) : (pairsW l t c).length ≤ 2 ^ pcN c * factN (pcN c) := by
  have h64 : c < 64 := Nat.lt_of_lt_of_le hc (Nat.pow_le_pow_right (n := 2) (i := l.length) (j := 6) (by decide) h6)
  unfold pairsW
  rw [List.length_flatMap]
  have h1 : ∀ L : List Nat, (L.map fun set => (if mayW l t set c = true ∧ set < 2 ^ l.length then (rowsW l set).map fun r => (set, r) else []).length).sum ≤ (L.map fun set => if (set &&& c == set) = true then factN (pcN c) else 0).sum := by
    intro L
    induction L with
    | nil => exact Nat.le_refl _
    | cons set r ih =>
      rw [List.map_cons, List.map_cons, List.sum_cons, List.sum_cons]
      by_cases hm : mayW l t set c = true ∧ set < 2 ^ l.length
      · rw [if_pos hm, List.length_map]
        have hsub : ∀ k, set.testBit k = true → k < l.length ∧ c.testBit k = true := fun k hk => by
          have hkl : k < l.length := by
            rcases Nat.lt_or_ge k l.length with h | h
            · exact h
            · rw [Nat.testBit_lt_two_pow (Nat.lt_of_lt_of_le hm.2 (Nat.pow_le_pow_right (by decide) h))] at hk
              cases hk
          exact ⟨hkl, ((may_iff.1 hm.1).1 k hkl hk).2.1⟩
        have hand : (set &&& c == set) = true := by
          rw [beq_iff_eq]
          refine Nat.eq_of_testBit_eq fun j => ?_
          rw [Nat.testBit_and]
          cases hj : set.testBit j with
          | false => rfl
          | true => rw [(hsub j hj).2]; rfl
        rw [if_pos hand]
        have h2 := rows_most l set
        have h3 : (setL l.length set).length ≤ (setL l.length c).length := nodup_le _ _ (List.nodup_range.filter _) fun x hx => setL_mem.2 ⟨(setL_mem.1 hx).1, (hsub x (setL_mem.1 hx).2).2⟩
        rw [pc_le _ _ h6 hc] at h3
        have h4 := factN_mono h3
        omega
      · rw [if_neg hm]
        simp only [List.length_nil]
        omega
  refine Nat.le_trans (h1 _) ?_
  rw [sum_ite]
  exact Nat.mul_le_mul_right _ (sub_count c h64)
theorem cost_most {l : List Tx} (h6 : l.length ≤ 6) {c : Nat} (hc : c < 2 ^ l.length) : costW l c ≤ 5796 := by
  unfold costW
  have h1 := mostW_mono h6
  rw [mostW_six] at h1
  have h2 : ∀ L : List Nat, sumW l c L ≤ (L.filter fun t => !c.testBit t).length * (2 ^ pcN c * factN (pcN c)) := by
    intro L
    induction L with
    | nil => exact Nat.zero_le _
    | cons t r ih =>
      unfold sumW at *
      rw [List.map_cons, List.sum_cons, List.filter_cons]
      cases hb : c.testBit t with
      | true => simpa using ih
      | false =>
        have := pairs_most h6 (t := t) hc
        simp only [Bool.not_false, if_true, List.length_cons, Nat.succ_mul]
        simp only [Bool.false_eq_true, if_false]
        omega
  have h3 := h2 (List.range l.length)
  have h4 := filter_both c.testBit (List.range l.length)
  have h5 := pc_le _ _ h6 hc
  unfold setL at h5
  rw [List.length_range, h5] at h4
  generalize ((List.range l.length).filter fun t => !c.testBit t).length = q at *
  have hp : pcN c ≤ 6 := by omega
  have hq : q ≤ 6 - pcN c := by omega
  have h7 : ∀ p, p ≤ 6 → (6 - p) * (2 ^ p * factN p) ≤ 3840 := by decide
  have h8 := h7 (pcN c) hp
  have h9 := Nat.mul_le_mul_right (2 ^ pcN c * factN (pcN c)) hq
  omega
theorem choices_lt {l : List Tx} {c : Nat} (h : c ∈ choicesS l) : c < 2 ^ l.length := by
  unfold choicesS choiceS at h
  have := (List.mem_filter.1 h).2
  rw [Bool.and_eq_true, decide_eq_true_eq] at this
  exact this.2
theorem world_known {B : Nat} {l : List Tx} (hself : ∀ i, i < l.length → bfrAt l i i = false) (h6 : l.length ≤ 6) (hB : 370944 ≤ B) : (worldS B l).1 ≠ 2 := by
  intro hc
  have h1 := (world_tells (B := B) hself (C := 5796) (choicesS l) 0 (Nat.zero_le _) (fun c hc => cost_most h6 (choices_lt hc))).2.2.1 hc
  have h2 := choices_count l
  have h3 := Nat.mul_le_mul_right 5796 h2
  omega
theorem world_yes {B : Nat} {l : List Tx} (hself : ∀ i, i < l.length → bfrAt l i i = false) (h6 : l.length ≤ 6) (hB : 370944 ≤ B) : (worldS B l).1 = 0 ↔ ∃ c ∈ choicesS l, goodW l c := by
  obtain ⟨h1, _, _, _, h5, h6'⟩ := world_tells (B := B) hself (C := 5796) (choicesS l) 0 (Nat.zero_le _) (fun c hc => cost_most h6 (choices_lt hc))
  constructor
  · intro h; exact ⟨_, (h5 h).1, (h5 h).2.1⟩
  · rintro ⟨c, hc, hg⟩
    rcases h1 with h | h | h
    · exact h
    · exact absurd hg (h6' h c hc)
    · exact absurd h (world_known hself h6 hB)
/-- of what is explained, each transaction saw what is ahead of it -/
theorem saw_ahead {l : List Tx} {c : Nat} {row : List Nat} (h : Expl l (2 ^ l.length - 1) c row) {t : Nat} (ht : t < l.length) (htc : c.testBit t = false) : sawW l c t := by
  have hmem : ∀ k, k ∈ row ↔ k < l.length := fun k => by
    rw [h.mem, two_bits]
    simp
  obtain ⟨p, hp, hpt⟩ := List.getElem_of_mem ((hmem t).2 ht)
  have hset : ∀ k, (bitsN (fun k => c.testBit k && (row.take p).contains k) l.length).testBit k = true ↔ c.testBit k = true ∧ k ∈ row.take p := fun k => by
    rw [bitsN_test]
    simp only [Bool.and_eq_true, decide_eq_true_eq, List.contains_eq_mem]
    constructor
    · rintro ⟨_, h2⟩; exact h2
    · intro h2; exact ⟨(hmem k).1 (List.mem_of_mem_take h2.2), h2⟩
  generalize bitsN (fun k => c.testBit k && (row.take p).contains k) l.length = set at *
  have hpos : ∀ a b (ha : a < row.length) (hb : b < row.length), a < b → bfrAt l row[b] row[a] = false := fun a b ha hb hab => List.pairwise_iff_getElem.1 h.keeps a b ha hb hab
  have hslt : set < 2 ^ l.length := by
    refine Nat.lt_pow_two_of_testBit set fun i hi => ?_
    cases hb : set.testBit i with
    | false => rfl
    | true =>
      have := (hmem i).1 (List.mem_of_mem_take ((hset i).1 hb).2)
      omega
  have hsub : set &&& c = set := by
    refine Nat.eq_of_testBit_eq fun j => ?_
    rw [Nat.testBit_and]
    cases hj : set.testBit j with
    | false => rfl
    | true => rw [((hset j).1 hj).1]; rfl
  have hsc : set ≤ c := by rw [← hsub]; exact Nat.and_le_right
  refine ⟨(set, (row.take p).filter c.testBit), pairsW_mem.2 ⟨hsc, may_iff.2 ⟨fun i hi hs => ?_, fun i hi hs hne hci k hk hkt => ?_⟩, hslt, rowsW_mem.2 ⟨(h.nodup.sublist (List.take_sublist _ _)).filter _, fun k => ?_, (h.keeps.sublist (List.take_sublist _ _)).filter _⟩⟩, ?_⟩
  · obtain ⟨h1, h2⟩ := (hset i).1 hs
    obtain ⟨q, hq, hqp, rfl⟩ := take_getElem_mem' h2
    refine ⟨fun hc' => ?_, h1, ?_⟩
    · rw [hc', htc] at h1; cases h1
    · have := hpos q p hq hp hqp
      rwa [hpt] at this
  · obtain ⟨q, hq, rfl⟩ := List.getElem_of_mem ((hmem i).2 hi)
    have hqp : p < q := by
      rcases Nat.lt_trichotomy q p with h1 | h1 | h1
      · have : row[q] ∈ row.take p := List.mem_take_iff_getElem.2 ⟨q, by omega, rfl⟩
        rw [(hset _).2 ⟨hci, this⟩] at hs
        cases hs
      · subst h1; exact absurd hpt hne
      · exact h1
    rcases hkt with rfl | hkt
    · have := hpos p q hp hq hqp
      rwa [hpt] at this
    · obtain ⟨_, h2⟩ := (hset k).1 hkt
      obtain ⟨r, hr, hrp, rfl⟩ := take_getElem_mem' h2
      exact hpos r q hr hq (by omega)
  · rw [List.mem_filter, hset]
    constructor
    · rintro ⟨h1, h2⟩; exact ⟨(hmem k).1 (List.mem_of_mem_take h1), h2, h1⟩
    · rintro ⟨_, h2, h1⟩; exact ⟨h1, h2⟩
  · rw [tell_iff]
    have h1 : row.take (p + 1) = row.take p ++ [t] := by rw [List.take_succ_eq_append_getElem hp, hpt]
    have h2 := legal_take l c row (p + 1) zeroM
    have h3 : legalG l c zeroM row = row.length := h.legal
    rw [h3, Nat.min_eq_right (by omega), h1, legal_app] at h2
    have hl1 : (row.take p).length = p := by rw [List.length_take]; omega
    have hle := legal_le l c (row.take p) zeroM
    unfold legalS
    rw [legal_app]
    by_cases hpg : legalG l c zeroM (row.take p) = (row.take p).length
    · rw [if_pos hpg] at h2
      have h4 := legal_filter l c c.testBit (row.take p) zeroM (fun _ _ hc => hc) hpg
      rw [if_pos h4, behind_filter, List.length_append, List.length_singleton]
      omega
    · rw [if_neg hpg] at h2; omega
/-- what is explained is consistent; what is consistent is strictly serializable -/
theorem world_wider {h : List Ev} (h0 : (checkS h).2 = 0) {B B' : Nat} (hB : 125184 ≤ B) (hB' : 370944 ≤ B') (hy : (searchS B (tableS h)).1 = 0) : (worldS B' (tableS h)).1 = 0 := by
  have h6 := table_six h0
  obtain ⟨c, hc, row, hr⟩ := (search_yes (self_table h) h6 hB).1 hy
  exact (world_yes (self_table h) h6 hB').2 ⟨c, hc, ⟨_, part_commits hr⟩, fun t ht htc => saw_ahead hr ht htc⟩
theorem world_strict {h : List Ev} (h0 : (checkS h).2 = 0) {B B' : Nat} (hB : 125184 ≤ B) (hB' : 370944 ≤ B') (hy : (worldS B' (tableS h)).1 = 0) : (strictS B (tableS h)).1 = 0 := by
  have h6 := table_six h0
  obtain ⟨c, hc, ⟨row, hr⟩, _⟩ := (world_yes (self_table h) h6 hB').1 hy
  exact (search_yes (self_table h) h6 hB).2 ⟨c, hc, row, hr⟩
/-- what a transaction saw, with it at its end -/
theorem saw_row {l : List Tx} {t c set : Nat} {row : List Nat} (ht : t < l.length) (h : (set, row) ∈ pairsW l t c) (hl : tellW l t c row = true) :
    keepsS l ((row ++ [t]).map fun x : Nat => (x : Int)) = true ∧ legalS l c (row ++ [t]) = (row ++ [t]).length ∧ ∀ k ∈ row ++ [t], k < l.length := by
  obtain ⟨_, h2, _, h4⟩ := pairsW_mem.1 h
  obtain ⟨e1, e2, e3⟩ := rowsW_mem.1 h4
  obtain ⟨m1, _⟩ := may_iff.1 h2
  refine ⟨?_, tell_iff.1 hl, fun k hk => ?_⟩
  · rw [keeps_nat, List.pairwise_append]
    refine ⟨(List.pairwise_and_iff.2 ⟨e1, e3⟩).imp fun h => ⟨fun hc => h.1 hc.symm, h.2⟩, List.pairwise_singleton _ _, fun b hb a ha => ?_⟩
    rw [List.mem_singleton.1 ha]
    obtain ⟨g1, g2⟩ := (e2 b).1 hb
    obtain ⟨k1, _, k3⟩ := m1 b g1 g2
    exact ⟨fun hc => k1 hc.symm, k3⟩
  · rcases List.mem_append.1 hk with hk | hk
    · exact ((e2 k).1 hk).1
    · rw [List.mem_singleton.1 hk]; exact ht
end Go.Proofs.YtpjfhdljagkefaaDoor.RPlain
