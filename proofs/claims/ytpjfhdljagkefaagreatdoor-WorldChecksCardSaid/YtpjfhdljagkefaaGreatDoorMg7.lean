/- Merged: WorB, StrC, WorC, ExtD. -/
import Derived.Test.YtpjfhdljagkefaaGreatDoorMg6
import Derived.Test.YtpjfhdljagkefaaGreatDoorMg2
import Derived.Test.YtpjfhdljagkefaaGreatDoorMg5
/- Plain words: consistency is between; how many steps there may be. -/
namespace Go.Proofs.YtpjfhdljagkefaaGreatDoor.WPlain
end Go.Proofs.YtpjfhdljagkefaaGreatDoor.WPlain
namespace Go.Proofs.YtpjfhdljagkefaaGreatDoor.QPlain
end Go.Proofs.YtpjfhdljagkefaaGreatDoor.QPlain
namespace Go.Proofs.YtpjfhdljagkefaaGreatDoor.RPlain
open WPlain QPlain

/-- is a choice one that tells? -/
def goodW (l : List Tx) (c : Nat) : Prop := (∃ row, Expl l c c row) ∧ ∀ t, t < l.length → c.testBit t = false → sawW l c t
def costW (l : List Tx) (c : Nat) : Nat := mostW l.length + sumW l c (List.range l.length)
theorem choice_tells {B : Nat} {l : List Tx} {c : Nat} (hself : ∀ i, i < l.length → bfrAt l i i = false) (s : Nat) (hs : s ≤ B) :
    ((choiceW B l c s).1 = 0 ∨ (choiceW B l c s).1 = 1 ∨ (choiceW B l c s).1 = 2) ∧ s ≤ (choiceW B l c s).2.2.2 ∧ (choiceW B l c s).2.2.2 ≤ B ∧ (choiceW B l c s).2.2.2 ≤ s + costW l c ∧
      ((choiceW B l c s).1 = 2 → B < s + costW l c) ∧ ((choiceW B l c s).1 ≠ 0 → (choiceW B l c s).2.1 = [] ∧ (choiceW B l c s).2.2.1 = []) ∧
      ((choiceW B l c s).1 = 0 → Expl l c c (choiceW B l c s).2.1 ∧ (choiceW B l c s).2.2.1.length = ((List.range l.length).filter fun t => !c.testBit t).length ∧
        ∀ j (hj : j < (choiceW B l c s).2.2.1.length) (hj2 : j < ((List.range l.length).filter fun t => !c.testBit t).length),
          (((choiceW B l c s).2.2.1[j]).1, ((choiceW B l c s).2.2.1[j]).2.1) ∈ pairsW l ((List.range l.length).filter fun t => !c.testBit t)[j] c ∧ tellW l ((List.range l.length).filter fun t => !c.testBit t)[j] c ((choiceW B l c s).2.2.1[j]).2.1 = true) ∧
      ((choiceW B l c s).1 = 1 → ¬ goodW l c) ∧ ((choiceW B l c s).1 = 0 → goodW l c) := by
  obtain ⟨a1, a2, a3⟩ := row_tells (B := B) (l := l) (who := c) (c := c) hself s hs
  obtain ⟨b1, b2, b3, b4, b5, b6, b7, b8⟩ := own_tells (B := B) (l := l) (c := c) (List.range l.length) (fromS B l c c (l.length + 1) [] s).2.2 a1.le
  have hge := a1.ge
  have hmost := a1.most
  unfold costW
  unfold choiceW
  by_cases hv : (fromS B l c c (l.length + 1) [] s).1 ≠ 0
  · rw [if_pos hv]
    refine ⟨a1.v, hge, a1.le, by dsimp only; omega, fun h => by have := (a1.full h).2; omega, fun _ => ⟨rfl, rfl⟩, fun h => absurd h hv, fun h => ?_, fun h => absurd h hv⟩
    rintro ⟨⟨row, hr⟩, _⟩
    exact a3 h row hr
  · rw [if_neg hv]
    have hv0 : (fromS B l c c (l.length + 1) [] s).1 = 0 := by simpa using hv
    by_cases hw : (ownG B l c (List.range l.length) (fromS B l c c (l.length + 1) [] s).2.2).1 ≠ 0
    · rw [if_pos hw]
      refine ⟨b1, by dsimp only; omega, b3, by dsimp only; omega, fun h => by have := b5 h; omega, fun _ => ⟨rfl, rfl⟩, fun h => absurd h hw, fun h => ?_, fun h => absurd h hw⟩
      rintro ⟨_, hg⟩
      obtain ⟨t, ht, hc, hn⟩ := b8 h
      exact hn (hg t (List.mem_range.1 ht) hc)
    · rw [if_neg hw]
      have hw0 : (ownG B l c (List.range l.length) (fromS B l c c (l.length + 1) [] s).2.2).1 = 0 := by simpa using hw
      obtain ⟨e1, e2⟩ := b7 hw0
      refine ⟨.inl rfl, by dsimp only; omega, b3, by dsimp only; omega, fun h => (by cases h), fun h => absurd rfl h, fun _ => ⟨a2 hv0, e1, e2⟩, fun h => (by cases h), fun _ => ⟨⟨_, a2 hv0⟩, fun t ht hc => ?_⟩⟩
      have hm : t ∈ (List.range l.length).filter fun t => !c.testBit t := List.mem_filter.2 ⟨List.mem_range.2 ht, by rw [hc]; rfl⟩
      obtain ⟨j, hj, he⟩ := List.getElem_of_mem hm
      have h1 := e2 j (by rw [e1]; exact hj) hj
      rw [he] at h1
      exact ⟨_, h1.1, h1.2⟩
theorem world_tells {B : Nat} {l : List Tx} (hself : ∀ i, i < l.length → bfrAt l i i = false) {C : Nat} : ∀ (cs : List Nat) (s : Nat), s ≤ B → (∀ c ∈ cs, costW l c ≤ C) →
    ((worldG B l cs s).1 = 0 ∨ (worldG B l cs s).1 = 1 ∨ (worldG B l cs s).1 = 2) ∧ (worldG B l cs s).2.2.2.2 ≤ B ∧ ((worldG B l cs s).1 = 2 → B < s + cs.length * C) ∧
      ((worldG B l cs s).1 ≠ 0 → (worldG B l cs s).2.1 = 0 ∧ (worldG B l cs s).2.2.1 = [] ∧ (worldG B l cs s).2.2.2.1 = []) ∧
      ((worldG B l cs s).1 = 0 → (worldG B l cs s).2.1 ∈ cs ∧ goodW l (worldG B l cs s).2.1 ∧ Expl l (worldG B l cs s).2.1 (worldG B l cs s).2.1 (worldG B l cs s).2.2.1 ∧
        (worldG B l cs s).2.2.2.1.length = ((List.range l.length).filter fun t => !(worldG B l cs s).2.1.testBit t).length ∧
        ∀ j (hj : j < (worldG B l cs s).2.2.2.1.length) (hj2 : j < ((List.range l.length).filter fun t => !(worldG B l cs s).2.1.testBit t).length),
          (((worldG B l cs s).2.2.2.1[j]).1, ((worldG B l cs s).2.2.2.1[j]).2.1) ∈ pairsW l ((List.range l.length).filter fun t => !(worldG B l cs s).2.1.testBit t)[j] (worldG B l cs s).2.1 ∧
            tellW l ((List.range l.length).filter fun t => !(worldG B l cs s).2.1.testBit t)[j] (worldG B l cs s).2.1 ((worldG B l cs s).2.2.2.1[j]).2.1 = true) ∧
      ((worldG B l cs s).1 = 1 → ∀ c ∈ cs, ¬ goodW l c) := by
  intro cs
  induction cs with
  | nil => intro s hs _; exact ⟨.inr (.inl rfl), hs, fun h => (by cases h), fun _ => ⟨rfl, rfl, rfl⟩, fun h => (by cases h), fun _ c hc => (by cases hc)⟩
  | cons c r ih =>
    intro s hs hC
    have hc := hC c (List.mem_cons_self ..)
    obtain ⟨a1, a2, a3, a4, a5, a6, a7, a8, a9⟩ := choice_tells (B := B) (l := l) (c := c) hself s hs
    have hmul : (c :: r).length * C = r.length * C + C := by rw [List.length_cons, Nat.succ_mul]
    rw [worldG]
    by_cases hv : (choiceW B l c s).1 = 1
    · rw [if_pos hv]
      obtain ⟨g1, g2, g3, g4, g5, g6⟩ := ih (choiceW B l c s).2.2.2 a3 (fun x hx => hC x (List.mem_cons_of_mem _ hx))
      refine ⟨g1, g2, fun h => by have := g3 h; omega, g4, fun h => ⟨List.mem_cons_of_mem _ (g5 h).1, (g5 h).2⟩, fun h x hx => ?_⟩
      rcases List.mem_cons.1 hx with rfl | hx
      · exact a8 hv
      · exact g6 h x hx
    · rw [if_neg hv]
      refine ⟨a1, a3, fun h => by have := a5 h; omega, fun h => ⟨if_neg h, (a6 h).1, (a6 h).2⟩, fun h => ?_, fun h => absurd h hv⟩
      rw [if_pos h]
      exact ⟨List.mem_cons_self .., a9 h, (a7 h).1, (a7 h).2.1, (a7 h).2.2⟩
/-- how many steps -/
theorem ext_most {n : Nat} {S : List Nat} {p : List Nat → Nat → Bool} (hp : ∀ row k, k < n → p row k = true → k ∈ S ∧ k ∉ row) : ∀ (s : Nat) (row : List Nat), row.Nodup → (∀ k ∈ row, k ∈ S) → S.Nodup → row.length + s = S.length → (extP n p s row).length ≤ factN s := by
  intro s
  induction s with
  | zero => intro row _ _ _ _; exact Nat.le_refl _
  | succ s ih =>
    intro row hn hr hnS hl
    rw [extP, List.length_flatMap]
    have h1 : ∀ L : List Nat, (∀ k ∈ L, k < n) → (L.map fun k => (if p row k = true then extP n p s (row ++ [k]) else []).length).sum ≤ (L.map fun k => if p row k = true then factN s else 0).sum := by
      intro L
      induction L with
      | nil => intro _; exact Nat.le_refl _
      | cons k r ihL =>
        intro hL
        rw [List.map_cons, List.map_cons, List.sum_cons, List.sum_cons]
        have h2 := ihL fun x hx => hL x (List.mem_cons_of_mem _ hx)
        by_cases hpk : p row k = true
        · rw [if_pos hpk, if_pos hpk]
          obtain ⟨h3, h4⟩ := hp row k (hL k (List.mem_cons_self ..)) hpk
          have h5 := ih (row ++ [k]) (List.nodup_append.2 ⟨hn, by simp, fun a ha b hb => by rw [List.mem_singleton.1 hb]; exact fun hc => h4 (hc ▸ ha)⟩) (fun x hx => by
            rcases List.mem_append.1 hx with hx | hx
            · exact hr x hx
            · rw [List.mem_singleton.1 hx]; exact h3) hnS (by rw [List.length_append, List.length_singleton]; omega)
          omega
        · rw [if_neg hpk, if_neg hpk]
          simp only [List.length_nil]
          omega
    refine Nat.le_trans (h1 _ fun k hk => List.mem_range.1 hk) ?_
    rw [sum_ite, factN, Nat.mul_comm (factN s)]
    refine Nat.mul_le_mul_right _ ?_
    have h6 := nodup_le (row ++ (List.range n).filter (p row)) S (List.nodup_append.2 ⟨hn, List.nodup_range.filter _, fun a ha b hb hc => by
      have h7 := List.mem_filter.1 hb
      exact (hp row b (List.mem_range.1 h7.1) h7.2).2 (hc ▸ ha)⟩) (fun x hx => by
        rcases List.mem_append.1 hx with hx | hx
        · exact hr x hx
        · have h7 := List.mem_filter.1 hx
          exact (hp row x (List.mem_range.1 h7.1) h7.2).1)
    rw [List.length_append] at h6
    omega
theorem rows_most (l : List Tx) (set : Nat) : (rowsW l set).length ≤ factN (setL l.length set).length := by
  refine ext_most (S := setL l.length set) (fun row k hk hpk => ?_) _ [] List.nodup_nil (fun k hk => by cases hk) (List.nodup_range.filter _) (by simp)
  unfold nxtW at hpk
  rw [Bool.and_eq_true, List.all_eq_true] at hpk
  refine ⟨setL_mem.2 ⟨hk, hpk.1⟩, fun hm => ?_⟩
  have := hpk.2 k hm
  simp at this
theorem factN_mono {a b : Nat} (h : a ≤ b) : factN a ≤ factN b := by
  induction b with
  | zero => rw [Nat.le_zero.1 h]; exact Nat.le_refl _
  | succ b ih =>
    rcases Nat.lt_or_ge a (b + 1) with h2 | h2
    · rw [factN, Nat.mul_succ]; exact Nat.le_trans (ih (by omega)) (Nat.le_add_left _ _)
    · rw [show a = b + 1 from by omega]; exact Nat.le_refl _
theorem sub_count : ∀ c, c < 64 → ((List.range (c + 1)).filter fun s => s &&& c == s).length ≤ 2 ^ pcN c := by decide +kernel
theorem pc_le (n c : Nat) (h6 : n ≤ 6) (hc : c < 2 ^ n) : (setL n c).length = pcN c := by
  unfold setL pcN
  obtain ⟨d, hd⟩ : ∃ d, 6 = n + d := ⟨6 - n, by omega⟩
  rw [hd, List.range_add, List.filter_append, List.length_append]
  have h1 : ((List.range d).map (n + ·)).filter c.testBit = [] := by
    rw [List.filter_eq_nil_iff]
    intro m hm
    obtain ⟨x, _, rfl⟩ := List.mem_map.1 hm
    rw [Nat.testBit_lt_two_pow (Nat.lt_of_lt_of_le hc (Nat.pow_le_pow_right (by decide) (by omega)))]
    simp
  rw [h1, List.length_nil, Nat.add_zero]
theorem take_getElem_mem' {α : Type} {l : List α} {k : Nat} {b : α} (h : b ∈ l.take k) : ∃ (j : Nat) (hj : j < l.length), j < k ∧ l[j] = b := by
  obtain ⟨j, hj, rfl⟩ := List.mem_take_iff_getElem.1 h
  exact ⟨j, by omega, by omega, rfl⟩
theorem pairs_most {l : List Tx} (h6 : l.length ≤ 6) {t c : Nat} (hc : c < 2 ^ l.length) : (pairsW l t c).length ≤ 2 ^ pcN c * factN (pcN c) := by
  have h64 : c < 64 := Nat.lt_of_lt_of_le hc (Nat.pow_le_pow_right (n := 2) (i := l.length) (j := 6) (by decide) h6)
  unfold pairsW
  rw [List.length_flatMap]
  have h1 : ∀ L : List Nat, (L.map fun set => (if mayW l t set c = true ∧ set < 2 ^ l.length then (rowsW l set).map fun r => (set, r) else []).length).sum ≤ (L.map fun set => if (set &&& c == set) = true then factN (pcN c) else 0).sum := by
    intro L
    induction L with
    | nil => exact Nat.le_refl _
    | cons set r ih =>
      rw [List.map_cons, List.map_cons, List.sum_cons, List.sum_cons]
      by_cases hm : mayW l t set c = true ∧ set < 2 ^ l.length
      · rw [if_pos hm, List.length_map]
        have hsub : ∀ k, set.testBit k = true → k < l.length ∧ c.testBit k = true := fun k hk => by
          have hkl : k < l.length := by
            rcases Nat.lt_or_ge k l.length with h | h
            · exact h
            · rw [Nat.testBit_lt_two_pow (Nat.lt_of_lt_of_le hm.2 (Nat.pow_le_pow_right (by decide) h))] at hk
              cases hk
          exact ⟨hkl, ((may_iff.1 hm.1).1 k hkl hk).2.1⟩
        have hand : (set &&& c == set) = true := by
          rw [beq_iff_eq]
          refine Nat.eq_of_testBit_eq fun j => ?_
          rw [Nat.testBit_and]
          cases hj : set.testBit j with
          | false => rfl
          | true => rw [(hsub j hj).2]; rfl
        rw [if_pos hand]
        have h2 := rows_most l set
        have h3 : (setL l.length set).length ≤ (setL l.length c).length := nodup_le _ _ (List.nodup_range.filter _) fun x hx => setL_mem.2 ⟨(setL_mem.1 hx).1, (hsub x (setL_mem.1 hx).2).2⟩
        rw [pc_le _ _ h6 hc] at h3
        have h4 := factN_mono h3
        omega
      · rw [if_neg hm]
        simp only [List.length_nil]
        omega
  refine Nat.le_trans (h1 _) ?_
  rw [sum_ite]
  exact Nat.mul_le_mul_right _ (sub_count c h64)
theorem cost_most {l : List Tx} (h6 : l.length ≤ 6) {c : Nat} (hc : c < 2 ^ l.length) : costW l c ≤ 5796 := by
  unfold costW
  have h1 := mostW_mono h6
  rw [mostW_six] at h1
  have h2 : ∀ L : List Nat, sumW l c L ≤ (L.filter fun t => !c.testBit t).length * (2 ^ pcN c * factN (pcN c)) := by
    intro L
    induction L with
    | nil => exact Nat.zero_le _
    | cons t r ih =>
      unfold sumW at *
      rw [List.map_cons, List.sum_cons, List.filter_cons]
      cases hb : c.testBit t with
      | true => simpa using ih
      | false =>
        have := pairs_most h6 (t := t) hc
        simp only [Bool.not_false, if_true, List.length_cons, Nat.succ_mul]
        simp only [Bool.false_eq_true, if_false]
        omega
  have h3 := h2 (List.range l.length)
  have h4 := filter_both c.testBit (List.range l.length)
  have h5 := pc_le _ _ h6 hc
  unfold setL at h5
  rw [List.length_range, h5] at h4
  generalize ((List.range l.length).filter fun t => !c.testBit t).length = q at *
  have hp : pcN c ≤ 6 := by omega
  have hq : q ≤ 6 - pcN c := by omega
  have h7 : ∀ p, p ≤ 6 → (6 - p) * (2 ^ p * factN p) ≤ 3840 := by decide
  have h8 := h7 (pcN c) hp
  have h9 := Nat.mul_le_mul_right (2 ^ pcN c * factN (pcN c)) hq
  omega
theorem choices_lt {l : List Tx} {c : Nat} (h : c ∈ choicesS l) : c < 2 ^ l.length := by
  unfold choicesS choiceS at h
  have := (List.mem_filter.1 h).2
  rw [Bool.and_eq_true, decide_eq_true_eq] at this
  exact this.2
theorem world_known {B : Nat} {l : List Tx} (hself : ∀ i, i < l.length → bfrAt l i i = false) (h6 : l.length ≤ 6) (hB : 370944 ≤ B) : (worldS B l).1 ≠ 2 := by
  intro hc
  have h1 := (world_tells (B := B) hself (C := 5796) (choicesS l) 0 (Nat.zero_le _) (fun c hc => cost_most h6 (choices_lt hc))).2.2.1 hc
  have h2 := choices_count l
  have h3 := Nat.mul_le_mul_right 5796 h2
  omega
theorem world_yes {B : Nat} {l : List Tx} (hself : ∀ i, i < l.length → bfrAt l i i = false) (h6 : l.length ≤ 6) (hB : 370944 ≤ B) : (worldS B l).1 = 0 ↔ ∃ c ∈ choicesS l, goodW l c := by
  obtain ⟨h1, _, _, _, h5, h6'⟩ := world_tells (B := B) hself (C := 5796) (choicesS l) 0 (Nat.zero_le _) (fun c hc => cost_most h6 (choices_lt hc))
  constructor
  · intro h; exact ⟨_, (h5 h).1, (h5 h).2.1⟩
  · rintro ⟨c, hc, hg⟩
    rcases h1 with h | h | h
    · exact h
    · exact absurd hg (h6' h c hc)
    · exact absurd h (world_known hself h6 hB)
/-- of what is explained, each transaction saw what is ahead of it -/
theorem saw_ahead {l : List Tx} {c : Nat} {row : List Nat} (h : Expl l (2 ^ l.length - 1) c row) {t : Nat} (ht : t < l.length) (htc : c.testBit t = false) : sawW l c t := by
  have hmem : ∀ k, k ∈ row ↔ k < l.length := fun k => by
    rw [h.mem, two_bits]
    simp
  obtain ⟨p, hp, hpt⟩ := List.getElem_of_mem ((hmem t).2 ht)
  have hset : ∀ k, (bitsN (fun k => c.testBit k && (row.take p).contains k) l.length).testBit k = true ↔ c.testBit k = true ∧ k ∈ row.take p := fun k => by
    rw [bitsN_test]
    simp only [Bool.and_eq_true, decide_eq_true_eq, List.contains_eq_mem]
    constructor
    · rintro ⟨_, h2⟩; exact h2
    · intro h2; exact ⟨(hmem k).1 (List.mem_of_mem_take h2.2), h2⟩
  generalize bitsN (fun k => c.testBit k && (row.take p).contains k) l.length = set at *
  have hpos : ∀ a b (ha : a < row.length) (hb : b < row.length), a < b → bfrAt l row[b] row[a] = false := fun a b ha hb hab => List.pairwise_iff_getElem.1 h.keeps a b ha hb hab
  have hslt : set < 2 ^ l.length := by
    refine Nat.lt_pow_two_of_testBit set fun i hi => ?_
    cases hb : set.testBit i with
    | false => rfl
    | true =>
      have := (hmem i).1 (List.mem_of_mem_take ((hset i).1 hb).2)
      omega
  have hsub : set &&& c = set := by
    refine Nat.eq_of_testBit_eq fun j => ?_
    rw [Nat.testBit_and]
    cases hj : set.testBit j with
    | false => rfl
    | true => rw [((hset j).1 hj).1]; rfl
  have hsc : set ≤ c := by rw [← hsub]; exact Nat.and_le_right
  refine ⟨(set, (row.take p).filter c.testBit), pairsW_mem.2 ⟨hsc, may_iff.2 ⟨fun i hi hs => ?_, fun i hi hs hne hci k hk hkt => ?_⟩, hslt, rowsW_mem.2 ⟨(h.nodup.sublist (List.take_sublist _ _)).filter _, fun k => ?_, (h.keeps.sublist (List.take_sublist _ _)).filter _⟩⟩, ?_⟩
  · obtain ⟨h1, h2⟩ := (hset i).1 hs
    obtain ⟨q, hq, hqp, rfl⟩ := take_getElem_mem' h2
    refine ⟨fun hc' => ?_, h1, ?_⟩
    · rw [hc', htc] at h1; cases h1
    · have := hpos q p hq hp hqp
      rwa [hpt] at this
  · obtain ⟨q, hq, rfl⟩ := List.getElem_of_mem ((hmem i).2 hi)
    have hqp : p < q := by
      rcases Nat.lt_trichotomy q p with h1 | h1 | h1
      · have : row[q] ∈ row.take p := List.mem_take_iff_getElem.2 ⟨q, by omega, rfl⟩
        rw [(hset _).2 ⟨hci, this⟩] at hs
        cases hs
      · subst h1; exact absurd hpt hne
      · exact h1
    rcases hkt with rfl | hkt
    · have := hpos p q hp hq hqp
      rwa [hpt] at this
    · obtain ⟨_, h2⟩ := (hset k).1 hkt
      obtain ⟨r, hr, hrp, rfl⟩ := take_getElem_mem' h2
      exact hpos r q hr hq (by omega)
  · rw [List.mem_filter, hset]
    constructor
    · rintro ⟨h1, h2⟩; exact ⟨(hmem k).1 (List.mem_of_mem_take h1), h2, h1⟩
    · rintro ⟨_, h2, h1⟩; exact ⟨h1, h2⟩
  · rw [tell_iff]
    have h1 : row.take (p + 1) = row.take p ++ [t] := by rw [List.take_succ_eq_append_getElem hp, hpt]
    have h2 := legal_take l c row (p + 1) zeroM
    have h3 : legalG l c zeroM row = row.length := h.legal
    rw [h3, Nat.min_eq_right (by omega), h1, legal_app] at h2
    have hl1 : (row.take p).length = p := by rw [List.length_take]; omega
    have hle := legal_le l c (row.take p) zeroM
    unfold legalS
    rw [legal_app]
    by_cases hpg : legalG l c zeroM (row.take p) = (row.take p).length
    · rw [if_pos hpg] at h2
      have h4 := legal_filter l c c.testBit (row.take p) zeroM (fun _ _ hc => hc) hpg
      rw [if_pos h4, behind_filter, List.length_append, List.length_singleton]
      omega
    · rw [if_neg hpg] at h2; omega
/-- what is explained is consistent; what is consistent is strictly serializable -/
theorem world_wider {h : List Ev} (h0 : (checkS h).2 = 0) {B B' : Nat} (hB : 125184 ≤ B) (hB' : 370944 ≤ B') (hy : (searchS B (tableS h)).1 = 0) : (worldS B' (tableS h)).1 = 0 := by
  have h6 := table_six h0
  obtain ⟨c, hc, row, hr⟩ := (search_yes (self_table h) h6 hB).1 hy
  exact (world_yes (self_table h) h6 hB').2 ⟨c, hc, ⟨_, part_commits hr⟩, fun t ht htc => saw_ahead hr ht htc⟩
theorem world_strict {h : List Ev} (h0 : (checkS h).2 = 0) {B B' : Nat} (hB : 125184 ≤ B) (hB' : 370944 ≤ B') (hy : (worldS B' (tableS h)).1 = 0) : (strictS B (tableS h)).1 = 0 := by
  have h6 := table_six h0
  obtain ⟨c, hc, ⟨row, hr⟩, _⟩ := (world_yes (self_table h) h6 hB').1 hy
  exact (search_yes (self_table h) h6 hB).2 ⟨c, hc, row, hr⟩
/-- what a transaction saw, with it at its end -/
theorem saw_row {l : List Tx} {t c set : Nat} {row : List Nat} (ht : t < l.length) (h : (set, row) ∈ pairsW l t c) (hl : tellW l t c row = true) :
    keepsS l ((row ++ [t]).map fun x : Nat => (x : Int)) = true ∧ legalS l c (row ++ [t]) = (row ++ [t]).length ∧ ∀ k ∈ row ++ [t], k < l.length := by
  obtain ⟨_, h2, _, h4⟩ := pairsW_mem.1 h
  obtain ⟨e1, e2, e3⟩ := rowsW_mem.1 h4
  obtain ⟨m1, _⟩ := may_iff.1 h2
  refine ⟨?_, tell_iff.1 hl, fun k hk => ?_⟩
  · rw [keeps_nat, List.pairwise_append]
    refine ⟨(List.pairwise_and_iff.2 ⟨e1, e3⟩).imp fun h => ⟨fun hc => h.1 hc.symm, h.2⟩, List.pairwise_singleton _ _, fun b hb a ha => ?_⟩
    rw [List.mem_singleton.1 ha]
    obtain ⟨g1, g2⟩ := (e2 b).1 hb
    obtain ⟨k1, _, k3⟩ := m1 b g1 g2
    exact ⟨fun hc => k1 hc.symm, k3⟩
  · rcases List.mem_append.1 hk with hk | hk
    · exact ((e2 k).1 hk).1
    · rw [List.mem_singleton.1 hk]; exact ht
end Go.Proofs.YtpjfhdljagkefaaGreatDoor.RPlain
/- Plain words: what is left of a budget, and the strict check choice by choice. -/
namespace Go.Proofs.YtpjfhdljagkefaaGreatDoor.WPlain
end Go.Proofs.YtpjfhdljagkefaaGreatDoor.WPlain
namespace Go.Proofs.YtpjfhdljagkefaaGreatDoor.QPlain
end Go.Proofs.YtpjfhdljagkefaaGreatDoor.QPlain
namespace Go.Proofs.YtpjfhdljagkefaaGreatDoor.RPlain
open WPlain QPlain

/-- more steps behind it -/
def shN (d : Nat) (x : Nat × List Nat × Nat) : Nat × List Nat × Nat := (x.1, x.2.1, x.2.2 + d)
theorem loop_shift {B d : Nat} {rec rec' : List Nat → Nat → Nat × List Nat × Nat} {l : List Tx} {c : Nat} {lft row : List Nat} :
    ∀ (r : List Nat) (s : Nat), (∀ k ∈ r, ∀ s, rec' (row ++ [k]) (s + d) = shN d (rec (row ++ [k]) s)) → loopS (B + d) rec' l c lft row r (s + d) = shN d (loopS B rec l c lft row r s) := by
  intro r
  induction r with
  | nil => intro s _; rfl
  | cons k r ih =>
    intro s hrec
    have hr : ∀ x ∈ r, ∀ s, rec' (row ++ [x]) (s + d) = shN d (rec (row ++ [x]) s) := fun x hx => hrec x (List.mem_cons_of_mem _ hx)
    have h1 := hrec k (List.mem_cons_self ..) (s + 1)
    rw [show s + 1 + d = s + d + 1 from by omega] at h1
    rw [loopS, loopS]
    by_cases hf : freeS l lft k = false
    · rw [if_pos hf, if_pos hf]; exact ih s hr
    · rw [if_neg hf, if_neg hf]
      by_cases hB : s = B
      · rw [if_pos hB, if_pos (by omega), hB]; rfl
      · rw [if_neg hB, if_neg (by omega)]
        by_cases ho : okL l c (row ++ [k]) = true
        · rw [if_pos ho, if_pos ho, h1]
          by_cases hv : (rec (row ++ [k]) (s + 1)).1 = 1
          · rw [if_pos hv, if_pos (show (shN d (rec (row ++ [k]) (s + 1))).1 = 1 from hv)]
            exact ih _ hr
          · rw [if_neg hv, if_neg (show ¬ (shN d (rec (row ++ [k]) (s + 1))).1 = 1 from hv)]
        · rw [if_neg ho, if_neg ho, show s + d + 1 = s + 1 + d from by omega]
          exact ih _ hr
theorem from_shift {B d : Nat} {l : List Tx} {who c : Nat} : ∀ (f : Nat) (row : List Nat) (s : Nat), fromS (B + d) l who c f row (s + d) = shN d (fromS B l who c f row s) := by
  intro f
  induction f with
  | zero => intro row s; rfl
  | succ f ih =>
    intro row s
    rw [fromS, fromS]
    by_cases hl : leftS l who row = []
    · rw [if_pos hl, if_pos hl]; rfl
    · rw [if_neg hl, if_neg hl]
      exact loop_shift _ s fun k _ s => ih (row ++ [k]) s
end Go.Proofs.YtpjfhdljagkefaaGreatDoor.RPlain
/- Plain words for stage 15's walks: the rows of a set level by level; a budget's rest; the pairs one after the other; errors; what is found. -/
namespace Go.Proofs.YtpjfhdljagkefaaGreatDoor.WPlain
end Go.Proofs.YtpjfhdljagkefaaGreatDoor.WPlain
namespace Go.Proofs.YtpjfhdljagkefaaGreatDoor.QPlain
end Go.Proofs.YtpjfhdljagkefaaGreatDoor.QPlain
namespace Go.Proofs.YtpjfhdljagkefaaGreatDoor.RPlain
open WPlain QPlain

/-- a row's ways to go on, within a set -/
def goW (l : List Tx) (set : Nat) (row : List Nat) : List (List Nat) := ((List.range l.length).filter fun k => set.testBit k && !row.contains k && keepsS l ((row ++ [k]).map fun x : Nat => (x : Int))).map fun k => row ++ [k]
/-- the rows behind the first i places -/
def lvlW (l : List Tx) (set : Nat) : Nat → List (List Nat)
  | 0 => [[]]
  | i + 1 => if set.testBit i = true then (lvlW l set i).flatMap (goW l set) else lvlW l set i
theorem setL_succ (n set : Nat) : setL (n + 1) set = setL n set ++ (if set.testBit n = true then [n] else []) := by
  unfold setL
  rw [List.range_succ, List.filter_append]
  congr 1
  by_cases h : set.testBit n = true
  · simp [h]
  · simp [h]
theorem goW_ext {l : List Tx} {set s : Nat} {r : List Nat} (hr : r ∈ extP l.length (nxtW l set) s []) : goW l set r = ((List.range l.length).filter (nxtW l set r)).map fun k => r ++ [k] := by
  rw [ext_filter] at hr
  obtain ⟨t, ht, rfl⟩ := List.mem_map.1 hr
  rw [List.mem_filter, stepsW_iff] at ht
  obtain ⟨_, _, hp, _⟩ := ht
  rw [List.nil_append]
  unfold goW
  congr 1
  refine List.filter_congr fun k _ => ?_
  rw [Bool.eq_iff_iff]
  unfold nxtW
  simp only [Bool.and_eq_true, Bool.not_eq_true', List.all_eq_true, decide_eq_false_iff_not]
  rw [keeps_nat, List.pairwise_append]
  constructor
  · rintro ⟨⟨h1, h2⟩, _, _, h3⟩
    refine ⟨h1, fun b hb => ?_⟩
    have := h3 b hb k (List.mem_cons_self ..)
    exact ⟨this.1, this.2⟩
  · rintro ⟨h1, h2⟩
    refine ⟨⟨h1, ?_⟩, hp, List.pairwise_singleton _ _, fun b hb a ha => ?_⟩
    · rw [← Bool.not_eq_true, List.contains_iff_mem]
      intro hc
      exact (h2 k hc).1 rfl
    · rw [List.mem_singleton] at ha
      subst ha
      exact h2 b hb
theorem lvlW_ext (l : List Tx) (set : Nat) : ∀ i, lvlW l set i = extP l.length (nxtW l set) (setL i set).length [] := by
  intro i
  induction i with
  | zero => rfl
  | succ i ih =>
    rw [lvlW, setL_succ]
    by_cases h : set.testBit i = true
    · rw [if_pos h, if_pos h, List.length_append, List.length_singleton, ext_snoc, ih]
      have hc : ∀ L : List (List Nat), (∀ r ∈ L, r ∈ extP l.length (nxtW l set) (setL i set).length []) → L.flatMap (goW l set) = L.flatMap fun r => ((List.range l.length).filter (nxtW l set r)).map fun k => r ++ [k] := by
        intro L
        induction L with
        | nil => intro _; rfl
        | cons r q ihq =>
          intro hL
          rw [List.flatMap_cons, List.flatMap_cons, ihq (fun x hx => hL x (List.mem_cons_of_mem _ hx)), goW_ext (hL r (List.mem_cons_self ..))]
      exact hc _ fun _ h => h
    · rw [if_neg h, if_neg h, List.append_nil, ih]
/-- the reference's rows of a set are those of the words -/
theorem lvlW_rows (l : List Tx) (set : Nat) : lvlW l set l.length = rowsW l set := lvlW_ext l set l.length
/-- more steps behind it -/
def shF (d : Nat) (x : Nat × Nat × List Nat × Nat) : Nat × Nat × List Nat × Nat := (x.1, x.2.1, x.2.2.1, x.2.2.2 + d)
theorem oneW_shift {B d : Nat} {l : List Tx} {t c : Nat} : ∀ (ps : List (Nat × List Nat)) (s : Nat), oneG (B + d) l t c ps (s + d) = shF d (oneG B l t c ps s) := by
  intro ps
  induction ps with
  | nil => intro s; rfl
  | cons p r ih =>
    intro s
    rw [oneG, oneG]
    by_cases hB : s = B
    · rw [if_pos hB, if_pos (by omega)]; rfl
    · rw [if_neg hB, if_neg (by omega)]
      by_cases ht : tellW l t c p.2 = true
      · rw [if_pos ht, if_pos ht]
        unfold shF
        refine Prod.ext rfl (Prod.ext rfl (Prod.ext rfl ?_))
        show s + d + 1 = s + 1 + d
        omega
      · rw [if_neg ht, if_neg ht, ← ih (s + 1), show s + 1 + d = s + d + 1 from by omega]
/-- with what is left of a budget -/
theorem oneW_left {B s : Nat} (hs : s ≤ B) (l : List Tx) (t c : Nat) : oneS B l t c s = shF s (oneS (B - s) l t c 0) := by
  have h := oneW_shift (B := B - s) (d := s) (l := l) (t := t) (c := c) (pairsW l t c) 0
  rw [Nat.sub_add_cancel hs, Nat.zero_add] at h
  exact h
/-- the pairs of one set -/
def setP (l : List Tx) (t c set : Nat) : List (Nat × List Nat) := if mayW l t set c = true ∧ set < 2 ^ l.length then (rowsW l set).map fun r => (set, r) else []
/-- the pairs from a set on -/
def pairsD (l : List Tx) (t c a : Nat) : List (Nat × List Nat) := ((List.range (c + 1)).drop a).flatMap (setP l t c)
theorem pairsD_zero (l : List Tx) (t c : Nat) : pairsD l t c 0 = pairsW l t c := rfl
theorem pairsD_next {l : List Tx} {t c a : Nat} (ha : a ≤ c) : pairsD l t c a = setP l t c a ++ pairsD l t c (a + 1) := by
  unfold pairsD
  rw [List.drop_eq_getElem_cons (by rw [List.length_range]; omega), List.flatMap_cons, List.getElem_range]
theorem pairsD_end (l : List Tx) (t c : Nat) : pairsD l t c (c + 1) = [] := by
  unfold pairsD
  rw [List.drop_eq_nil_of_le (by rw [List.length_range]; exact Nat.le_refl _)]
  rfl
/-- the search for one's own, with what is left -/
theorem ownW_step {B : Nat} {l : List Tx} {c t s : Nat} (hs : s ≤ B) (hc : c.testBit t = false) (r : List Nat) :
    ownG B l c (t :: r) s = if (oneS (B - s) l t c 0).1 ≠ 0 then ((oneS (B - s) l t c 0).1, [], s + (oneS (B - s) l t c 0).2.2.2)
      else if (ownG B l c r (s + (oneS (B - s) l t c 0).2.2.2)).1 ≠ 0 then ((ownG B l c r (s + (oneS (B - s) l t c 0).2.2.2)).1, [], (ownG B l c r (s + (oneS (B - s) l t c 0).2.2.2)).2.2)
      else (0, ((oneS (B - s) l t c 0).2.1, (oneS (B - s) l t c 0).2.2.1, (oneS (B - s) l t c 0).2.2.2) :: (ownG B l c r (s + (oneS (B - s) l t c 0).2.2.2)).2.1, (ownG B l c r (s + (oneS (B - s) l t c 0).2.2.2)).2.2) := by
  rw [ownG, if_neg (by rw [hc]; decide), oneW_left hs]
  unfold shF
  simp only
  rw [Nat.add_comm (oneS (B - s) l t c 0).2.2.2 s, Nat.add_sub_cancel_left]
theorem ownW_skip {B : Nat} {l : List Tx} {c t s : Nat} (hc : c.testBit t = true) (r : List Nat) : ownG B l c (t :: r) s = ownG B l c r s := by
  rw [ownG, if_pos hc]
/-- a choice, with what is left for its row -/
theorem choiceW_step {B : Nat} {l : List Tx} {c s : Nat} (hs : s ≤ B) :
    choiceW B l c s = if (searchG (B - s) l (fun _ => c) [c] 0).1 ≠ 0 then ((searchG (B - s) l (fun _ => c) [c] 0).1, [], [], s + (searchG (B - s) l (fun _ => c) [c] 0).2.2.2)
      else if (ownG B l c (List.range l.length) (s + (searchG (B - s) l (fun _ => c) [c] 0).2.2.2)).1 ≠ 0 then ((ownG B l c (List.range l.length) (s + (searchG (B - s) l (fun _ => c) [c] 0).2.2.2)).1, [], [], (ownG B l c (List.range l.length) (s + (searchG (B - s) l (fun _ => c) [c] 0).2.2.2)).2.2)
      else (0, (searchG (B - s) l (fun _ => c) [c] 0).2.2.1, (ownG B l c (List.range l.length) (s + (searchG (B - s) l (fun _ => c) [c] 0).2.2.2)).2) := by
  have h1 := from_shift (B := B - s) (d := s) (l := l) (who := c) (c := c) (l.length + 1) [] 0
  rw [Nat.sub_add_cancel hs, Nat.zero_add] at h1
  have h2 : searchG (B - s) l (fun _ => c) [c] 0 = ((fromS (B - s) l c c (l.length + 1) [] 0).1, (if (fromS (B - s) l c c (l.length + 1) [] 0).1 = 0 then c else 0), (if (fromS (B - s) l c c (l.length + 1) [] 0).1 = 1 then [] else (fromS (B - s) l c c (l.length + 1) [] 0).2.1), (fromS (B - s) l c c (l.length + 1) [] 0).2.2) := by
    rw [searchG]
    by_cases hv : (fromS (B - s) l c c (l.length + 1) [] 0).1 = 1
    · rw [if_pos hv, searchG, if_neg (show ¬ (fromS (B - s) l c c (l.length + 1) [] 0).1 = 0 by omega), if_pos hv, hv]
    · rw [if_neg hv, if_neg hv]
  unfold choiceW
  rw [h1, h2]
  unfold shN
  simp only
  rw [Nat.add_comm (fromS (B - s) l c c (l.length + 1) [] 0).2.2 s]
  by_cases hv : (fromS (B - s) l c c (l.length + 1) [] 0).1 ≠ 0
  · rw [if_pos hv, if_pos hv]
  · rw [if_neg hv, if_neg hv, if_neg (show ¬ (fromS (B - s) l c c (l.length + 1) [] 0).1 = 1 by omega)]
end Go.Proofs.YtpjfhdljagkefaaGreatDoor.RPlain
/- Plain words: the program's rows (places left as bits), and its look for ways back. -/
namespace Go.Proofs.YtpjfhdljagkefaaGreatDoor.RPlain

/-- a number without the bits of another -/
def lessN (a b : Nat) : Nat := a &&& (4294967295 - b)
theorem lessN_test {a b : Nat} (ha : a < 4294967296) (hb : b < 4294967296) (k : Nat) : (lessN a b).testBit k = (a.testBit k && !b.testBit k) := by
  have h1 : (4294967295 - b).testBit k = (decide (k < 32) && !b.testBit k) := by
    have := Nat.testBit_two_pow_sub_succ (x := b) (n := 32) hb k
    rwa [show 2 ^ 32 - (b + 1) = 4294967295 - b from by omega] at this
  unfold lessN
  rw [Nat.testBit_and, h1]
  by_cases hk : k < 32
  · rw [decide_eq_true hk, Bool.true_and]
  · have : a.testBit k = false := Nat.testBit_lt_two_pow (Nat.lt_of_lt_of_le ha (Nat.pow_le_pow_right (n := 2) (i := 32) (by decide) (by omega)))
    rw [this]; rfl
theorem lessN_le (a b : Nat) : lessN a b ≤ a := Nat.and_le_left
/-- what may come next: of the places left those that none of those left is before, up to a place -/
def nextS (A : List Nat) (left : Nat) : Nat → Nat
  | 0 => left
  | j + 1 => if left.testBit j = true then lessN (nextS A left j) (A.getD j 0) else nextS A left j
theorem nextS_le (A : List Nat) (left : Nat) : ∀ j, nextS A left j ≤ left := by
  intro j
  induction j with
  | zero => exact Nat.le_refl _
  | succ j ih =>
    rw [nextS]
    split
    · exact Nat.le_trans (lessN_le _ _) ih
    · exact ih
theorem nextS_test {A : List Nat} {left : Nat} (hA : ∀ a ∈ A, a < 4294967296) (hl : left < 4294967296) : ∀ (j k : Nat), (nextS A left j).testBit k = (left.testBit k && (List.range j).all fun i => !left.testBit i || !aft A i k) := by
  intro j
  induction j with
  | zero => intro k; simp [nextS]
  | succ j ih =>
    intro k
    have hg : A.getD j 0 < 4294967296 := by
      rw [List.getD_eq_getElem?_getD]
      cases h : A[j]? with
      | none => decide
      | some a => exact hA a (List.mem_of_getElem? h)
    rw [nextS, List.range_succ, List.all_append, ← Bool.and_assoc, ← ih]
    split
    · rename_i hb
      rw [lessN_test (Nat.lt_of_le_of_lt (nextS_le _ _ _) hl) hg]
      simp [hb, aft]
    · rename_i hb
      simp [hb]
/-- the places left behind a row -/
def leftA (n : Nat) (row : List Nat) : Nat := row.foldl (fun acc k => lessN acc (2 ^ k)) (2 ^ n - 1)
theorem leftA_snoc (n : Nat) (row : List Nat) (k : Nat) : leftA n (row ++ [k]) = lessN (leftA n row) (2 ^ k) := by simp [leftA]
theorem leftA_lt {n : Nat} (hn : n ≤ 6) (row : List Nat) : leftA n row < 64 := by
  have h0 : 2 ^ n ≤ 2 ^ 6 := Nat.pow_le_pow_right (by decide) hn
  have hp : 0 < 2 ^ n := Nat.two_pow_pos n
  have : ∀ (r : List Nat) (x : Nat), x < 64 → r.foldl (fun acc k => lessN acc (2 ^ k)) x < 64 := by
    intro r
    induction r with
    | nil => intro x h; exact h
    | cons k t ih => intro x h; exact ih _ (Nat.lt_of_le_of_lt (lessN_le _ _) h)
  exact this row _ (by omega)
theorem left_fold (j : Nat) : ∀ (row : List Nat) (x : Nat), x < 64 → (∀ k ∈ row, k < 32) → (row.foldl (fun acc k => lessN acc (2 ^ k)) x).testBit j = (x.testBit j && !row.contains j) := by
  intro row
  induction row with
  | nil => intro x _ _; simp
  | cons k r ih =>
    intro x hx h
    have hp : 2 ^ k < 4294967296 := Nat.pow_lt_pow_right (a := 2) (m := k) (n := 32) (by decide) (h k (List.mem_cons_self ..))
    rw [List.foldl_cons, ih _ (Nat.lt_of_le_of_lt (lessN_le _ _) hx) (fun y hy => h y (List.mem_cons_of_mem _ hy)), lessN_test (by omega) hp, Nat.testBit_two_pow, List.contains_cons]
    by_cases hj : j = k
    · subst hj; simp
    · have h1 : ¬ k = j := fun e => hj e.symm
      have h2 : (j == k) = false := by simpa using hj
      rw [h2, decide_eq_false h1]
      simp
theorem leftA_test {n : Nat} (hn : n ≤ 6) (row : List Nat) (j : Nat) (h : ∀ k ∈ row, k < n) : (leftA n row).testBit j = (decide (j < n) && !row.contains j) := by
  have h0 : 2 ^ n ≤ 2 ^ 6 := Nat.pow_le_pow_right (by decide) hn
  have hp : 0 < 2 ^ n := Nat.two_pow_pos n
  unfold leftA
  rw [left_fold j row _ (by omega) (fun k hk => by have := h k hk; omega), Nat.testBit_two_pow_sub_one]
theorem leftA_zero {n : Nat} (hn : n ≤ 6) {row : List Nat} (hd : row.Nodup) (hlt : ∀ k ∈ row, k < n) : leftA n row = 0 ↔ row.length = n := by
  constructor
  · intro h
    have h1 := nodup_le (List.range n) row List.nodup_range fun x hx => by
      have h2 := leftA_test hn row x hlt
      rw [h, Nat.zero_testBit, decide_eq_true (List.mem_range.1 hx), Bool.true_and] at h2
      simpa using h2.symm
    have h2 := nodup_le row (List.range n) hd fun x hx => List.mem_range.2 (hlt x hx)
    rw [List.length_range] at h1 h2
    omega
  · intro h
    refine Nat.eq_of_testBit_eq fun j => ?_
    rw [leftA_test hn row j hlt, Nat.zero_testBit]
    by_cases hj : j < n
    · have := nodup_full row n hd hlt h j hj
      simp [this]
    · simp [hj]
/-- may a place come next? -/
def nxR (A : List Nat) (row : List Nat) (k : Nat) : Bool := !row.contains k && (List.range A.length).all fun j => row.contains j || !aft A j k
theorem next_test {A : List Nat} (hn : A.length ≤ 6) (hA : ∀ a ∈ A, a < 4294967296) {row : List Nat} (hlt : ∀ k ∈ row, k < A.length) {k : Nat} (hk : k < A.length) :
    (nextS A (leftA A.length row) A.length).testBit k = nxR A row k := by
  have h64 := leftA_lt hn row
  rw [nextS_test hA (by omega), leftA_test hn row k hlt, decide_eq_true hk, Bool.true_and]
  unfold nxR
  congr 1
  rw [Bool.eq_iff_iff, List.all_eq_true, List.all_eq_true]
  refine forall_congr' fun j => forall_congr' fun hj => ?_
  rw [leftA_test hn row j hlt, decide_eq_true (List.mem_range.1 hj), Bool.true_and, Bool.not_not]
def rowsS (A : List Nat) : List (List Nat) := extP A.length (nxR A) A.length []
theorem stepsR_iff {A : List Nat} (hself : ∀ a, a < A.length → aft A a a = false) : ∀ (t row : List Nat), (row ++ t).length = A.length → (∀ k ∈ row ++ t, k < A.length) → row.Nodup →
    (stepsP (nxR A) row t = true ↔ t.Pairwise (goes A) ∧ ∀ b ∈ row, ∀ a ∈ t, a ≠ b) := by
  intro t
  induction t with
  | nil => intro row _ _ _; simp [stepsP]
  | cons k r ih =>
    intro row hl hlt hd
    have happ : row ++ [k] ++ r = row ++ k :: r := by simp
    rw [stepsP, Bool.and_eq_true]
    constructor
    · rintro ⟨h1, h2⟩
      unfold nxR at h1
      rw [Bool.and_eq_true, List.all_eq_true] at h1
      obtain ⟨h1a, h1b⟩ := h1
      have hkr : k ∉ row := by simpa using h1a
      have h3 := (ih (row ++ [k]) (by rw [happ]; exact hl) (by rw [happ]; exact hlt) (List.nodup_append.2 ⟨hd, by simp, fun a ha b hb => by rw [List.mem_singleton.1 hb]; exact fun e => hkr (e ▸ ha)⟩)).1 h2
      refine ⟨List.pairwise_cons.2 ⟨fun a ha => ⟨fun e => h3.2 k (by simp) a ha e, ?_⟩, h3.1⟩, fun b hb a ha => ?_⟩
      · have hal : a < A.length := hlt a (by simp [ha])
        have h4 := h1b a (List.mem_range.2 hal)
        have hna : a ∉ row := fun hc => h3.2 a (List.mem_append_left _ hc) a ha rfl
        simpa [hna] using h4
      · rcases List.mem_cons.1 ha with rfl | ha
        · exact fun e => hkr (e ▸ hb)
        · exact h3.2 b (List.mem_append_left _ hb) a ha
    · rintro ⟨h1, h2⟩
      obtain ⟨h1a, h1b⟩ := List.pairwise_cons.1 h1
      have hkr : k ∉ row := fun hc => h2 k hc k (List.mem_cons_self ..) rfl
      have hd2 : (row ++ [k]).Nodup := List.nodup_append.2 ⟨hd, by simp, fun a ha b hb => by rw [List.mem_singleton.1 hb]; exact fun e => hkr (e ▸ ha)⟩
      refine ⟨?_, (ih (row ++ [k]) (by rw [happ]; exact hl) (by rw [happ]; exact hlt) hd2).2 ⟨h1b, fun b hb a ha => ?_⟩⟩
      · unfold nxR
        rw [Bool.and_eq_true, List.all_eq_true]
        refine ⟨by simpa using hkr, fun j hj => ?_⟩
        have hall : (row ++ k :: r).Nodup := by
          rw [List.nodup_append]
          exact ⟨hd, goes_nodup h1, fun a ha b hb e => h2 a ha b hb e.symm⟩
        have hm := nodup_full (row ++ k :: r) A.length hall hlt hl j (List.mem_range.1 hj)
        rcases List.mem_append.1 hm with hm | hm
        · simp [hm]
        · rcases List.mem_cons.1 hm with rfl | hm
          · rw [hself j (List.mem_range.1 hj)]; simp
          · rw [(h1a j hm).2]; simp
      · rcases List.mem_append.1 hb with hb | hb
        · exact h2 b hb a (List.mem_cons_of_mem _ ha)
        · rw [List.mem_singleton.1 hb]; exact (h1a a ha).1
theorem rowsS_eq {A : List Nat} (hself : ∀ a, a < A.length → aft A a a = false) : rowsS A = allS A := by
  unfold rowsS allS
  refine ext_same A.length fun t hl hlt => ?_
  rw [Bool.eq_iff_iff, stepsR_iff hself t [] (by simpa using hl) (by simpa using hlt) List.nodup_nil, steps_iff]
  simp
theorem self_free {A : List Nat} (hf : Free A) : ∀ a, a < A.length → aft A a a = false := fun a ha => by
  cases h : aft A a a with
  | false => rfl
  | true => exact absurd (.single ⟨ha, ha, h⟩) (hf a)
/-- ways back lie among the places left -/
def Back (A : List Nat) (left : Nat) : Prop := left < 64 ∧ (∀ a, Relation.TransGen (Edge A) a a → left.testBit a = true) ∧ ∀ k, left.testBit k = true → k < A.length
theorem back_start {A : List Nat} (hn : A.length ≤ 6) : Back A (2 ^ A.length - 1) := by
  have h0 : 2 ^ A.length ≤ 2 ^ 6 := Nat.pow_le_pow_right (by decide) hn
  have hp : 0 < 2 ^ A.length := Nat.two_pow_pos _
  refine ⟨by omega, fun a ha => ?_, fun k hk => ?_⟩
  · rw [Nat.testBit_two_pow_sub_one, decide_eq_true (trans_lt ha)]
  · rw [Nat.testBit_two_pow_sub_one] at hk
    exact of_decide_eq_true hk
theorem back_step {A : List Nat} {left : Nat} (hA : ∀ a ∈ A, a < 4294967296) (h : Back A left) : Back A (lessN left (nextS A left A.length)) := by
  obtain ⟨h1, h2, h3⟩ := h
  have hnl := nextS_le A left A.length
  have hlt : ∀ k, (lessN left (nextS A left A.length)).testBit k = (left.testBit k && !(nextS A left A.length).testBit k) := fun k => lessN_test (by omega) (by omega) k
  refine ⟨Nat.lt_of_le_of_lt (lessN_le _ _) h1, fun a ha => ?_, fun k hk => ?_⟩
  · rw [hlt, h2 a ha, Bool.true_and, nextS_test hA (by omega), h2 a ha, Bool.true_and]
    -- the one ahead of it on the way
    obtain ⟨b, hb, hba⟩ : ∃ b, Relation.TransGen (Edge A) b b ∧ Edge A b a := by
      cases ha with
      | single h => exact ⟨a, .single h, h⟩
      | tail h1 h2 => exact ⟨_, Relation.TransGen.trans (.single h2) h1, h2⟩
    have : ((List.range A.length).all fun i => !left.testBit i || !aft A i a) = false := by
      rw [List.all_eq_false]
      refine ⟨b, List.mem_range.2 hba.1, ?_⟩
      rw [h2 b hb, hba.2.2]
      decide
    rw [this]; rfl
  · rw [hlt, Bool.and_eq_true] at hk
    exact h3 k hk.1
theorem lessN_less {a b : Nat} (ha : a < 64) (hb : b ≤ a) (h0 : b ≠ 0) (hs : ∀ k, b.testBit k = true → a.testBit k = true) : lessN a b < a := by
  refine Nat.lt_of_le_of_ne (lessN_le _ _) fun he => ?_
  refine h0 (Nat.eq_of_testBit_eq fun k => ?_)
  rw [Nat.zero_testBit]
  cases hk : b.testBit k with
  | false => rfl
  | true =>
    have h1 := lessN_test (a := a) (b := b) (by omega) (by omega) k
    rw [he, hs k hk, hk] at h1
    exact absurd h1 (by decide)
theorem next_sub {A : List Nat} {left : Nat} (hA : ∀ a ∈ A, a < 4294967296) (h : left < 64) {k : Nat} (hk : (nextS A left A.length).testBit k = true) : left.testBit k = true := by
  rw [nextS_test hA (by omega), Bool.and_eq_true] at hk
  exact hk.1
theorem back_end {A : List Nat} {left : Nat} (hA : ∀ a ∈ A, a < 4294967296) (h : Back A left) (h0 : nextS A left A.length = 0) : Free A ↔ left = 0 := by
  obtain ⟨h1, h2, h3⟩ := h
  constructor
  · intro hf
    refine Nat.eq_of_testBit_eq fun k => ?_
    rw [Nat.zero_testBit]
    cases hk : left.testBit k with
    | false => rfl
    | true =>
      obtain ⟨z, hz, hmin⟩ := has_min (L := A) (S := (List.range A.length).filter left.testBit) hf (fun x hx => List.mem_range.1 (List.mem_filter.1 hx).1) _ k (List.mem_filter.2 ⟨List.mem_range.2 (h3 k hk), hk⟩) (Nat.le_refl _)
      have hzl := (List.mem_filter.1 hz).2
      have h4 := nextS_test hA (show left < 4294967296 by omega) A.length z
      rw [h0, Nat.zero_testBit, hzl, Bool.true_and] at h4
      have : ((List.range A.length).all fun i => !left.testBit i || !aft A i z) = true := by
        rw [List.all_eq_true]
        intro i hi
        cases hb : left.testBit i with
        | false => rfl
        | true => rw [hmin i (List.mem_filter.2 ⟨hi, hb⟩)]; rfl
      rw [this] at h4
      exact absurd h4 (by decide)
  · intro he a ha
    have := h2 a ha
    rw [he, Nat.zero_testBit] at this
    exact absurd this (by decide)
theorem nxR_not {A row : List Nat} {k : Nat} (h : nxR A row k = true) : k ∉ row := by
  unfold nxR at h
  rw [Bool.and_eq_true] at h
  simpa using h.1
/-- no number has a bit that is no place's -/
theorem more_iff {a n : Nat} (hn : n ≤ 6) (ha : a < 4294967296) : lessN a (2 ^ n - 1) = 0 ↔ a < 2 ^ n := by
  have h0 : 2 ^ n ≤ 2 ^ 6 := Nat.pow_le_pow_right (by decide) hn
  have hp : 0 < 2 ^ n := Nat.two_pow_pos n
  constructor
  · intro h
    refine Nat.lt_pow_two_of_testBit a fun k hk => ?_
    have h1 := lessN_test ha (show 2 ^ n - 1 < 4294967296 by omega) k
    rw [h, Nat.zero_testBit, Nat.testBit_two_pow_sub_one, decide_eq_false (by omega)] at h1
    simpa using h1.symm
  · intro h
    refine Nat.eq_of_testBit_eq fun k => ?_
    rw [Nat.zero_testBit, lessN_test ha (by omega), Nat.testBit_two_pow_sub_one]
    by_cases hk : k < n
    · simp [hk]
    · have : a.testBit k = false := Nat.testBit_lt_two_pow (Nat.lt_of_lt_of_le h (Nat.pow_le_pow_right (by decide) (by omega)))
      rw [this]; rfl
end Go.Proofs.YtpjfhdljagkefaaGreatDoor.RPlain
