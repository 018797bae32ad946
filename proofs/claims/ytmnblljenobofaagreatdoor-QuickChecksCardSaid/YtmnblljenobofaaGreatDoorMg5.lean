/- Merged: ExtA, CmpA, CmpB, ExtB. -/
import Derived.Test.YtmnblljenobofaaGreatDoorRows
import Derived.Test.YtmnblljenobofaaGreatDoorMg4
/- Plain words: all rows that keep an order. -/
namespace Go.Proofs.YtmnblljenobofaaGreatDoor.RPlain

/-- all rows of so many places below n, those first whose first other place is less -/
def allT (n : Nat) : Nat → List (List Nat)
  | 0 => [[]]
  | s + 1 => (List.range n).flatMap fun k => (allT n s).map (k :: ·)
/-- .. that go on from a row, by places that may come behind what is there -/
def extP (n : Nat) (p : List Nat → Nat → Bool) : Nat → List Nat → List (List Nat)
  | 0, row => [row]
  | s + 1, row => (List.range n).flatMap fun k => if p row k = true then extP n p s (row ++ [k]) else []
def stepsP (p : List Nat → Nat → Bool) : List Nat → List Nat → Bool
  | _, [] => true
  | row, k :: t => p row k && stepsP p (row ++ [k]) t
theorem ext_filter (n : Nat) (p : List Nat → Nat → Bool) : ∀ (s : Nat) (row : List Nat), extP n p s row = ((allT n s).filter (stepsP p row)).map (row ++ ·) := by
  intro s
  induction s with
  | zero =>
    intro row
    show [row] = (([[]] : List (List Nat)).filter (stepsP p row)).map (row ++ ·)
    have h1 : ([[]] : List (List Nat)).filter (stepsP p row) = [[]] := rfl
    rw [h1, List.map_cons, List.map_nil, List.append_nil]
  | succ s ih =>
    intro row
    rw [extP, allT, List.filter_flatMap, List.map_flatMap]
    refine congrArg (fun f => (List.range n).flatMap f) (funext fun k => ?_)
    rw [List.filter_map, List.map_map]
    by_cases hp : p row k = true
    · rw [if_pos hp, ih]
      have h1 : (stepsP p row ∘ (k :: ·)) = stepsP p (row ++ [k]) := by
        funext t
        show stepsP p row (k :: t) = _
        rw [stepsP, hp, Bool.true_and]
      have h2 : ((row ++ ·) ∘ (k :: ·)) = (row ++ [k] ++ ·) := by
        funext t
        show row ++ (k :: t) = _
        rw [List.append_assoc]; rfl
      rw [h1, h2]
    · rw [if_neg hp]
      have h1 : (allT n s).filter (stepsP p row ∘ (k :: ·)) = [] := by
        rw [List.filter_eq_nil_iff]
        intro t _ hc
        have hc' : stepsP p row (k :: t) = true := hc
        rw [stepsP, Bool.and_eq_true] at hc'
        exact hp hc'.1
      rw [h1]; rfl
theorem allT_mem {n : Nat} : ∀ {s : Nat} {t : List Nat}, t ∈ allT n s ↔ t.length = s ∧ ∀ k ∈ t, k < n := by
  intro s
  induction s with
  | zero =>
    intro t
    rw [allT, List.mem_singleton]
    constructor
    · rintro rfl; exact ⟨rfl, fun k hk => by cases hk⟩
    · rintro ⟨h, _⟩; exact List.length_eq_zero_iff.1 h
  | succ s ih =>
    intro t
    rw [allT, List.mem_flatMap]
    constructor
    · rintro ⟨k, hk, ht⟩
      obtain ⟨u, hu, rfl⟩ := List.mem_map.1 ht
      obtain ⟨h1, h2⟩ := ih.1 hu
      refine ⟨by simp [h1], fun x hx => ?_⟩
      rcases List.mem_cons.1 hx with rfl | hx
      · exact List.mem_range.1 hk
      · exact h2 x hx
    · rintro ⟨h1, h2⟩
      cases t with
      | nil => simp at h1
      | cons k u =>
        exact ⟨k, List.mem_range.2 (h2 k (List.mem_cons_self ..)), List.mem_map.2 ⟨u, ih.2 ⟨by simpa using h1, fun x hx => h2 x (List.mem_cons_of_mem _ hx)⟩, rfl⟩⟩
theorem allT_rise (n : Nat) : ∀ s : Nat, (allT n s).Pairwise (· < ·) := by
  intro s
  induction s with
  | zero => exact List.pairwise_singleton _ _
  | succ s ih =>
    rw [allT, List.pairwise_flatMap]
    refine ⟨fun k _ => List.pairwise_map.2 (ih.imp fun h => List.cons_lt_cons_iff.2 (.inr ⟨rfl, h⟩)), ?_⟩
    refine List.pairwise_lt_range.imp fun {a b} hab x hx y hy => ?_
    obtain ⟨u, _, rfl⟩ := List.mem_map.1 hx
    obtain ⟨v, _, rfl⟩ := List.mem_map.1 hy
    exact List.cons_lt_cons_iff.2 (.inl hab)
/-- an order: bit b of number a is 1, if a is before b -/
def aft (L : List Nat) (a b : Nat) : Bool := (L.getD a 0).testBit b
def nxt (L : List Nat) (row : List Nat) (k : Nat) : Bool := row.all fun b => !decide (k = b) && !aft L k b
def allS (L : List Nat) : List (List Nat) := extP L.length (nxt L) L.length []
/-- may b stand ahead of a? -/
def goes (L : List Nat) (b a : Nat) : Prop := a ≠ b ∧ aft L a b = false
theorem nxt_iff (L row : List Nat) (k : Nat) : nxt L row k = true ↔ ∀ b ∈ row, goes L b k := by
  unfold nxt goes
  rw [List.all_eq_true]
  refine forall_congr' fun b => forall_congr' fun _ => ?_
  simp
theorem steps_iff (L : List Nat) : ∀ (t row : List Nat), stepsP (nxt L) row t = true ↔ t.Pairwise (goes L) ∧ ∀ b ∈ row, ∀ a ∈ t, goes L b a := by
  intro t
  induction t with
  | nil => intro row; simp [stepsP]
  | cons k r ih =>
    intro row
    rw [stepsP, Bool.and_eq_true, nxt_iff, ih, List.pairwise_cons]
    constructor
    · rintro ⟨h1, h2, h3⟩
      refine ⟨⟨fun a ha => h3 k (by simp) a ha, h2⟩, fun b hb a ha => ?_⟩
      rcases List.mem_cons.1 ha with rfl | ha
      · exact h1 b hb
      · exact h3 b (List.mem_append_left _ hb) a ha
    · rintro ⟨⟨h1, h2⟩, h3⟩
      refine ⟨fun b hb => h3 b hb k (List.mem_cons_self ..), h2, fun b hb a ha => ?_⟩
      rcases List.mem_append.1 hb with hb | hb
      · exact h3 b hb a (List.mem_cons_of_mem _ ha)
      · rw [List.mem_singleton.1 hb]; exact h1 a ha
theorem allS_filter (L : List Nat) : allS L = (allT L.length L.length).filter (stepsP (nxt L) []) := by
  unfold allS
  rw [ext_filter]
  simp
theorem allS_mem {L row : List Nat} : row ∈ allS L ↔ row.length = L.length ∧ (∀ k ∈ row, k < L.length) ∧ row.Pairwise (goes L) := by
  rw [allS_filter, List.mem_filter, allT_mem, steps_iff]
  simp [and_assoc]
/-- rows by any other rule, if it lets through the same whole rows -/
theorem ext_same (n : Nat) {p q : List Nat → Nat → Bool} (h : ∀ t : List Nat, t.length = n → (∀ k ∈ t, k < n) → stepsP p [] t = stepsP q [] t) : extP n p n [] = extP n q n [] := by
  rw [ext_filter, ext_filter]
  congr 1
  refine List.filter_congr fun t ht => ?_
  obtain ⟨h1, h2⟩ := allT_mem.1 ht
  exact h t h1 h2
/-- the ways from place to place; is there one back? -/
def Edge (L : List Nat) (a b : Nat) : Prop := a < L.length ∧ b < L.length ∧ aft L a b = true
def Free (L : List Nat) : Prop := ∀ a, ¬ Relation.TransGen (Edge L) a a
theorem has_min {L S : List Nat} (hf : Free L) (hS : ∀ x ∈ S, x < L.length) : ∀ (m : Nat) (x : Nat), x ∈ S → (S.countP fun y => @decide (Relation.TransGen (Edge L) y x) (Classical.propDecidable _)) ≤ m → ∃ z ∈ S, ∀ y ∈ S, aft L y z = false := by
  intro m
  induction m with
  | zero =>
    intro x hx hc
    refine ⟨x, hx, fun y hy => ?_⟩
    have h0 : (S.countP fun y => @decide (Relation.TransGen (Edge L) y x) (Classical.propDecidable _)) = 0 := by omega
    rw [List.countP_eq_zero] at h0
    have h1 := h0 y hy
    cases hb : aft L y x with
    | false => rfl
    | true => exact absurd (@decide_eq_true _ (Classical.propDecidable _) (Relation.TransGen.single ⟨hS y hy, hS x hx, hb⟩)) h1
  | succ m ih =>
    intro x hx hc
    by_cases hall : ∀ y ∈ S, aft L y x = false
    · exact ⟨x, hx, hall⟩
    · simp only [Classical.not_forall] at hall
      obtain ⟨y, hy, hb⟩ := hall
      have hb' : aft L y x = true := by simpa using hb
      have he : Edge L y x := ⟨hS y hy, hS x hx, hb'⟩
      refine ih y hy ?_
      have hlt : (S.countP fun z => @decide (Relation.TransGen (Edge L) z y) (Classical.propDecidable _)) < (S.countP fun z => @decide (Relation.TransGen (Edge L) z x) (Classical.propDecidable _)) := by
        have hmono : ∀ (T : List Nat), (T.countP fun z => @decide (Relation.TransGen (Edge L) z y) (Classical.propDecidable _)) ≤ (T.countP fun z => @decide (Relation.TransGen (Edge L) z x) (Classical.propDecidable _)) := fun T =>
          List.countP_mono_left fun z _ hz => @decide_eq_true _ (Classical.propDecidable _) ((@of_decide_eq_true _ (Classical.propDecidable _) hz).tail he)
        obtain ⟨s, t, rfl⟩ := List.append_of_mem hy
        rw [List.countP_append, List.countP_append, List.countP_cons, List.countP_cons]
        have h1 := hmono s
        have h2 := hmono t
        have h3 : @decide (Relation.TransGen (Edge L) y y) (Classical.propDecidable _) = false := @decide_eq_false _ (Classical.propDecidable _) (hf y)
        have h4 : @decide (Relation.TransGen (Edge L) y x) (Classical.propDecidable _) = true := @decide_eq_true _ (Classical.propDecidable _) (.single he)
        rw [h3, h4]
        simp
        omega
      omega
theorem has_row {L : List Nat} (hf : Free L) : ∀ (n : Nat) (S : List Nat), S.length = n → S.Nodup → (∀ x ∈ S, x < L.length) → ∃ row : List Nat, row.Perm S ∧ row.Pairwise (goes L) := by
  intro n
  induction n with
  | zero => intro S h _ _; exact ⟨[], by rw [List.length_eq_zero_iff.1 h], List.Pairwise.nil⟩
  | succ n ih =>
    intro S hl hn hS
    obtain ⟨x, hx⟩ : ∃ x, x ∈ S := List.exists_mem_of_length_pos (by omega)
    obtain ⟨z, hz, hmin⟩ := has_min hf hS _ x hx (Nat.le_refl _)
    have hle := List.length_erase_of_mem hz
    obtain ⟨row, hp, hr⟩ := ih (S.erase z) (by omega) (hn.erase z) (fun y hy => hS y (List.mem_of_mem_erase hy))
    refine ⟨z :: row, (hp.cons z).trans (List.perm_cons_erase hz).symm, List.pairwise_cons.2 ⟨fun a ha => ?_, hr⟩⟩
    have ha' := hp.subset ha
    have haS := List.mem_of_mem_erase ha'
    refine ⟨fun hc => ?_, hmin a haS⟩
    rw [hc] at ha'
    exact (List.Nodup.not_mem_erase hn) ha'
/-- there is one at least -/
theorem allS_some {L : List Nat} (hf : Free L) : 0 < (allS L).length := by
  obtain ⟨row, hp, hr⟩ := has_row hf L.length (List.range L.length) (by simp) List.nodup_range (fun x hx => List.mem_range.1 hx)
  exact List.length_pos_of_mem (allS_mem.2 ⟨by rw [hp.length_eq, List.length_range], fun k hk => List.mem_range.1 (hp.subset hk), hr⟩)
theorem goes_nodup {L row : List Nat} (h : row.Pairwise (goes L)) : row.Nodup := h.imp fun h => fun hc => h.1 hc.symm
theorem nodup_le : ∀ (l1 l2 : List Nat), l1.Nodup → (∀ x ∈ l1, x ∈ l2) → l1.length ≤ l2.length := by
  intro l1
  induction l1 with
  | nil => intro _ _ _; simp
  | cons x r ih =>
    intro l2 hn hs
    obtain ⟨hx, hr⟩ := List.nodup_cons.1 hn
    have h1 := ih (l2.erase x) hr (fun y hy => (List.mem_erase_of_ne (show y ≠ x from fun hc => hx (by rw [← hc]; exact hy))).2 (hs y (List.mem_cons_of_mem _ hy)))
    have hm := hs x (List.mem_cons_self ..)
    have h2 := List.length_erase_of_mem hm
    have h3 := List.length_pos_of_mem hm
    rw [List.length_cons]
    omega
theorem nodup_full (row : List Nat) (n : Nat) (hn : row.Nodup) (hlt : ∀ k ∈ row, k < n) (hl : row.length = n) (a : Nat) (ha : a < n) : a ∈ row := by
  by_cases hm : a ∈ row
  · exact hm
  · have h := nodup_le (a :: row) (List.range n) (List.nodup_cons.2 ⟨hm, hn⟩) (fun x hx => by
      rcases List.mem_cons.1 hx with rfl | hx
      · exact List.mem_range.2 ha
      · exact List.mem_range.2 (hlt x hx))
    rw [List.length_cons, List.length_range] at h
    omega
/-- places without any order: as many rows as there are ways to turn them -/
def factN : Nat → Nat
  | 0 => 1
  | n + 1 => factN n * (n + 1)
theorem sum_ite (q : Nat → Bool) (c : Nat) : ∀ l : List Nat, (l.map fun k => if q k = true then c else 0).sum = (l.filter q).length * c := by
  intro l
  induction l with
  | nil => simp
  | cons x r ih =>
    rw [List.map_cons, List.sum_cons, ih, List.filter_cons]
    split
    · rw [List.length_cons, Nat.succ_mul, Nat.add_comm]
    · rw [Nat.zero_add]
end Go.Proofs.YtmnblljenobofaaGreatDoor.RPlain
/- Plain words: choices, and completions. -/
namespace Go.Proofs.YtmnblljenobofaaGreatDoor.WPlain
end Go.Proofs.YtmnblljenobofaaGreatDoor.WPlain
namespace Go.Proofs.YtmnblljenobofaaGreatDoor.QPlain
end Go.Proofs.YtmnblljenobofaaGreatDoor.QPlain
namespace Go.Proofs.YtmnblljenobofaaGreatDoor.RPlain
open WPlain QPlain

/-- is a number a choice? all choices -/
def okBit (s : Int) (b : Bool) : Bool := if b = true then decide (s = 1) || decide (s = 2) else !decide (s = 2)
def choiceG (n : Nat) : Nat → List Tx → Bool
  | _, [] => true
  | i, X :: r => okBit X.s (n.testBit i) && choiceG n (i + 1) r
def choiceS (l : List Tx) (n : Nat) : Bool := choiceG n 0 l && decide (n < 2 ^ l.length)
def choicesS (l : List Tx) : List Nat := (List.range 64).filter (choiceS l)

/-- states behind a completion -/
theorem choice_at {n : Nat} : ∀ {l : List Tx} {i j : Nat}, choiceG n i l = true → ∀ (hj : j < l.length), okBit l[j].s (n.testBit (i + j)) = true := by
  intro l
  induction l with
  | nil => intro i j _ hj; exact absurd hj (by simp)
  | cons X r ih =>
    intro i j hc hj
    rw [choiceG, Bool.and_eq_true] at hc
    cases j with
    | zero => exact hc.1
    | succ j =>
      rw [List.getElem_cons_succ, show i + (j + 1) = i + 1 + j from by omega]
      exact ih hc.2 (by simpa using hj)
end Go.Proofs.YtmnblljenobofaaGreatDoor.RPlain
/- Plain words: how many choices there are, the first and the last. -/
namespace Go.Proofs.YtmnblljenobofaaGreatDoor.WPlain
end Go.Proofs.YtmnblljenobofaaGreatDoor.WPlain
namespace Go.Proofs.YtmnblljenobofaaGreatDoor.QPlain
end Go.Proofs.YtmnblljenobofaaGreatDoor.QPlain
namespace Go.Proofs.YtmnblljenobofaaGreatDoor.RPlain
open WPlain QPlain

theorem choiceG_snoc (m : Nat) : ∀ (l : List Tx) (i : Nat) (X : Tx), choiceG m i (l ++ [X]) = (choiceG m i l && okBit X.s (m.testBit (i + l.length))) := by
  intro l
  induction l with
  | nil => intro i X; simp [choiceG]
  | cons Y r ih => intro i X; rw [List.cons_append, choiceG, choiceG, ih, List.length_cons, show i + 1 + r.length = i + (r.length + 1) from by omega, Bool.and_assoc]
def chL (l : List Tx) : List Nat := (List.range (2 ^ l.length)).filter fun m => choiceG m 0 l
theorem choices_chL {l : List Tx} (h6 : l.length ≤ 6) : choicesS l = chL l := by
  unfold choicesS chL choiceS
  have hp : 2 ^ l.length ≤ 64 := Nat.pow_le_pow_right (n := 2) (i := l.length) (j := 6) (by decide) h6
  obtain ⟨d, hd⟩ : ∃ d, 64 = 2 ^ l.length + d := ⟨64 - 2 ^ l.length, by omega⟩
  rw [hd, List.range_add, List.filter_append]
  have h1 : ((List.range d).map (2 ^ l.length + ·)).filter (fun n => choiceG n 0 l && decide (n < 2 ^ l.length)) = [] := by
    rw [List.filter_eq_nil_iff]
    intro m hm
    obtain ⟨x, _, rfl⟩ := List.mem_map.1 hm
    simp
  rw [h1, List.append_nil]
  refine List.filter_congr fun m hm => ?_
  rw [decide_eq_true (List.mem_range.1 hm), Bool.and_true]
theorem chL_rise (l : List Tx) : (chL l).Pairwise (· < ·) := List.Pairwise.filter _ List.pairwise_lt_range
theorem mem_chL {l : List Tx} {m : Nat} : m ∈ chL l ↔ m < 2 ^ l.length ∧ choiceG m 0 l = true := by unfold chL; rw [List.mem_filter, List.mem_range]
theorem choiceG_of {m : Nat} : ∀ {l : List Tx} {i : Nat}, (∀ j (hj : j < l.length), okBit l[j].s (m.testBit (i + j)) = true) → choiceG m i l = true := by
  intro l
  induction l with
  | nil => intro i _; rfl
  | cons X r ih =>
    intro i h
    rw [choiceG, Bool.and_eq_true]
    refine ⟨h 0 (by simp), ih fun j hj => ?_⟩
    have := h (j + 1) (by simpa using hj)
    rwa [List.getElem_cons_succ, show i + (j + 1) = i + 1 + j from by omega] at this
end Go.Proofs.YtmnblljenobofaaGreatDoor.RPlain
/- Plain words: ways from place to place, and why an order may not be. -/
namespace Go.Proofs.YtmnblljenobofaaGreatDoor.RPlain

/-- one place more, if it can be come to from what is there -/
def addW (L : List Nat) (out : List Nat) (k : Nat) : List Nat := if (out.any fun x => aft L x k) = true ∧ out.contains k = false then out ++ [k] else out
def stepW (L : List Nat) (n : Nat) (out : List Nat) : List Nat := (List.range n).foldl (addW L) out
def startW (L : List Nat) (n i : Nat) : List Nat := (List.range n).filter fun k => aft L i k
def waysG (L : List Nat) (n : Nat) : Nat → List Nat → List Nat
  | 0, out => out
  | s + 1, out => waysG L n s (stepW L n out)
def waysS (L : List Nat) (i : Nat) : List Nat := waysG L L.length (L.length - 1) (startW L L.length i)
def mayE (L : List Nat) : Nat := if 6 < L.length ∨ (L.any fun a => decide (2 ^ L.length ≤ a)) = true then 1 else if ((List.range L.length).any fun i => (waysS L i).contains i) = true then 8 else 0

theorem addW_pre (L out : List Nat) (k : Nat) : out <+: addW L out k := by
  unfold addW
  split
  · exact List.prefix_append _ _
  · exact List.prefix_refl _
theorem fold_pre (L : List Nat) : ∀ (l out : List Nat), out <+: l.foldl (addW L) out := by
  intro l
  induction l with
  | nil => intro out; exact List.prefix_refl _
  | cons k r ih => intro out; exact (addW_pre L out k).trans (ih _)
theorem fold_same (L : List Nat) : ∀ (l out : List Nat), (l.foldl (addW L) out).length = out.length → ∀ k ∈ l, addW L out k = out := by
  intro l
  induction l with
  | nil => intro out _ k hk; cases hk
  | cons x r ih =>
    intro out h k hk
    have h1 := (addW_pre L out x).length_le
    have h2 := (fold_pre L r (addW L out x)).length_le
    rw [List.foldl_cons] at h
    have h3 : addW L out x = out := ((addW_pre L out x).eq_of_length (by omega)).symm
    rcases List.mem_cons.1 hk with rfl | hk
    · exact h3
    · rw [h3] at h
      exact ih out h k hk
/-- nothing more can be come to -/
def Closed (L out : List Nat) : Prop := ∀ x ∈ out, ∀ k, k < L.length → aft L x k = true → k ∈ out
theorem addW_closed {L out : List Nat} (h : ∀ k, k < L.length → addW L out k = out) : Closed L out := by
  intro x hx k hk he
  by_cases hm : k ∈ out
  · exact hm
  · have h1 := h k hk
    unfold addW at h1
    rw [if_pos ⟨List.any_eq_true.2 ⟨x, hx, he⟩, by simpa using hm⟩] at h1
    have := congrArg List.length h1
    simp at this
theorem closed_add {L out : List Nat} (hc : Closed L out) {k : Nat} (hk : k < L.length) : addW L out k = out := by
  unfold addW
  rw [if_neg]
  rintro ⟨h1, h2⟩
  obtain ⟨x, hx, he⟩ := List.any_eq_true.1 h1
  have := hc x hx k hk he
  simp [this] at h2
theorem closed_step {L out : List Nat} (hc : Closed L out) : stepW L L.length out = out := by
  unfold stepW
  have : ∀ l : List Nat, (∀ k ∈ l, k < L.length) → l.foldl (addW L) out = out := by
    intro l
    induction l with
    | nil => intro _; rfl
    | cons k r ih => intro h; rw [List.foldl_cons, closed_add hc (h k (List.mem_cons_self ..))]; exact ih fun x hx => h x (List.mem_cons_of_mem _ hx)
  exact this _ fun k hk => List.mem_range.1 hk
/-- places that can be come to from one -/
structure Way (L : List Nat) (i : Nat) (out : List Nat) : Prop where
  nodup : out.Nodup
  lt : ∀ k ∈ out, k < L.length
  way : ∀ k ∈ out, Relation.TransGen (Edge L) i k
  first : ∀ k, k < L.length → aft L i k = true → k ∈ out
theorem Way.add {L : List Nat} {i : Nat} {out : List Nat} (h : Way L i out) {k : Nat} (hk : k < L.length) : Way L i (addW L out k) := by
  unfold addW
  split
  · rename_i hc
    obtain ⟨x, hx, he⟩ := List.any_eq_true.1 hc.1
    have hm : k ∉ out := by simpa using hc.2
    refine ⟨List.nodup_append.2 ⟨h.nodup, by simp, fun a ha b hb => ?_⟩, fun y hy => ?_, fun y hy => ?_, fun y hy hb => List.mem_append_left _ (h.first y hy hb)⟩
    · rw [List.mem_singleton.1 hb]; exact fun hc => hm (hc ▸ ha)
    · rcases List.mem_append.1 hy with hy | hy
      · exact h.lt y hy
      · rw [List.mem_singleton.1 hy]; exact hk
    · rcases List.mem_append.1 hy with hy | hy
      · exact h.way y hy
      · rw [List.mem_singleton.1 hy]; exact (h.way x hx).tail ⟨h.lt x hx, hk, he⟩
  · exact h
theorem Way.step {L : List Nat} {i : Nat} {out : List Nat} (h : Way L i out) : Way L i (stepW L L.length out) := by
  unfold stepW
  have : ∀ (l out : List Nat), (∀ k ∈ l, k < L.length) → Way L i out → Way L i (l.foldl (addW L) out) := by
    intro l
    induction l with
    | nil => intro out _ h; exact h
    | cons k r ih => intro out hl h; exact ih _ (fun x hx => hl x (List.mem_cons_of_mem _ hx)) (h.add (hl k (List.mem_cons_self ..)))
  exact this _ _ (fun k hk => List.mem_range.1 hk) h
theorem Way.start {L : List Nat} {i : Nat} (hi : i < L.length) : Way L i (startW L L.length i) := by
  refine ⟨List.nodup_range.filter _, fun k hk => ?_, fun k hk => ?_, fun k hk hb => ?_⟩
  · exact List.mem_range.1 (List.mem_filter.1 hk).1
  · have h1 := List.mem_filter.1 hk
    exact .single ⟨hi, List.mem_range.1 h1.1, h1.2⟩
  · exact List.mem_filter.2 ⟨List.mem_range.2 hk, hb⟩
theorem step_grows {L out : List Nat} : Closed L out ∨ out.length < (stepW L L.length out).length := by
  by_cases h : (stepW L L.length out).length = out.length
  · exact .inl (addW_closed fun k hk => fold_same L _ _ h k (List.mem_range.2 hk))
  · have := (fold_pre L (List.range L.length) out).length_le
    exact .inr (by unfold stepW at h ⊢; omega)
theorem waysG_spec {L : List Nat} {i : Nat} : ∀ (s m : Nat) (out : List Nat), Way L i out → (Closed L out ∨ m ≤ out.length) → Way L i (waysG L L.length s out) ∧ (Closed L (waysG L L.length s out) ∨ m + s ≤ (waysG L L.length s out).length) := by
  intro s
  induction s with
  | zero => intro m out h hc; exact ⟨h, hc⟩
  | succ s ih =>
    intro m out h hc
    rw [waysG]
    have h1 : Closed L (stepW L L.length out) ∨ m + 1 ≤ (stepW L L.length out).length := by
      rcases step_grows (L := L) (out := out) with hg | hg
      · rw [closed_step hg]; exact .inl hg
      · rcases hc with hc | hc
        · rw [closed_step hc]; exact .inl hc
        · exact .inr (by omega)
    have h2 := ih (m + 1) _ h.step h1
    exact ⟨h2.1, h2.2.imp_right fun h => by omega⟩
theorem ways_spec {L : List Nat} {i : Nat} (hi : i < L.length) : Way L i (waysS L i) ∧ Closed L (waysS L i) := by
  unfold waysS
  have h0 : Closed L (startW L L.length i) ∨ 1 ≤ (startW L L.length i).length := by
    by_cases h : (startW L L.length i).length = 0
    · left
      intro x hx
      rw [List.length_eq_zero_iff.1 h] at hx
      cases hx
    · exact .inr (by omega)
  obtain ⟨h1, h2⟩ := waysG_spec (L.length - 1) 1 _ (Way.start hi) h0
  refine ⟨h1, h2.elim id fun h => ?_⟩
  intro x _ k hk _
  have hle := nodup_le _ (List.range L.length) h1.nodup (fun y hy => List.mem_range.2 (h1.lt y hy))
  rw [List.length_range] at hle
  exact nodup_full _ _ h1.nodup h1.lt (by omega) k hk
theorem ways_iff {L : List Nat} {i k : Nat} (hi : i < L.length) : k ∈ waysS L i ↔ Relation.TransGen (Edge L) i k := by
  obtain ⟨h1, h2⟩ := ways_spec hi
  constructor
  · exact h1.way k
  · intro h
    induction h with
    | single h => exact h1.first _ h.2.1 h.2.2
    | tail _ h ih => exact h2 _ ih _ h.2.1 h.2.2
theorem trans_lt {L : List Nat} {a b : Nat} (h : Relation.TransGen (Edge L) a b) : a < L.length := by
  induction h with
  | single h => exact h.1
  | tail _ _ ih => exact ih
theorem free_iff (L : List Nat) : ((List.range L.length).any fun i => (waysS L i).contains i) = false ↔ Free L := by
  rw [List.any_eq_false]
  constructor
  · intro h a ha
    have hlt := trans_lt ha
    exact h a (List.mem_range.2 hlt) (by simpa using (ways_iff hlt).2 ha)
  · intro h i hi hc
    have hlt := List.mem_range.1 hi
    exact h i ((ways_iff hlt).1 (by simpa using hc))
theorem mayE_zero {L : List Nat} : mayE L = 0 ↔ L.length ≤ 6 ∧ (∀ a ∈ L, a < 2 ^ L.length) ∧ Free L := by
  unfold mayE
  by_cases h : 6 < L.length ∨ (L.any fun a => decide (2 ^ L.length ≤ a)) = true
  · rw [if_pos h]
    constructor
    · intro hc; cases hc
    · rintro ⟨h1, h2, _⟩
      rcases h with h | h
      · omega
      · obtain ⟨a, ha, hb⟩ := List.any_eq_true.1 h
        have := h2 a ha
        simp at hb
        omega
  · rw [if_neg h]
    have h1 : L.length ≤ 6 := by
      have := fun hc => h (.inl hc)
      omega
    have h2 : ∀ a ∈ L, a < 2 ^ L.length := fun a ha => by
      have := fun hc => h (.inr (List.any_eq_true.2 ⟨a, ha, hc⟩))
      simp at this
      exact this
    rw [← free_iff]
    cases hb : ((List.range L.length).any fun i => (waysS L i).contains i) with
    | true => simp
    | false => simp [h1]; exact h2
/-- level by level -/
theorem ext_snoc (n : Nat) (p : List Nat → Nat → Bool) : ∀ (s : Nat) (row : List Nat), extP n p (s + 1) row = (extP n p s row).flatMap fun r => ((List.range n).filter (p r)).map fun k => r ++ [k] := by
  have hone : ∀ (row : List Nat) (l : List Nat), (l.flatMap fun k => if p row k = true then [row ++ [k]] else []) = (l.filter (p row)).map fun k => row ++ [k] := by
    intro row l
    induction l with
    | nil => rfl
    | cons k r ih =>
      rw [List.flatMap_cons, ih, List.filter_cons]
      split <;> rfl
  intro s
  induction s with
  | zero =>
    intro row
    rw [extP, extP, List.flatMap_cons, List.flatMap_nil, List.append_nil]
    exact hone row _
  | succ s ih =>
    intro row
    rw [extP, extP, List.flatMap_assoc]
    refine congrArg (fun f => (List.range n).flatMap f) (funext fun k => ?_)
    by_cases hp : p row k = true
    · rw [if_pos hp, if_pos hp, ih]
    · rw [if_neg hp, if_neg hp]; rfl
end Go.Proofs.YtmnblljenobofaaGreatDoor.RPlain
