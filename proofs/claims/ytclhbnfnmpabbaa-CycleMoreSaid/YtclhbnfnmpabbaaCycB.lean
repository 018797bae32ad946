/- Plain words: the program's search for a way back, way by way out of a queue. -/
import Derived.Test.YtclhbnfnmpabbaaCycA
import Derived.Test.YtclhbnfnmpabbaaExtN
namespace Go.Proofs.Ytclhbnfnmpabbaa.RPlain

def lastB (row : List Nat) : Nat := row.getD (row.length - 1) 0
/-- may a way have this place next? -/
def goB (L row : List Nat) (k : Nat) : Bool := row.isEmpty || (aft L (lastB row) k && !row.contains k)
/-- does a way lead back? -/
def backB (L row : List Nat) : Bool := !row.isEmpty && aft L (lastB row) (row.getD 0 0)
/-- what comes of a way, up to a place -/
def chK (L row : List Nat) (k : Nat) : List (List Nat) := ((List.range k).filter (goB L row)).map fun x => row ++ [x]
theorem chK_snoc (L row : List Nat) (k : Nat) : chK L row (k + 1) = if goB L row k = true then chK L row k ++ [row ++ [k]] else chK L row k := by
  unfold chK
  rw [List.range_succ, List.filter_append, List.map_append]
  cases h : goB L row k <;> simp [h]
theorem chK_le (L row : List Nat) {k m : Nat} (h : k ≤ m) : (chK L row k).length ≤ (chK L row m).length := by
  obtain ⟨d, rfl⟩ := Nat.le.dest h
  unfold chK
  rw [List.length_map, List.length_map, List.range_add, List.filter_append, List.length_append]
  omega
def lvB (L : List Nat) (s : Nat) : List (List Nat) := extP L.length (goB L) s []
theorem lvB_snoc (L : List Nat) (s : Nat) : lvB L (s + 1) = (lvB L s).flatMap fun r => chK L r L.length := ext_snoc _ _ _ _
/-- all ways, as they come out of the queue -/
def seqB (L : List Nat) : List (List Nat) := (List.range (L.length + 1)).flatMap (lvB L)
theorem getD_app {l : List Nat} {r : List Nat} {i : Nat} (h : i < l.length) : (l ++ r).getD i 0 = l.getD i 0 := by
  rw [List.getD_eq_getElem?_getD, List.getElem?_append_left h, ← List.getD_eq_getElem?_getD]
theorem getD_mid (l r : List Nat) (k : Nat) : (l ++ k :: r).getD l.length 0 = k := by
  rw [List.getD_eq_getElem?_getD, List.getElem?_append_right (Nat.le_refl _), Nat.sub_self]; rfl
theorem steps_go (L : List Nat) : ∀ (t row : List Nat), stepsP (goB L) row t = true ↔ t.Nodup ∧ (∀ b ∈ row, ∀ a ∈ t, a ≠ b) ∧ ∀ i, row.length ≤ i + 1 → i + 1 < (row ++ t).length → aft L ((row ++ t).getD i 0) ((row ++ t).getD (i + 1) 0) = true := by
  intro t
  induction t with
  | nil =>
    intro row
    rw [stepsP]
    refine ⟨fun _ => ⟨List.nodup_nil, fun b _ a ha => (by cases ha), fun i h1 h2 => ?_⟩, fun _ => rfl⟩
    rw [List.append_nil] at h2
    omega
  | cons k r ih =>
    intro row
    rw [stepsP, Bool.and_eq_true, ih, List.nodup_cons]
    have happ : row ++ [k] ++ r = row ++ k :: r := by simp
    rw [happ]
    have hk : (row ++ k :: r).getD row.length 0 = k := getD_mid row r k
    have hgo : goB L row k = true ↔ (k ∉ row ∧ ∀ i, i + 1 = row.length → aft L ((row ++ k :: r).getD i 0) k = true) := by
      unfold goB lastB
      cases row with
      | nil => simp
      | cons x s =>
        have e1 : ∀ i, i + 1 = (x :: s).length → (x :: s ++ k :: r).getD i 0 = (x :: s).getD ((x :: s).length - 1) 0 := fun i hi => by
          rw [getD_app (by omega), show i = (x :: s).length - 1 from by omega]
        rw [List.isEmpty_cons, Bool.false_or, Bool.and_eq_true, Bool.not_eq_true', List.contains_eq_mem, decide_eq_false_iff_not]
        constructor
        · rintro ⟨h1, h2⟩
          exact ⟨h2, fun i hi => by rw [e1 i hi]; exact h1⟩
        · rintro ⟨h1, h2⟩
          have h3 := h2 ((x :: s).length - 1) (by simp)
          rw [e1 _ (by simp)] at h3
          exact ⟨h3, h1⟩
    rw [hgo]
    constructor
    · rintro ⟨⟨h1, h2⟩, h3, h4, h5⟩
      refine ⟨⟨fun hm => h4 k (by simp) k hm rfl, h3⟩, fun b hb a ha => ?_, fun i hi hlt => ?_⟩
      · rcases List.mem_cons.1 ha with rfl | ha
        · exact fun hc => h1 (hc ▸ hb)
        · exact h4 b (List.mem_append_left _ hb) a ha
      · by_cases he : i + 1 = row.length
        · rw [show i + 1 = row.length from he, hk]
          exact h2 i he
        · exact h5 i (by simp; omega) hlt
    · rintro ⟨⟨h1, h2⟩, h3, h4⟩
      refine ⟨⟨fun hm => h3 k hm k (List.mem_cons_self ..) rfl, fun i hi => ?_⟩, h2, fun b hb a ha => ?_, fun i hi hlt => h4 i (by simp at hi; omega) hlt⟩
      · have h5 := h4 i (by omega) (by simp; omega)
        rw [hi, hk] at h5
        exact h5
      · rcases List.mem_append.1 hb with hb | hb
        · exact h3 b hb a (List.mem_cons_of_mem _ ha)
        · rw [List.mem_singleton.1 hb]; exact fun hc => h1 (hc ▸ ha)
/-- the whole ways that lead back are the cycles -/
theorem go_cyc {L t : List Nat} (hlt : ∀ k ∈ t, k < L.length) : (stepsP (goB L) [] t = true ∧ backB L t = true) ↔ Cyc L t := by
  rw [steps_go]
  simp only [List.nil_append, List.length_nil, Nat.zero_le, forall_const]
  unfold backB lastB
  rw [Bool.and_eq_true]
  constructor
  · rintro ⟨⟨h1, _, h3⟩, h4, h5⟩
    have hpos : 0 < t.length := by
      cases t with
      | nil => cases h4
      | cons x r => simp
    refine ⟨hpos, h1, hlt, fun i hi => ?_⟩
    by_cases hl : i + 1 < t.length
    · have h6 := h3 i hl
      rw [getD_get (by omega), getD_get hl] at h6
      have e1 : (i + 1) % t.length = i + 1 := Nat.mod_eq_of_lt hl
      simp only [e1]
      exact h6
    · have e1 : i = t.length - 1 := by omega
      have e2 : (i + 1) % t.length = 0 := by rw [show i + 1 = t.length from by omega, Nat.mod_self]
      rw [getD_get (by omega), getD_get hpos] at h5
      simp only [e2]
      simp only [e1]
      exact h5
  · intro h
    refine ⟨⟨h.nodup, fun b hb => (by cases hb), fun i hi => ?_⟩, ?_, ?_⟩
    · have h6 := h.edge i (by omega)
      rw [getD_get (by omega), getD_get hi]
      have e1 : (i + 1) % t.length = i + 1 := Nat.mod_eq_of_lt hi
      simp only [e1] at h6
      exact h6
    · cases t with
      | nil => exact absurd h.pos (by simp)
      | cons x r => rfl
    · have hpos := h.pos
      have h6 := h.edge (t.length - 1) (by omega)
      have e2 : (t.length - 1 + 1) % t.length = 0 := by rw [show t.length - 1 + 1 = t.length from by omega, Nat.mod_self]
      simp only [e2] at h6
      rw [getD_get (by omega), getD_get hpos]
      exact h6
theorem find_filter (p q : List Nat → Bool) (l : List (List Nat)) : (l.filter p).find? q = l.find? fun x => p x && q x := by
  rw [← List.head?_filter, ← List.head?_filter, List.filter_filter]
  congr 2
  funext x
  exact Bool.and_comm _ _
theorem find_congr {p q : List Nat → Bool} {l : List (List Nat)} (h : ∀ x ∈ l, p x = q x) : l.find? p = l.find? q := by
  rw [← List.head?_filter, ← List.head?_filter, List.filter_congr h]
theorem find_lv (L : List Nat) (s : Nat) : (lvB L s).find? (backB L) = (nodL L.length s).find? (walkB L) := by
  have h1 : lvB L s = (allT L.length s).filter (stepsP (goB L) []) := by
    unfold lvB
    rw [ext_filter]
    simp
  rw [h1, nodL_filter, find_filter, find_filter]
  refine find_congr fun t ht => ?_
  obtain ⟨_, h2⟩ := allT_mem.1 ht
  rw [Bool.eq_iff_iff, Bool.and_eq_true, Bool.and_eq_true, go_cyc h2, walk_iff h2, stepsN_iff]
  exact ⟨fun h => ⟨⟨h.nodup, fun b hb => (by cases hb)⟩, h⟩, fun h => h.2⟩
theorem least_G (L : List Nat) : ∀ f s, leastG L f s = (((List.range' s f).flatMap (lvB L)).find? (backB L)).getD [] := by
  intro f
  induction f with
  | zero => intro s; rfl
  | succ f ih =>
    intro s
    rw [leastG, List.range'_succ, List.flatMap_cons, List.find?_append, find_lv]
    cases hf : (nodL L.length s).find? (walkB L) with
    | some r => rfl
    | none =>
      rw [Option.none_or]
      exact ih (s + 1)
theorem least_seq (L : List Nat) : leastS L = ((seqB L).find? (backB L)).getD [] := by
  unfold leastS seqB
  rw [least_G, List.range_eq_range', List.range'_succ, List.flatMap_cons, List.find?_append]
  have h0 : (lvB L 0).find? (backB L) = none := rfl
  rw [h0, Option.none_or]
theorem seq_mem {L r : List Nat} (h : r ∈ seqB L) : r.length ≤ L.length ∧ (∀ k ∈ r, k < L.length) ∧ r.Nodup := by
  obtain ⟨s, hs, hr⟩ := List.mem_flatMap.1 h
  have hs' := List.mem_range.1 hs
  obtain ⟨h1, h2, h3⟩ := ext_mem hr
  exact ⟨by omega, h2, ((steps_go L r []).1 h3).1⟩
theorem lv_end (L : List Nat) : lvB L (L.length + 1) = [] := by
  rcases hl : lvB L (L.length + 1) with _ | ⟨r, t⟩
  · rfl
  · exfalso
    have hr : r ∈ lvB L (L.length + 1) := by rw [hl]; exact List.mem_cons_self ..
    obtain ⟨h1, h2, h3⟩ := ext_mem hr
    have h4 := nodup_le r (List.range L.length) ((steps_go L r []).1 h3).1 fun x hx => List.mem_range.2 (h2 x hx)
    rw [List.length_range] at h4
    omega
/-- behind a way comes what comes of it -/
theorem seq_eq (L : List Nat) : seqB L = [] :: (seqB L).flatMap fun r => chK L r L.length := by
  have h1 : (seqB L).flatMap (fun r => chK L r L.length) = (List.range (L.length + 1)).flatMap fun s => lvB L (s + 1) := by
    unfold seqB
    rw [List.flatMap_assoc]
    refine congrArg (fun f => (List.range (L.length + 1)).flatMap f) (funext fun s => (lvB_snoc L s).symm)
  rw [h1, List.range_succ, List.flatMap_append]
  have h2 : ([L.length].flatMap fun s => lvB L (s + 1)) = [] := by
    rw [List.flatMap_cons, lv_end]; rfl
  rw [h2, List.append_nil]
  unfold seqB
  rw [List.range_succ_eq_map, List.flatMap_cons, List.flatMap_map]
  rfl
theorem seq_len {L : List Nat} (hl : L.length ≤ 6) : (seqB L).length ≤ 326592 := by
  have h1 : ∀ l : List Nat, (∀ s ∈ l, s ≤ 6) → (l.flatMap (lvB L)).length ≤ l.length * 46656 := by
    intro l
    induction l with
    | nil => intro _; simp
    | cons s r ih =>
      intro h
      rw [List.flatMap_cons, List.length_append, List.length_cons]
      have h2 := ih fun x hx => h x (List.mem_cons_of_mem _ hx)
      have h3 := ext_len L.length (goB L) s []
      have h4 : L.length ^ s ≤ 6 ^ s := Nat.pow_le_pow_left hl _
      have h5 : 6 ^ s ≤ 6 ^ 6 := Nat.pow_le_pow_right (by decide) (h s (List.mem_cons_self ..))
      have h6 : (lvB L s).length ≤ 46656 := Nat.le_trans h3 (Nat.le_trans h4 h5)
      omega
  have h2 := h1 (List.range (L.length + 1)) fun s hs => by have := List.mem_range.1 hs; omega
  rw [List.length_range] at h2
  unfold seqB
  omega
/-- the ways that have come out of the queue, and those in it -/
structure QueB (L : List Nat) (D Q : List (List Nat)) : Prop where
  eq : D ++ Q = [] :: D.flatMap fun r => chK L r L.length
  pre : D <+: seqB L
  no : ∀ r ∈ D, backB L r = false
theorem QueB.start (L : List Nat) : QueB L [] [[]] := ⟨rfl, List.nil_prefix, fun r hr => (by cases hr)⟩
theorem QueB.whole {L : List Nat} {D Q : List (List Nat)} (h : QueB L D Q) : D ++ Q <+: seqB L := by
  rw [h.eq, seq_eq]
  obtain ⟨E, hE⟩ := h.pre
  refine ⟨E.flatMap fun r => chK L r L.length, ?_⟩
  rw [List.cons_append, ← List.flatMap_append, hE]
theorem QueB.pop {L : List Nat} {D Q : List (List Nat)} {r : List Nat} (h : QueB L D (r :: Q)) (hb : backB L r = false) : QueB L (D ++ [r]) (Q ++ chK L r L.length) := by
  refine ⟨?_, ?_, fun x hx => ?_⟩
  · have h1 := h.eq
    rw [List.flatMap_append, ← List.cons_append, ← h1]
    simp
  · obtain ⟨E, hE⟩ := h.whole
    exact ⟨Q ++ E, by rw [← hE]; simp⟩
  · rcases List.mem_append.1 hx with hx | hx
    · exact h.no x hx
    · rw [List.mem_singleton.1 hx]; exact hb
theorem QueB.size {L : List Nat} {D Q : List (List Nat)} (h : QueB L D Q) : D.length + Q.length ≤ (seqB L).length := by
  have := h.whole.length_le
  rwa [List.length_append] at this
theorem QueB.mem {L : List Nat} {D Q : List (List Nat)} (h : QueB L D Q) {r : List Nat} (hr : r ∈ Q) : r.length ≤ L.length ∧ (∀ k ∈ r, k < L.length) ∧ r.Nodup :=
  seq_mem (h.whole.subset (List.mem_append_right _ hr))
theorem QueB.found {L : List Nat} {D Q : List (List Nat)} {r : List Nat} (h : QueB L D (r :: Q)) (hb : backB L r = true) : leastS L = r := by
  obtain ⟨E, hE⟩ := h.whole
  rw [least_seq, ← hE, List.append_assoc, List.find?_append]
  have h0 : D.find? (backB L) = none := List.find?_eq_none.2 fun x hx => by rw [h.no x hx]; decide
  rw [h0, Option.none_or, List.cons_append, List.find?_cons, hb]
  rfl
theorem QueB.none {L : List Nat} {D : List (List Nat)} (h : QueB L D []) : leastS L = [] := by
  obtain ⟨E, hE⟩ := h.pre
  have h1 := h.eq
  rw [List.append_nil] at h1
  have h2 := seq_eq L
  rw [← hE, List.flatMap_append, ← List.cons_append, ← h1] at h2
  have h3 : E = E.flatMap fun r => chK L r L.length := List.append_cancel_left h2
  have h4 : ∀ m, ∀ r ∈ E, m ≤ r.length := by
    intro m
    induction m with
    | zero => intro r _; exact Nat.zero_le _
    | succ m ih =>
      intro r hr
      rw [h3] at hr
      obtain ⟨x, hx, hr⟩ := List.mem_flatMap.1 hr
      obtain ⟨k, _, rfl⟩ := List.mem_map.1 hr
      have := ih x hx
      simp
      omega
  have h5 : E = [] := by
    cases E with
    | nil => rfl
    | cons r t =>
      have h6 := h4 (L.length + 1) r (List.mem_cons_self ..)
      have h7 := (seq_mem (L := L) (r := r) (by rw [← hE]; simp)).1
      omega
  subst h5
  rw [List.append_nil] at hE
  rw [least_seq, ← hE, List.find?_eq_none.2 fun x hx => by rw [h.no x hx]; decide]
  rfl
end Go.Proofs.Ytclhbnfnmpabbaa.RPlain
