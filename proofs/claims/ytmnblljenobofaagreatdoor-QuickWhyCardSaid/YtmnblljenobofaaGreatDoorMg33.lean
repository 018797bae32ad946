/- Merged: CycB, ExtP, CycC. -/
import Derived.Test.YtmnblljenobofaaGreatDoorMg6
import Derived.Test.YtmnblljenobofaaGreatDoorMg23
import Derived.Test.YtmnblljenobofaaGreatDoorMg26
import Derived.Test.YtmnblljenobofaaGreatDoorMg24
import Derived.Test.YtmnblljenobofaaGreatDoorMg14
import Derived.Test.YtmnblljenobofaaGreatDoorMg17
import Derived.Deep.QuietTactic
import Derived.BigQuiet
/- Plain words: the program's search for a way back, way by way out of a queue. -/
namespace Go.Proofs.YtmnblljenobofaaGreatDoor.RPlain

def lastB (row : List Nat) : Nat := row.getD (row.length - 1) 0
/-- may a way have this place next? -/
def goB (L row : List Nat) (k : Nat) : Bool := row.isEmpty || (aft L (lastB row) k && !row.contains k)
/-- does a way lead back? -/
def backB (L row : List Nat) : Bool := !row.isEmpty && aft L (lastB row) (row.getD 0 0)
/-- what comes of a way, up to a place -/
def chK (L row : List Nat) (k : Nat) : List (List Nat) := ((List.range k).filter (goB L row)).map fun x => row ++ [x]
theorem chK_snoc (L row : List Nat) (k : Nat) : chK L row (k + 1) = if goB L row k = true then chK L row k ++ [row ++ [k]] else chK L row k := by
  unfold chK
  rw [List.range_succ, List.filter_append, List.map_append]
  cases h : goB L row k <;> simp [h]
theorem chK_le (L row : List Nat) {k m : Nat} (h : k ≤ m) : (chK L row k).length ≤ (chK L row m).length := by
  obtain ⟨d, rfl⟩ := Nat.le.dest h
  unfold chK
  rw [List.length_map, List.length_map, List.range_add, List.filter_append, List.length_append]
  omega
def lvB (L : List Nat) (s : Nat) : List (List Nat) := extP L.length (goB L) s []
theorem lvB_snoc (L : List Nat) (s : Nat) : lvB L (s + 1) = (lvB L s).flatMap fun r => chK L r L.length := ext_snoc _ _ _ _
/-- all ways, as they come out of the queue -/
def seqB (L : List Nat) : List (List Nat) := (List.range (L.length + 1)).flatMap (lvB L)
theorem getD_app {l : List Nat} {r : List Nat} {i : Nat} (h : i < l.length) : (l ++ r).getD i 0 = l.getD i 0 := by
  rw [List.getD_eq_getElem?_getD, List.getElem?_append_left h, ← List.getD_eq_getElem?_getD]
theorem getD_mid (l r : List Nat) (k : Nat) : (l ++ k :: r).getD l.length 0 = k := by
  rw [List.getD_eq_getElem?_getD, List.getElem?_append_right (Nat.le_refl _), Nat.sub_self]; rfl
theorem steps_go (L : List Nat) : ∀ (t row : List Nat), stepsP (goB L) row t = true ↔ t.Nodup ∧ (∀ b ∈ row, ∀ a ∈ t, a ≠ b) ∧ ∀ i, row.length ≤ i + 1 → i + 1 < (row ++ t).length → aft L ((row ++ t).getD i 0) ((row ++ t).getD (i + 1) 0) = true := by
  intro t
  induction t with
  | nil =>
    intro row
    rw [stepsP]
    refine ⟨fun _ => ⟨List.nodup_nil, fun b _ a ha => (by cases ha), fun i h1 h2 => ?_⟩, fun _ => rfl⟩
    rw [List.append_nil] at h2
    omega
  | cons k r ih =>
    intro row
    rw [stepsP, Bool.and_eq_true, ih, List.nodup_cons]
    have happ : row ++ [k] ++ r = row ++ k :: r := by simp
    rw [happ]
    have hk : (row ++ k :: r).getD row.length 0 = k := getD_mid row r k
    have hgo : goB L row k = true ↔ (k ∉ row ∧ ∀ i, i + 1 = row.length → aft L ((row ++ k :: r).getD i 0) k = true) := by
      unfold goB lastB
      cases row with
      | nil => simp
      | cons x s =>
        have e1 : ∀ i, i + 1 = (x :: s).length → (x :: s ++ k :: r).getD i 0 = (x :: s).getD ((x :: s).length - 1) 0 := fun i hi => by
          rw [getD_app (by omega), show i = (x :: s).length - 1 from by omega]
        rw [List.isEmpty_cons, Bool.false_or, Bool.and_eq_true, Bool.not_eq_true', List.contains_eq_mem, decide_eq_false_iff_not]
        constructor
        · rintro ⟨h1, h2⟩
          exact ⟨h2, fun i hi => by rw [e1 i hi]; exact h1⟩
        · rintro ⟨h1, h2⟩
          have h3 := h2 ((x :: s).length - 1) (by simp)
          rw [e1 _ (by simp)] at h3
          exact ⟨h3, h1⟩
    rw [hgo]
    constructor
    · rintro ⟨⟨h1, h2⟩, h3, h4, h5⟩
      refine ⟨⟨fun hm => h4 k (by simp) k hm rfl, h3⟩, fun b hb a ha => ?_, fun i hi hlt => ?_⟩
      · rcases List.mem_cons.1 ha with rfl | ha
        · exact fun hc => h1 (hc ▸ hb)
        · exact h4 b (List.mem_append_left _ hb) a ha
      · by_cases he : i + 1 = row.length
        · rw [show i + 1 = row.length from he, hk]
          exact h2 i he
        · exact h5 i (by simp; omega) hlt
    · rintro ⟨⟨h1, h2⟩, h3, h4⟩
      refine ⟨⟨fun hm => h3 k hm k (List.mem_cons_self ..) rfl, fun i hi => ?_⟩, h2, fun b hb a ha => ?_, fun i hi hlt => h4 i (by simp at hi; omega) hlt⟩
      · have h5 := h4 i (by omega) (by simp; omega)
        rw [hi, hk] at h5
        exact h5
      · rcases List.mem_append.1 hb with hb | hb
        · exact h3 b hb a (List.mem_cons_of_mem _ ha)
        · rw [List.mem_singleton.1 hb]; exact fun hc => h1 (hc ▸ ha)
/-- the whole ways that lead back are the cycles -/
theorem go_cyc {L t : List Nat} (hlt : ∀ k ∈ t, k < L.length) : (stepsP (goB L) [] t = true ∧ backB L t = true) ↔ Cyc L t := by
  rw [steps_go]
  simp only [List.nil_append, List.length_nil, Nat.zero_le, forall_const]
  unfold backB lastB
  rw [Bool.and_eq_true]
  constructor
  · rintro ⟨⟨h1, _, h3⟩, h4, h5⟩
    have hpos : 0 < t.length := by
      cases t with
      | nil => cases h4
      | cons x r => simp
    refine ⟨hpos, h1, hlt, fun i hi => ?_⟩
    by_cases hl : i + 1 < t.length
    · have h6 := h3 i hl
      rw [getD_get (by omega), getD_get hl] at h6
      have e1 : (i + 1) % t.length = i + 1 := Nat.mod_eq_of_lt hl
      simp only [e1]
      exact h6
    · have e1 : i = t.length - 1 := by omega
      have e2 : (i + 1) % t.length = 0 := by rw [show i + 1 = t.length from by omega, Nat.mod_self]
      rw [getD_get (by omega), getD_get hpos] at h5
      simp only [e2]
      simp only [e1]
      exact h5
  · intro h
    refine ⟨⟨h.nodup, fun b hb => (by cases hb), fun i hi => ?_⟩, ?_, ?_⟩
    · have h6 := h.edge i (by omega)
      rw [getD_get (by omega), getD_get hi]
      have e1 : (i + 1) % t.length = i + 1 := Nat.mod_eq_of_lt hi
      simp only [e1] at h6
      exact h6
    · cases t with
      | nil => exact absurd h.pos (by simp)
      | cons x r => rfl
    · have hpos := h.pos
      have h6 := h.edge (t.length - 1) (by omega)
      have e2 : (t.length - 1 + 1) % t.length = 0 := by rw [show t.length - 1 + 1 = t.length from by omega, Nat.mod_self]
      simp only [e2] at h6
      rw [getD_get (by omega), getD_get hpos]
      exact h6
theorem find_filter (p q : List Nat → Bool) (l : List (List Nat)) : (l.filter p).find? q = l.find? fun x => p x && q x := by
  rw [← List.head?_filter, ← List.head?_filter, List.filter_filter]
  congr 2
  funext x
  exact Bool.and_comm _ _
theorem find_congr {p q : List Nat → Bool} {l : List (List Nat)} (h : ∀ x ∈ l, p x = q x) : l.find? p = l.find? q := by
  rw [← List.head?_filter, ← List.head?_filter, List.filter_congr h]
theorem find_lv (L : List Nat) (s : Nat) : (lvB L s).find? (backB L) = (nodL L.length s).find? (walkB L) := by
  have h1 : lvB L s = (allT L.length s).filter (stepsP (goB L) []) := by
    unfold lvB
    rw [ext_filter]
    simp
  rw [h1, nodL_filter, find_filter, find_filter]
  refine find_congr fun t ht => ?_
  obtain ⟨_, h2⟩ := allT_mem.1 ht
  rw [Bool.eq_iff_iff, Bool.and_eq_true, Bool.and_eq_true, go_cyc h2, walk_iff h2, stepsN_iff]
  exact ⟨fun h => ⟨⟨h.nodup, fun b hb => (by cases hb)⟩, h⟩, fun h => h.2⟩
theorem least_G (L : List Nat) : ∀ f s, leastG L f s = (((List.range' s f).flatMap (lvB L)).find? (backB L)).getD [] := by
  intro f
  induction f with
  | zero => intro s; rfl
  | succ f ih =>
    intro s
    rw [leastG, List.range'_succ, List.flatMap_cons, List.find?_append, find_lv]
    cases hf : (nodL L.length s).find? (walkB L) with
    | some r => rfl
    | none =>
      rw [Option.none_or]
      exact ih (s + 1)
theorem least_seq (L : List Nat) : leastS L = ((seqB L).find? (backB L)).getD [] := by
  unfold leastS seqB
  rw [least_G, List.range_eq_range', List.range'_succ, List.flatMap_cons, List.find?_append]
  have h0 : (lvB L 0).find? (backB L) = none := rfl
  rw [h0, Option.none_or]
theorem seq_mem {L r : List Nat} (h : r ∈ seqB L) : r.length ≤ L.length ∧ (∀ k ∈ r, k < L.length) ∧ r.Nodup := by
  obtain ⟨s, hs, hr⟩ := List.mem_flatMap.1 h
  have hs' := List.mem_range.1 hs
  obtain ⟨h1, h2, h3⟩ := ext_mem hr
  exact ⟨by omega, h2, ((steps_go L r []).1 h3).1⟩
theorem lv_end (L : List Nat) : lvB L (L.length + 1) = [] := by
  rcases hl : lvB L (L.length + 1) with _ | ⟨r, t⟩
  · rfl
  · exfalso
    have hr : r ∈ lvB L (L.length + 1) := by rw [hl]; exact List.mem_cons_self ..
    obtain ⟨h1, h2, h3⟩ := ext_mem hr
    have h4 := nodup_le r (List.range L.length) ((steps_go L r []).1 h3).1 fun x hx => List.mem_range.2 (h2 x hx)
    rw [List.length_range] at h4
    omega
/-- behind a way comes what comes of it -/
theorem seq_eq (L : List Nat) : seqB L = [] :: (seqB L).flatMap fun r => chK L r L.length := by
  have h1 : (seqB L).flatMap (fun r => chK L r L.length) = (List.range (L.length + 1)).flatMap fun s => lvB L (s + 1) := by
    unfold seqB
    rw [List.flatMap_assoc]
    refine congrArg (fun f => (List.range (L.length + 1)).flatMap f) (funext fun s => (lvB_snoc L s).symm)
  rw [h1, List.range_succ, List.flatMap_append]
  have h2 : ([L.length].flatMap fun s => lvB L (s + 1)) = [] := by
    rw [List.flatMap_cons, lv_end]; rfl
  rw [h2, List.append_nil]
  unfold seqB
  rw [List.range_succ_eq_map, List.flatMap_cons, List.flatMap_map]
  rfl
theorem seq_len {L : List Nat} (hl : L.length ≤ 6) : (seqB L).length ≤ 326592 := by
  have h1 : ∀ l : List Nat, (∀ s ∈ l, s ≤ 6) → (l.flatMap (lvB L)).length ≤ l.length * 46656 := by
    intro l
    induction l with
    | nil => intro _; simp
    | cons s r ih =>
      intro h
      rw [List.flatMap_cons, List.length_append, List.length_cons]
      have h2 := ih fun x hx => h x (List.mem_cons_of_mem _ hx)
      have h3 := ext_len L.length (goB L) s []
      have h4 : L.length ^ s ≤ 6 ^ s := Nat.pow_le_pow_left hl _
      have h5 : 6 ^ s ≤ 6 ^ 6 := Nat.pow_le_pow_right (by decide) (h s (List.mem_cons_self ..))
      have h6 : (lvB L s).length ≤ 46656 := Nat.le_trans h3 (Nat.le_trans h4 h5)
      omega
  have h2 := h1 (List.range (L.length + 1)) fun s hs => by have := List.mem_range.1 hs; omega
  rw [List.length_range] at h2
  unfold seqB
  omega
/-- the ways that have come out of the queue, and those in it -/
structure QueB (L : List Nat) (D Q : List (List Nat)) : Prop where
  eq : D ++ Q = [] :: D.flatMap fun r => chK L r L.length
  pre : D <+: seqB L
  no : ∀ r ∈ D, backB L r = false
theorem QueB.start (L : List Nat) : QueB L [] [[]] := ⟨rfl, List.nil_prefix, fun r hr => (by cases hr)⟩
theorem QueB.whole {L : List Nat} {D Q : List (List Nat)} (h : QueB L D Q) : D ++ Q <+: seqB L := by
  rw [h.eq, seq_eq]
  obtain ⟨E, hE⟩ := h.pre
  refine ⟨E.flatMap fun r => chK L r L.length, ?_⟩
  rw [List.cons_append, ← List.flatMap_append, hE]
theorem QueB.pop {L : List Nat} {D Q : List (List Nat)} {r : List Nat} (h : QueB L D (r :: Q)) (hb : backB L r = false) : QueB L (D ++ [r]) (Q ++ chK L r L.length) := by
  refine ⟨?_, ?_, fun x hx => ?_⟩
  · have h1 := h.eq
    rw [List.flatMap_append, ← List.cons_append, ← h1]
    simp
  · obtain ⟨E, hE⟩ := h.whole
    exact ⟨Q ++ E, by rw [← hE]; simp⟩
  · rcases List.mem_append.1 hx with hx | hx
    · exact h.no x hx
    · rw [List.mem_singleton.1 hx]; exact hb
theorem QueB.size {L : List Nat} {D Q : List (List Nat)} (h : QueB L D Q) : D.length + Q.length ≤ (seqB L).length := by
  have := h.whole.length_le
  rwa [List.length_append] at this
theorem QueB.mem {L : List Nat} {D Q : List (List Nat)} (h : QueB L D Q) {r : List Nat} (hr : r ∈ Q) : r.length ≤ L.length ∧ (∀ k ∈ r, k < L.length) ∧ r.Nodup :=
  seq_mem (h.whole.subset (List.mem_append_right _ hr))
theorem QueB.found {L : List Nat} {D Q : List (List Nat)} {r : List Nat} (h : QueB L D (r :: Q)) (hb : backB L r = true) : leastS L = r := by
  obtain ⟨E, hE⟩ := h.whole
  rw [least_seq, ← hE, List.append_assoc, List.find?_append]
  have h0 : D.find? (backB L) = none := List.find?_eq_none.2 fun x hx => by rw [h.no x hx]; decide
  rw [h0, Option.none_or, List.cons_append, List.find?_cons, hb]
  rfl
theorem QueB.none {L : List Nat} {D : List (List Nat)} (h : QueB L D []) : leastS L = [] := by
  obtain ⟨E, hE⟩ := h.pre
  have h1 := h.eq
  rw [List.append_nil] at h1
  have h2 := seq_eq L
  rw [← hE, List.flatMap_append, ← List.cons_append, ← h1] at h2
  have h3 : E = E.flatMap fun r => chK L r L.length := List.append_cancel_left h2
  have h4 : ∀ m, ∀ r ∈ E, m ≤ r.length := by
    intro m
    induction m with
    | zero => intro r _; exact Nat.zero_le _
    | succ m ih =>
      intro r hr
      rw [h3] at hr
      obtain ⟨x, hx, hr⟩ := List.mem_flatMap.1 hr
      obtain ⟨k, _, rfl⟩ := List.mem_map.1 hr
      have := ih x hx
      simp
      omega
  have h5 : E = [] := by
    cases E with
    | nil => rfl
    | cons r t =>
      have h6 := h4 (L.length + 1) r (List.mem_cons_self ..)
      have h7 := (seq_mem (L := L) (r := r) (by rw [← hE]; simp)).1
      omega
  subst h5
  rw [List.append_nil] at hE
  rw [least_seq, ← hE, List.find?_eq_none.2 fun x hx => by rw [h.no x hx]; decide]
  rfl
end Go.Proofs.YtmnblljenobofaaGreatDoor.RPlain
/- The walks of the law's alive, and of Ints at rows of places. -/
namespace Go.Proofs.YtmnblljenobofaaGreatDoor.RPlain
end Go.Proofs.YtmnblljenobofaaGreatDoor.RPlain
namespace Go.Proofs.YtmnblljenobofaaGreatDoor
open Go.RowKit RPlain

theorem belowDrewN {w : World} {n : Nat} : Below w.heap.size w (w.drewN n) := ⟨rfl, rfl, rfl, Nat.le_refl _, fun _ _ => rfl⟩
theorem intsN_any (v1 v2 : Value) (L : List Nat) (w : World) (h1 : Rd w v1 (nats L)) (h2 : Rd w v2 (nats L)) (hl : L.length ≤ 65536) :
    Calls Tryz.prog 15 #[v1, v2] w fun e w' => e = .returned (.bool true) ∧ Below w.heap.size w w' := by
  have he : nats L = (L.map fun (x : Nat) => (x : Int)).map (.int .i64) := by simp [nats, Function.comp_def]
  rw [he] at h1 h2
  refine (ints_same _ v1 v2 w (by simp; omega) h1 h2).mono ?_
  rintro e w' ⟨rfl, n, rfl⟩
  exact ⟨rfl, belowDrewN⟩
end Go.Proofs.YtmnblljenobofaaGreatDoor
/- The walks of package cycle's bit, leads, last, with, mayGoTo and leadsBack. -/
namespace Go.Proofs.YtmnblljenobofaaGreatDoor.RPlain
end Go.Proofs.YtmnblljenobofaaGreatDoor.RPlain
namespace Go.Proofs.YtmnblljenobofaaGreatDoor
open Go.RowKit RPlain

/-- a way's cells: six places, those behind the row 0, and how many there are -/
def wayA (row : List Nat) : Array Value := #[.int .i64 (row.getD 0 0 : Nat), .int .i64 (row.getD 1 0 : Nat), .int .i64 (row.getD 2 0 : Nat), .int .i64 (row.getD 3 0 : Nat), .int .i64 (row.getD 4 0 : Nat), .int .i64 (row.getD 5 0 : Nat), .int .i64 (row.length : Nat)]
theorem wayA_get (row : List Nat) : ∀ i, i < 6 → (wayA row)[i]? = some (.int .i64 (row.getD i 0 : Nat))
  | 0, _ | 1, _ | 2, _ | 3, _ | 4, _ | 5, _ => rfl
  | n + 6, h => by omega
theorem bitCy_any (k : Nat) (hk : k < 32) (w : World) : Calls Tryz.prog 99 #[.int .i64 (k : Int)] w fun e w' => e = .returned (.int .u32 ((2 ^ k : Nat) : Int)) ∧ w' = w := by
  go_enter Tryz.func99, Tryz.ntmps99
  go_wp2
  go_ret
  exact ⟨by rw [pow_u32 hk]; rfl, rfl⟩
theorem bitCy_all (k : Nat) (hk : k < 32) : Hid (∀ w, Calls Tryz.prog 99 #[.int .i64 (k : Int)] w fun e w' => e = .returned (.int .u32 ((2 ^ k : Nat) : Int)) ∧ w' = w) := fun w => bitCy_any k hk w
theorem aft_at {A : List Nat} {i k : Nat} (hi : i < A.length) : aft A i k = A[i].testBit k := by
  unfold aft
  rw [List.getD_eq_getElem?_getD, List.getElem?_eq_getElem hi, Option.getD_some]
set_option maxRecDepth 100000 in
theorem leadsC_any (v : Value) (A : List Nat) (i k : Nat) (w : World) (hv : Rd w v (u32s A)) (hA : ∀ x ∈ A, x < 4294967296) (hl : A.length ≤ 65536) (hi : i < A.length) (hk : k < 32) :
    Calls Tryz.prog 101 #[v, .int .i64 (i : Int), .int .i64 (k : Int)] w fun e w' => e = .returned (.bool (aft A i k)) ∧ Below w.heap.size w w' := by
  obtain ⟨b, o, c, rfl, hb, hc⟩ := hv.opened (by rw [u32s_len]; omega)
  rw [u32s_len]
  have hci := hc i _ (u32s_get hi)
  have hai := hA _ (List.getElem_mem hi)
  rw [aft_at hi]
  have HBT := bitCy_all k hk
  have hlt3 : 2 ^ k < 4294967296 := Nat.pow_lt_pow_right (a := 2) (m := k) (n := 32) (by decide) hk
  have hand := u32_and_nat A[i] (2 ^ k) hai hlt3
  have hap := and_pow2 A[i] k
  have hpos : 0 < 2 ^ k := Nat.two_pow_pos k
  generalize A[i] = cm at *
  obtain ⟨pw, hpw⟩ : ∃ pw, 2 ^ k = pw := ⟨_, rfl⟩
  rw [hpw] at HBT hand hap hpos
  have hil : (i : Int) < (A.length : Int) := by omega
  clear hpw hlt3 hc hv hA hb
  generalize cm &&& pw = za at *
  have HZ : Hid (((za : Int) != 0) = cm.testBit k) := by
    unfold Hid
    rw [hap]
    cases cm.testBit k with
    | false => rfl
    | true => rw [if_pos rfl]; simp; omega
  clear hap hpos
  go_enter Tryz.func101, Tryz.ntmps101
  go_upto_region 1 with fail
  go_quiet ((go_at_call 99; exact Calls.quiet_of_same (HBT.out _)))
  go_wp2
  go_ret
  exact ⟨ret_bool HZ.out, belowDrewN⟩
set_option maxRecDepth 100000 in
theorem lastC_any (row : List Nat) (w : World) (h6 : row.length ≤ 6) (h0 : 0 < row.length) :
    Calls Tryz.prog 102 #[.agg (wayA row)] w fun e w' => e = .returned (.int .i64 (lastB row : Nat)) ∧ Below w.heap.size w w' := by
  obtain ⟨n, hn⟩ : ∃ n, row.length = n + 1 := ⟨row.length - 1, by omega⟩
  have hA := At.new w (wayA row) 102
  have hB := (Below.refl w.heap.size w).alloc (Nat.le_refl _) (.cells (wayA row) 102)
  have hcl : (w.alloc (.cells (wayA row) 102)).cell? ⟨w.heap.size, n, none⟩ = some (.int .i64 (lastB row : Nat)) := hA.cell (by rw [wayA_get row n (by omega)]; unfold lastB; rw [hn]; rfl)
  have hce : (w.alloc (.cells (wayA row) 102)).cell? ⟨w.heap.size, 6, none⟩ = some (.int .i64 ((n : Int) + 1)) := hA.cell (by show some (Value.int .i64 (row.length : Nat)) = _; rw [hn]; rfl)
  have hn5 : n ≤ 5 := by omega
  have hsub : ((n : Int) + 1 - 1) = (n : Int) := by omega
  have HB := Lib.hid hB
  unfold wayA at *
  generalize lastB row = y at *
  clear hA hB h0 hn h6
  generalize row.getD 0 0 = p0 at *
  generalize row.getD 1 0 = p1 at *
  generalize row.getD 2 0 = p2 at *
  generalize row.getD 3 0 = p3 at *
  generalize row.getD 4 0 = p4 at *
  generalize row.getD 5 0 = p5 at *
  generalize row.length = p6 at *
  go_enter Tryz.func102, Tryz.ntmps102
  go_upto_region 1 with fail
  generalize w.alloc (.cells #[.int .i64 (p0 : Int), .int .i64 (p1 : Int), .int .i64 (p2 : Int), .int .i64 (p3 : Int), .int .i64 (p4 : Int), .int .i64 (p5 : Int), .int .i64 (p6 : Int)] 102) = w2 at *
  go_wp2
  go_ret
  exact ⟨rfl, HB.out⟩
set_option maxRecDepth 100000 in
set_option maxHeartbeats 1000000 in
theorem withC_any (row : List Nat) (k : Nat) (w : World) (h5 : row.length ≤ 5) :
    Calls Tryz.prog 71 #[.agg (wayA row), .int .i64 (k : Int)] w fun e w' => e = .returned (.agg (wayA (row ++ [k]))) ∧ Below w.heap.size w w' := by
  unfold wayA
  rcases row with _ | ⟨a, _ | ⟨b, _ | ⟨c, _ | ⟨d, _ | ⟨e, _ | ⟨f, r⟩⟩⟩⟩⟩⟩
  case cons.cons.cons.cons.cons.cons => simp at h5
  all_goals
    clear h5
    simp only [List.getD_cons_succ, List.getD_cons_zero, List.getD_nil, List.length_cons, List.length_nil, Nat.zero_add, Nat.reduceAdd, List.cons_append, List.nil_append]
    go_enter Tryz.func71, Tryz.ntmps71
    go_wp2
    refine bodyPost_ret ?_ rfl ⟨rfl, ((Below.refl _ _).alloc (Nat.le_refl _) _).alloc (by simp) _⟩
    simp [results, Tryz.results71, go_sem]
theorem containsCy_any (row : List Nat) (N k : Nat) (w : World) (hA : At w N (wayA row) 102) (h6 : row.length ≤ 6) :
    Calls Tryz.prog 103 #[.slice (some ⟨N, 0, none⟩) row.length 6, .int .i64 (k : Int)] w fun e w' => e = .returned (.bool (row.contains k)) ∧ w' = w := by
  have hz : ∀ i, i < 6 → ((List.range 6).map fun i => ((row.getD i 0 : Nat) : Int)).getD i 0 = ((row.getD i 0 : Nat) : Int) := fun i hi => by
    rw [List.getD_eq_getElem?_getD, List.getElem?_map, List.getElem?_range hi]; rfl
  have hc := Tryz.slices_Contains_int N 0 row.length 6 ((List.range 6).map fun i => ((row.getD i 0 : Nat) : Int)) (k : Int) w (by simp; omega) (by omega) (fun j hj => by
    have hj6 : j < 6 := by simpa using hj
    rw [Nat.zero_add, hz j hj6]
    exact hA.cell (wayA_get row j hj6))
  have he : ((((List.range 6).map fun i => ((row.getD i 0 : Nat) : Int))).take row.length).contains (k : Int) = row.contains k := by
    have h1 : (((List.range 6).map fun i => ((row.getD i 0 : Nat) : Int))).take row.length = row.map fun (x : Nat) => (x : Int) := by
      refine List.ext_getElem (by simp; omega) fun i h1 h2 => ?_
      have hi : i < row.length := by simpa using h2
      rw [List.getElem_take, List.getElem_map, List.getElem_map, List.getElem_range, getD_get hi]
    rw [h1, Bool.eq_iff_iff, List.contains_eq_mem, List.contains_eq_mem, decide_eq_true_eq, decide_eq_true_eq, List.mem_map]
    exact ⟨fun ⟨a, h2, h3⟩ => by rw [← show a = k from by omega]; exact h2, fun h => ⟨k, h, rfl⟩⟩
  rw [he] at hc
  exact hc
/-- a.b[:n] of an array within a block -/
theorem run_sliceArr {P : Program} (w : World) (t e : TypeId) (N : Nat) (ht : P.underlying t = some (.array N e)) (hs : (P.info? e).map (·.size) = some 1) (b o n : Nat) (hn : n ≤ N) :
    (Instr.sliceAt t (.pointer (some ⟨b, o, none⟩)) none (some (.int .i64 (n : Int))) none).run P w = .ok (.slice (some ⟨b, o, none⟩) n N) w := by
  have hadd : (⟨b, o, none⟩ : Addr).add 0 = ⟨b, o, none⟩ := by unfold Addr.add; split <;> simp_all
  have h1 : (n : Int) ≤ (N : Int) := by omega
  have hi : (asIntOf (.int .i64 (n : Int))).run P w = .ok (.i64, (n : Int)) w := rfl
  cases hq : P.info? e with
  | none => simp [hq] at hs
  | some i =>
    have hs' : i.size = 1 := by simpa [hq] using hs
    simp [Instr.sliceAt, Instr.sliceBounds, Instr.sliceBound, hi, Sem.run_bind, run_underlying ht, sizeOf, typeInfo, hq, h1, hadd, Instr.sureAddr]
set_option maxRecDepth 100000 in
set_option maxHeartbeats 1000000 in
theorem mayGoTo_any (v : Value) (A row : List Nat) (k : Nat) (w : World) (hv : Rd w v (u32s A)) (hA : ∀ x ∈ A, x < 4294967296) (hl : A.length ≤ 65536) (h6 : row.length ≤ 6) (hr : ∀ x ∈ row, x < A.length) (hk : k < 32) :
    Calls Tryz.prog 70 #[.agg (wayA row), v, .int .i64 (k : Int)] w fun e w' => e = .returned (.bool (goB A row k)) ∧ Below w.heap.size w w' := by
  have HB := Lib.hid ((Below.refl w.heap.size w).alloc (Nat.le_refl _) (.cells (wayA row) 102))
  have HAT := Lib.hid (At.new w (wayA row) 102)
  obtain ⟨va, vc, rfl⟩ := hv.len
  rw [u32s_len] at hv ⊢
  by_cases h0 : row.length = 0
  · obtain rfl : row = [] := List.length_eq_zero_iff.1 h0
    clear hv
    go_enter Tryz.func70, Tryz.ntmps70
    unfold wayA
    go_wp2
    go_ret
    exact ⟨rfl, HB.out⟩
  · have hlt := hr (lastB row) (by
      unfold lastB
      rw [getD_get (show row.length - 1 < row.length by omega)]
      exact List.getElem_mem _)
    have HLA := Lib.hid (fun (W : World) => lastC_any row W h6 (by omega))
    have HLE := Lib.hid (fun (W : World) (hW : Below w.heap.size w W) => leadsC_any _ A (lastB row) k W (hv.below hW (Nat.le_refl _)) hA hl hlt hk)
    have HCO := Lib.hid (fun (W : World) (hW : At W w.heap.size (wayA row) 102) => containsCy_any row w.heap.size k W hW h6)
    have hgo : goB A row k = (aft A (lastB row) k && !row.contains k) := by
      unfold goB
      cases row with
      | nil => simp at h0
      | cons x r => rfl
    rw [hgo]
    clear hgo hlt hv hr hA
    have hz : ∃ p0 p1 p2 p3 p4 p5 : Nat, wayA row = #[.int .i64 (p0 : Int), .int .i64 (p1 : Int), .int .i64 (p2 : Int), .int .i64 (p3 : Int), .int .i64 (p4 : Int), .int .i64 (p5 : Int), .int .i64 (row.length : Int)] := ⟨_, _, _, _, _, _, rfl⟩
    obtain ⟨p0, p1, p2, p3, p4, p5, hz⟩ := hz
    rw [hz] at HAT HB HLA HCO ⊢
    clear hz
    generalize lastB row = y at *
    generalize aft A y k = b1 at *
    generalize row.contains k = b2 at *
    have hn0 : ((row.length : Int) == 0) = false := by rw [beq_eq_false_iff_ne]; omega
    clear h0
    generalize row.length = n at *
    go_enter Tryz.func70, Tryz.ntmps70
    have e0 := HAT.out.cell (i := 0) rfl
    have e1 := HAT.out.cell (i := 1) rfl
    have e2 := HAT.out.cell (i := 2) rfl
    have e3 := HAT.out.cell (i := 3) rfl
    have e4 := HAT.out.cell (i := 4) rfl
    have e5 := HAT.out.cell (i := 5) rfl
    have e6 := HAT.out.cell (i := 6) rfl
    have hsl := fun (W : World) => run_sliceArr (P := Tryz.prog) W 100 3 6 Tryz.underlying100 (by kernel_rfl) w.heap.size 0 n h6
    generalize hw2 : w.alloc (.cells #[.int .i64 (p0 : Int), .int .i64 (p1 : Int), .int .i64 (p2 : Int), .int .i64 (p3 : Int), .int .i64 (p4 : Int), .int .i64 (p5 : Int), .int .i64 (n : Int)] 102) = w2 at HAT HB e0 e1 e2 e3 e4 e5 e6
    go_upto_region 1 with fail
    clear hw2
    cases b1 with
    | true =>
      go_wp2_with (first
        | (go_at_call 102; refine (HLA.out _).mono ?_; rintro e w3 ⟨rfl, hb3⟩; have HB3 := Lib.hid (HB.out.trans (hb3.mono HB.out.size)); have HAT3 := Lib.hid (HAT.out.below hb3 HAT.out.lt); clear hb3)
        | (go_at_call 101; refine (HLE.out _ HB3.out).mono ?_; rintro e w4 ⟨rfl, hb4⟩; have HB4 := Lib.hid (HB3.out.trans (hb4.mono HB3.out.size)); have HAT4 := Lib.hid (HAT3.out.below hb4 HAT3.out.lt); have f6 := HAT4.out.cell (i := 6) rfl; clear hb4)
        | (go_at_call 103; refine (HCO.out _ HAT4.out).mono ?_; rintro e w5 ⟨rfl, hw5⟩; rw [hw5]; clear hw5))
      go_ret
      exact ⟨rfl, HB4.out⟩
    | false =>
      go_wp2_with (first
        | (go_at_call 102; refine (HLA.out _).mono ?_; rintro e w3 ⟨rfl, hb3⟩; have HB3 := Lib.hid (HB.out.trans (hb3.mono HB.out.size)); clear hb3)
        | (go_at_call 101; refine (HLE.out _ HB3.out).mono ?_; rintro e w4 ⟨rfl, hb4⟩; have HB4 := Lib.hid (HB3.out.trans (hb4.mono HB3.out.size)); clear hb4))
      go_ret
      exact ⟨rfl, HB4.out⟩
set_option maxRecDepth 100000 in
set_option maxHeartbeats 1000000 in
theorem leadsBack_any (v : Value) (A row : List Nat) (w : World) (hv : Rd w v (u32s A)) (hA : ∀ x ∈ A, x < 4294967296) (hl : A.length ≤ 31) (h6 : row.length ≤ 6) (hr : ∀ x ∈ row, x < A.length) :
    Calls Tryz.prog 68 #[.agg (wayA row), v] w fun e w' => e = .returned (.bool (backB A row)) ∧ Below w.heap.size w w' := by
  have HB := Lib.hid ((Below.refl w.heap.size w).alloc (Nat.le_refl _) (.cells (wayA row) 102))
  have HAT := Lib.hid (At.new w (wayA row) 102)
  have mixed : Tryz.prog.follows .mixedOrders = true := by kernel_rfl
  obtain ⟨va, vc, rfl⟩ := hv.len
  rw [u32s_len] at hv ⊢
  by_cases h0 : row.length = 0
  · obtain rfl : row = [] := List.length_eq_zero_iff.1 h0
    have e6 := HAT.out.cell (i := 6) (v := .int .i64 0) rfl
    have hz : wayA [] = #[.int .i64 0, .int .i64 0, .int .i64 0, .int .i64 0, .int .i64 0, .int .i64 0, .int .i64 0] := rfl
    rw [hz] at HB HAT e6 ⊢
    clear hv h0 hr hz
    go_enter Tryz.func68, Tryz.ntmps68
    go_upto_region 1 with fail
    generalize w.alloc (.cells #[.int .i64 0, .int .i64 0, .int .i64 0, .int .i64 0, .int .i64 0, .int .i64 0, .int .i64 0] 102) = w2 at *
    go_quiet (fail)
    go_wp2
    go_ret
    exact ⟨rfl, HB.out.trans (belowDrewN.mono HB.out.size)⟩
  · have hlt : ∀ i, i < row.length → row.getD i 0 < A.length := fun i hi => by
      rw [getD_get hi]
      exact hr _ (List.getElem_mem _)
    have hlz := hlt 0 (by omega)
    have HLA := Lib.hid (fun (W : World) => lastC_any row W h6 (by omega))
    have hll := hlt (row.length - 1) (by omega)
    have HLE := Lib.hid (fun (W : World) (hW : Below w.heap.size w W) => leadsC_any _ A (lastB row) (row.getD 0 0) W (hv.below hW (Nat.le_refl _)) hA (by omega) hll (by omega))
    have hgo : backB A row = aft A (lastB row) (row.getD 0 0) := by
      unfold backB
      cases row with
      | nil => simp at h0
      | cons x r => rfl
    rw [hgo]
    clear hgo hlt hv hr hA hlz hll
    have hz : ∃ p1 p2 p3 p4 p5 : Nat, wayA row = #[.int .i64 (row.getD 0 0 : Nat), .int .i64 (p1 : Int), .int .i64 (p2 : Int), .int .i64 (p3 : Int), .int .i64 (p4 : Int), .int .i64 (p5 : Int), .int .i64 (row.length : Int)] := ⟨_, _, _, _, _, rfl⟩
    obtain ⟨p1, p2, p3, p4, p5, hz⟩ := hz
    rw [hz] at HAT HB HLA ⊢
    clear hz
    generalize lastB row = y at *
    generalize row.getD 0 0 = p0 at *
    generalize aft A y p0 = b1 at *
    have hn0 : decide (0 < row.length) = true := decide_eq_true (by omega)
    clear h0
    generalize row.length = n at *
    go_enter Tryz.func68, Tryz.ntmps68
    generalize hw2 : w.alloc (.cells #[.int .i64 (p0 : Int), .int .i64 (p1 : Int), .int .i64 (p2 : Int), .int .i64 (p3 : Int), .int .i64 (p4 : Int), .int .i64 (p5 : Int), .int .i64 (n : Int)] 102) = w2 at HAT HB
    go_upto_region 1 with fail
    clear hw2
    have k0 : ∀ p : Ext w2, p.wld.cell? ⟨w.heap.size, 0, none⟩ = some (.int .i64 (p0 : Int)) := fun p => cell_on p.below (HAT.out.cell rfl)
    have k1 : ∀ p : Ext w2, p.wld.cell? ⟨w.heap.size, 1, none⟩ = some (.int .i64 (p1 : Int)) := fun p => cell_on p.below (HAT.out.cell rfl)
    have k2 : ∀ p : Ext w2, p.wld.cell? ⟨w.heap.size, 2, none⟩ = some (.int .i64 (p2 : Int)) := fun p => cell_on p.below (HAT.out.cell rfl)
    have k3 : ∀ p : Ext w2, p.wld.cell? ⟨w.heap.size, 3, none⟩ = some (.int .i64 (p3 : Int)) := fun p => cell_on p.below (HAT.out.cell rfl)
    have k4 : ∀ p : Ext w2, p.wld.cell? ⟨w.heap.size, 4, none⟩ = some (.int .i64 (p4 : Int)) := fun p => cell_on p.below (HAT.out.cell rfl)
    have k5 : ∀ p : Ext w2, p.wld.cell? ⟨w.heap.size, 5, none⟩ = some (.int .i64 (p5 : Int)) := fun p => cell_on p.below (HAT.out.cell rfl)
    have k6 : ∀ p : Ext w2, p.wld.cell? ⟨w.heap.size, 6, none⟩ = some (.int .i64 (n : Int)) := fun p => cell_on p.below (HAT.out.cell rfl)
    have HLA2 : Hid (∀ W, Below w2.heap.size w2 W → Calls Tryz.prog 102 #[.agg #[.int .i64 (p0 : Int), .int .i64 (p1 : Int), .int .i64 (p2 : Int), .int .i64 (p3 : Int), .int .i64 (p4 : Int), .int .i64 (p5 : Int), .int .i64 (n : Int)]] W fun e w' => e = .returned (.int .i64 (y : Int)) ∧ Below W.heap.size W w') := fun W _ => HLA.out W
    have HLE2 := Lib.hid (fun (W : World) (hW : Below w2.heap.size w2 W) => HLE.out W (HB.out.trans (hW.mono HB.out.size)))
    refine wp_region_ext mixed (by kernel_rfl) ?_
    repeat (go_big_quiet_step (first
      | (go_at_call 102; refine calls_ext HLA2.out)
      | (go_at_call 101; refine calls_ext HLE2.out)))
    refine wpQuiet_nil ?_
    intro w8 hw8
    obtain ⟨⟨wq, hbq⟩, hq⟩ := hw8
    obtain rfl : w8 = wq := hq
    have HB5 := Lib.hid (HB.out.trans (hbq.mono HB.out.size))
    clear hbq HLE2 HLA2 HLA HLE k0 k1 k2 k3 k4 k5 k6
    go_wp2
    go_ret
    exact ⟨rfl, HB5.out⟩
end Go.Proofs.YtmnblljenobofaaGreatDoor
