/- Merged: SerP, PfxA, PfxB, PrpR. -/
import Derived.Test.YtoemcdcabamgiaaDoorMg7
import Derived.Test.YtoemcdcabamgiaaDoorMg10
import Derived.Test.YtoemcdcabamgiaaDoorMg4
import Derived.Test.YtoemcdcabamgiaaDoorMg3
import Derived.Test.YtoemcdcabamgiaaDoorMg5
import Derived.Laws.OwnMore
import Derived.Laws.IdiomCopy
import Derived.WalkLawsBesides
/- Plain words: transactions one after the other, event by event, and by the table. -/
namespace Go.Proofs.YtoemcdcabamgiaaDoor.WPlain
end Go.Proofs.YtoemcdcabamgiaaDoor.WPlain
namespace Go.Proofs.YtoemcdcabamgiaaDoor.QPlain
end Go.Proofs.YtoemcdcabamgiaaDoor.QPlain
namespace Go.Proofs.YtoemcdcabamgiaaDoor.RPlain
open WPlain QPlain

/-- are transactions one after the other? -/
def serP (h : List Ev) : Prop := ∀ (i k : Nat) (hik : i < k) (hk : k < h.length), h[k].t = (h[i]'(by omega)).t → (h[k - 1]'(by omega)).t = (h[i]'(by omega)).t
theorem ser_block {h : List Ev} (hs : serP h) : ∀ (d i k : Nat) (hik : i < k) (hk : k < h.length), k - i = d → h[k].t = (h[i]'(by omega)).t → ∀ j (_hj : i ≤ j) (hjk : j ≤ k), (h[j]'(by omega)).t = (h[i]'(by omega)).t := by
  intro d
  induction d with
  | zero => intro i k hik hk hd; omega
  | succ d ih =>
    intro i k hik hk hd he j hj hjk
    by_cases h1 : j = k
    · subst h1; exact he
    · have h2 := hs i k hik hk he
      by_cases h3 : i = k - 1
      · have : j = i := by omega
        subst this; rfl
      · exact ih i (k - 1) (by omega) (by omega) (by omega) h2 j hj (by omega)
theorem fst_at {h : List Ev} {t : Int} (ht : t ∈ namesOf h) : ∃ i : Nat, fstOf h t = (i : Int) ∧ ∃ hi : i < h.length, h[i].t = t := by
  have hne := (not_congr (fst_names h t)).2 (fun hc => hc ht)
  unfold fstOf at *
  cases h1 : h.findIdx? (fun e => e.t == t) with
  | none => rw [h1] at hne; simp at hne
  | some i =>
    obtain ⟨hi, hp, _⟩ := List.findIdx?_eq_some_iff_getElem.1 h1
    exact ⟨i, rfl, hi, by simpa using hp⟩
theorem fst_first {h : List Ev} {t : Int} {p : Nat} (hp : p < h.length) (ht : h[p].t = t) : fstOf h t ≤ (p : Int) := by
  unfold fstOf
  cases h1 : h.findIdx? (fun e => e.t == t) with
  | none =>
    rw [List.findIdx?_eq_none_iff] at h1
    have := h1 h[p] (List.getElem_mem hp)
    simp [ht] at this
  | some i =>
    obtain ⟨hi, _, hm⟩ := List.findIdx?_eq_some_iff_getElem.1 h1
    dsimp only
    by_cases hle : i ≤ p
    · omega
    · have := hm p (by omega)
      simp [ht] at this
/-- what began ahead of another one is over there -/
theorem ser_over {h : List Ev} (hs : serP h) {t u : Int} (ht : t ∈ namesOf h) (hu : u ∈ namesOf h) (hlt : fstOf h t < fstOf h u) {p : Nat} (hp : p < h.length) (hpt : h[p].t = t) : (p : Int) < fstOf h u := by
  obtain ⟨i, hi, hil, hit⟩ := fst_at ht
  obtain ⟨j, hj, hjl, hju⟩ := fst_at hu
  rw [hi, hj] at hlt
  rw [hj]
  rcases Nat.lt_or_ge p j with h1 | h1
  · omega
  · exfalso
    have hip : i < p := by omega
    have h2 := ser_block hs (p - i) i p hip hp rfl (by rw [hpt, hit]) j (by omega) h1
    rw [hit, hju] at h2
    subst h2
    rw [hi] at hj
    omega
theorem lst_last {h : List Ev} {t : Int} {p : Nat} (hp : p < h.length) (ht : h[p].t = t) : (p : Int) ≤ lstOf h t := by
  have h1 := some_more (h := h.take p) (t := t) (h.drop p) ⟨h[p], by rw [List.drop_eq_getElem_cons hp]; exact List.mem_cons_self .., ht⟩
  rw [List.take_append_drop, List.length_take] at h1
  omega
theorem asked_tx {h : List Ev} {t : Int} (ht : t ∈ namesOf h) : (askedOf h t).t = t := by
  have : ∀ (r : List Ev) (o : Ev), (r.foldl (fun o e => if e.t = t then e else o) o).t = t ∨ ((∀ e ∈ r, e.t ≠ t) ∧ r.foldl (fun o e => if e.t = t then e else o) o = o) := by
    intro r
    induction r with
    | nil => intro o; exact .inr ⟨by intro e he; simp at he, rfl⟩
    | cons e r ih =>
      intro o
      rw [List.foldl_cons]
      by_cases he : e.t = t
      · rw [if_pos he]
        rcases ih e with h1 | ⟨_, h1⟩
        · exact .inl h1
        · exact .inl (by rw [h1]; exact he)
      · rw [if_neg he]
        rcases ih o with h1 | ⟨h0, h1⟩
        · exact .inl h1
        · refine .inr ⟨?_, h1⟩
          intro d hd
          rcases List.mem_cons.1 hd with rfl | hd
          · exact he
          · exact h0 d hd
  obtain ⟨e, he, het⟩ := (mem_names h t).1 ht
  rcases this h ⟨0, 0, 0, 0⟩ with h1 | ⟨h0, _⟩
  · exact h1
  · exact absurd het (h0 e he)
theorem lst_at {h : List Ev} {t : Int} (ht : t ∈ namesOf h) : ∃ l : Nat, lstOf h t = (l : Int) ∧ ∃ hl : l < h.length, h[l].t = t := by
  obtain ⟨l, h1, hl, h2⟩ := asked_at h t ht
  exact ⟨l, h1, hl, by rw [h2]; exact asked_tx ht⟩
/-- by the table: the next one begins where the one ahead is over -/
def serT (l : List Tx) : Prop := ∀ (i : Nat) (hi : i + 1 < l.length), ¬ (l[i + 1]).f < (l[i]'(by omega)).l
theorem serT_iff {h : List Ev} : serT (tableS h) ↔ serP h := by
  have hlen := tableS_len h
  constructor
  · intro hs i k hik hk he
    rcases Decidable.em ((h[k - 1]'(by omega)).t = (h[i]'(by omega)).t) with hc | hc
    · exact hc
    · exfalso
      obtain ⟨p, hp, hpt⟩ := List.mem_iff_getElem.1 ((mem_names h (h[i]'(by omega)).t).2 ⟨_, List.getElem_mem _, rfl⟩)
      obtain ⟨q, hq, hqt⟩ := List.mem_iff_getElem.1 ((mem_names h (h[k - 1]'(by omega)).t).2 ⟨_, List.getElem_mem _, rfl⟩)
      have chain : ∀ (d p q : Nat) (hpq : p + d + 1 = q) (hq : q < (namesOf h).length), lstOf h ((namesOf h)[p]'(by omega)) ≤ fstOf h (namesOf h)[q] := by
        intro d
        induction d with
        | zero =>
          intro p q hpq hq
          obtain rfl : q = p + 1 := by omega
          have h1 := hs p (by omega)
          rw [tableS_get hq, tableS_get (by omega)] at h1
          simp only [txOf] at h1
          omega
        | succ d ih =>
          intro p q hpq hq
          have h1 := ih p (q - 1) (by omega) (by omega)
          have h2 := hs (q - 1) (by omega)
          have h3 := (fst_lst h ((namesOf h)[q - 1]'(by omega)) (List.getElem_mem _)).1
          have h4 := tableS_get (h := h) (i := q - 1) (by omega)
          have h5 := tableS_get (h := h) (i := q - 1 + 1) (by omega)
          rw [h4, h5] at h2
          simp only [txOf, show q - 1 + 1 = q from by omega] at h2
          omega
      have f1 := fst_first (h := h) (t := (h[i]'(by omega)).t) (p := i) (by omega) rfl
      have l1 := lst_last (h := h) (t := (h[i]'(by omega)).t) (p := k) hk he
      have f2 := fst_first (h := h) (t := (h[k - 1]'(by omega)).t) (p := k - 1) (by omega) rfl
      have l2 := lst_last (h := h) (t := (h[k - 1]'(by omega)).t) (p := k - 1) (by omega) rfl
      rcases Nat.lt_trichotomy p q with h1 | h1 | h1
      · have := chain (q - p - 1) p q (by omega) hq
        rw [hpt, hqt] at this
        omega
      · subst h1
        rw [hpt] at hqt
        exact hc hqt.symm
      · have := chain (p - q - 1) q p (by omega) hp
        rw [hpt, hqt] at this
        have : i ≠ k - 1 := by
          intro h2
          subst h2
          exact hc rfl
        omega
  · intro hs i hi hlt
    rw [tableS_get (by omega), tableS_get (by omega)] at hlt
    simp only [txOf] at hlt
    have hi2 : i + 1 < (namesOf h).length := by omega
    have hf := List.pairwise_iff_getElem.1 (fst_rise h) i (i + 1) (by omega) hi2 (by omega)
    obtain ⟨l, hl1, hl2, hl3⟩ := lst_at (List.getElem_mem (l := namesOf h) (n := i) (by omega))
    have := ser_over hs (List.getElem_mem _) (List.getElem_mem _) hf hl2 hl3
    omega
end Go.Proofs.YtoemcdcabamgiaaDoor.RPlain
/- Plain words: rows of events that are alike, name by name. -/
namespace Go.Proofs.YtoemcdcabamgiaaDoor.WPlain
end Go.Proofs.YtoemcdcabamgiaaDoor.WPlain
namespace Go.Proofs.YtoemcdcabamgiaaDoor.QPlain
end Go.Proofs.YtoemcdcabamgiaaDoor.QPlain
namespace Go.Proofs.YtoemcdcabamgiaaDoor.RPlain
open WPlain QPlain

/-- are two rows of events alike? -/
def alikeS (a b : List Ev) : Bool := ((namesOf a).all fun t => decide (ofT a t = ofT b t)) && decide (a.length = b.length)
theorem sum_of {ns : List Int} (hn : ns.Nodup) : ∀ b : List Ev, (ns.map fun t => (ofT b t).length).sum = (b.filter fun e => ns.contains e.t).length := by
  intro b
  induction b with
  | nil =>
    simp only [ofT, List.filter_nil, List.length_nil]
    induction ns with
    | nil => rfl
    | cons x r ih => rw [List.map_cons, List.sum_cons, ih (List.nodup_cons.1 hn).2]
  | cons e r ih =>
    have hone : ∀ ns : List Int, ns.Nodup → (ns.map fun t => (ofT (e :: r) t).length).sum = (ns.map fun t => (ofT r t).length).sum + (if ns.contains e.t = true then 1 else 0) := by
      intro ns
      induction ns with
      | nil => intro _; rfl
      | cons x q ihq =>
        intro hnd
        obtain ⟨hx, hq⟩ := List.nodup_cons.1 hnd
        rw [List.map_cons, List.sum_cons, List.map_cons, List.sum_cons, ihq hq]
        have h1 : (ofT (e :: r) x).length = (ofT r x).length + (if e.t = x then 1 else 0) := by
          unfold ofT
          rw [List.filter_cons]
          by_cases he : e.t = x
          · simp [he]
          · simp [he]
        rw [h1]
        by_cases he : e.t = x
        · subst he
          have hnc : q.contains e.t = false := by simpa using hx
          rw [if_pos rfl, List.contains_cons, hnc]
          simp
          omega
        · have hne : (e.t == x) = false := by simpa using he
          rw [if_neg he, List.contains_cons, hne, Bool.false_or]
          omega
    rw [hone ns hn, ih, List.filter_cons]
    split <;> simp
theorem mem_ofT {h : List Ev} {e : Ev} (he : e ∈ h) : e ∈ ofT h e.t := by unfold ofT; rw [List.mem_filter]; exact ⟨he, by simp⟩
theorem ofT_mem {h : List Ev} {e : Ev} {t : Int} (he : e ∈ ofT h t) : e ∈ h ∧ e.t = t := by unfold ofT at he; rw [List.mem_filter] at he; exact ⟨he.1, by simpa using he.2⟩
theorem names_filter (h : List Ev) : (h.filter fun e => (namesOf h).contains e.t) = h := by
  rw [List.filter_eq_self]
  intro e he
  have := (mem_names h e.t).2 ⟨e, he, rfl⟩
  simpa using this
/-- all transactions' events together are all -/
theorem all_sum (h : List Ev) : ((namesOf h).map fun t => (ofT h t).length).sum = h.length := by rw [sum_of (names_nodup h), names_filter]
theorem ofT_none {h : List Ev} {t : Int} (ht : t ∉ namesOf h) : ofT h t = [] := by
  unfold ofT
  rw [List.filter_eq_nil_iff]
  intro e he hc
  exact ht ((mem_names h t).2 ⟨e, he, by simpa using hc⟩)
theorem len_of {a b : List Ev} (h : ∀ t, ofT a t = ofT b t) : a.length ≤ b.length := by
  have h1 := all_sum a
  have h2 := sum_of (names_nodup a) b
  have h3 : ((namesOf a).map fun t => (ofT a t).length) = ((namesOf a).map fun t => (ofT b t).length) := List.map_congr_left fun t _ => by rw [h t]
  rw [h3, h2] at h1
  rw [← h1]
  exact List.length_filter_le _ _
theorem alike_iff (a b : List Ev) : alikeS a b = true ↔ ∀ t, ofT a t = ofT b t := by
  unfold alikeS
  simp only [Bool.and_eq_true, List.all_eq_true, decide_eq_true_eq]
  constructor
  · rintro ⟨h1, hl⟩ t
    by_cases ht : t ∈ namesOf a
    · exact h1 t ht
    · have h2 := all_sum a
      have h3 : ((namesOf a).map fun t => (ofT a t).length) = ((namesOf a).map fun t => (ofT b t).length) := List.map_congr_left fun t ht => by rw [h1 t ht]
      rw [h3, sum_of (names_nodup a) b, hl] at h2
      have h4 := List.length_filter_eq_length_iff.1 h2
      rw [ofT_none ht, ofT_none]
      intro hc
      obtain ⟨e, he, rfl⟩ := (mem_names b t).1 hc
      exact ht (by simpa using h4 e he)
  · intro h
    exact ⟨fun t _ => h t, Nat.le_antisymm (len_of h) (len_of fun t => (h t).symm)⟩
theorem alike_refl (a : List Ev) : alikeS a a = true := (alike_iff a a).2 fun _ => rfl
theorem alike_symm (a b : List Ev) : alikeS a b = alikeS b a := by
  rw [Bool.eq_iff_iff, alike_iff, alike_iff]
  exact ⟨fun h t => (h t).symm, fun h t => (h t).symm⟩
theorem alike_trans {a b c : List Ev} (h1 : alikeS a b = true) (h2 : alikeS b c = true) : alikeS a c = true := by
  rw [alike_iff] at *
  exact fun t => (h1 t).trans (h2 t)
theorem alike_len {a b : List Ev} (h : alikeS a b = true) : a.length = b.length := by
  unfold alikeS at h
  simp only [Bool.and_eq_true, decide_eq_true_eq] at h
  exact h.2
theorem alike_mem {a b : List Ev} (h : alikeS a b = true) {e : Ev} (he : e ∈ b) : e ∈ a := by
  rw [alike_iff] at h
  have h1 := mem_ofT he
  rw [← h e.t] at h1
  exact (ofT_mem h1).1
theorem nodup_len : ∀ (l1 l2 : List Int), l1.Nodup → (∀ x ∈ l1, x ∈ l2) → l1.length ≤ l2.length := by
  intro l1
  induction l1 with
  | nil => intro _ _ _; simp
  | cons x r ih =>
    intro l2 hn hs
    obtain ⟨hx, hr⟩ := List.nodup_cons.1 hn
    have h1 := ih (l2.erase x) hr (fun y hy => (List.mem_erase_of_ne (show y ≠ x from fun hc => hx (by rw [← hc]; exact hy))).2 (hs y (List.mem_cons_of_mem _ hy)))
    have hm := hs x (List.mem_cons_self ..)
    have h2 := List.length_erase_of_mem hm
    have h3 := List.length_pos_of_mem hm
    rw [List.length_cons]
    omega
theorem alike_names {a b : List Ev} (h : alikeS a b = true) : (namesOf b).length ≤ (namesOf a).length := by
  refine nodup_len _ _ (names_nodup b) fun t ht => ?_
  obtain ⟨e, he, rfl⟩ := (mem_names b t).1 ht
  exact (mem_names a e.t).2 ⟨e, alike_mem h he, rfl⟩
/-- what is alike with what is well formed is so -/
theorem alike_check {a b : List Ev} (h : alikeS a b = true) (hc : (checkS a).2 = 0) : (checkS b).2 = 0 := by
  have hr := (check_agree hc).1
  have hrb : right b = true := by
    simp only [right, Bool.and_eq_true, decide_eq_true_eq, List.all_eq_true] at hr ⊢
    exact ⟨⟨by rw [← alike_len h]; exact hr.1.1, fun e he => hr.1.2 e (alike_mem h he)⟩, Nat.le_trans (alike_names h) hr.2⟩
  rw [(checkS_ok hrb).1]
  rw [(checkS_ok hr).1] at hc
  unfold flw0 at hc ⊢
  rw [flw_tr] at hc ⊢
  intro t
  rw [← (alike_iff a b).1 h t]
  exact hc t
end Go.Proofs.YtoemcdcabamgiaaDoor.RPlain
/- Plain words: rows of events in order of their names, each name's in their order: what a stable sort makes. -/
namespace Go.Proofs.YtoemcdcabamgiaaDoor.WPlain
end Go.Proofs.YtoemcdcabamgiaaDoor.WPlain
namespace Go.Proofs.YtoemcdcabamgiaaDoor.QPlain
end Go.Proofs.YtoemcdcabamgiaaDoor.QPlain
namespace Go.Proofs.YtoemcdcabamgiaaDoor.RPlain
open WPlain QPlain

instance : Inhabited Ev := ⟨⟨0, 0, 0, 0⟩⟩
/-- in order of the names -/
def Srt (l : List Ev) : Prop := l.Pairwise fun x y => x.t ≤ y.t
/-- of each name the same events, in the same order -/
def Alk (a b : List Ev) : Prop := ∀ t, ofT a t = ofT b t
theorem ofT_app (a b : List Ev) (t : Int) : ofT (a ++ b) t = ofT a t ++ ofT b t := by unfold ofT; rw [List.filter_append]
theorem Alk.refl (a : List Ev) : Alk a a := fun _ => rfl
theorem Alk.symm {a b : List Ev} (h : Alk a b) : Alk b a := fun t => (h t).symm
theorem Alk.trans {a b c : List Ev} (h : Alk a b) (k : Alk b c) : Alk a c := fun t => (h t).trans (k t)
theorem Alk.mem {a b : List Ev} (h : Alk a b) {e : Ev} (he : e ∈ b) : e ∈ a := by
  have := mem_ofT he
  rw [← h e.t] at this
  exact (ofT_mem this).1
theorem Alk.len {a b : List Ev} (h : Alk a b) : a.length = b.length := Nat.le_antisymm (len_of h) (len_of h.symm)
theorem srt_cons {e : Ev} {r : List Ev} : Srt (e :: r) ↔ (∀ y ∈ r, e.t ≤ y.t) ∧ Srt r := by unfold Srt; exact List.pairwise_cons
theorem srt_uniq : ∀ {a b : List Ev}, Srt a → Srt b → Alk a b → a = b := by
  intro a
  induction a with
  | nil =>
    intro b _ _ h
    have := h.len
    exact (List.length_eq_zero_iff.1 this.symm).symm
  | cons e r ih =>
    intro b ha hb h
    rcases b with _ | ⟨f, s⟩
    · have := h.len; simp at this
    · obtain ⟨ha1, ha2⟩ := srt_cons.1 ha
      obtain ⟨hb1, hb2⟩ := srt_cons.1 hb
      have hef : e.t = f.t := by
        have m1 := h.mem (List.mem_cons_self (a := f) (l := s))
        have m2 := h.symm.mem (List.mem_cons_self (a := e) (l := r))
        have l1 : e.t ≤ f.t := by
          rcases List.mem_cons.1 m1 with rfl | hm
          · exact Int.le_refl _
          · exact ha1 f hm
        have l2 : f.t ≤ e.t := by
          rcases List.mem_cons.1 m2 with rfl | hm
          · exact Int.le_refl _
          · exact hb1 e hm
        omega
      have he : e = f := by
        have := h e.t
        unfold ofT at this
        rw [List.filter_cons, List.filter_cons, if_pos (by simp), if_pos (by simp [hef])] at this
        exact (List.cons.inj this).1
      subst he
      congr 1
      refine ih ha2 hb2 fun t => ?_
      have := h t
      unfold ofT at this ⊢
      rw [List.filter_cons, List.filter_cons] at this
      split at this
      · exact (List.cons.inj this).2
      · exact this
theorem get_mid (p r : List Ev) (a : Ev) (h : p.length < (p ++ a :: r).length) : (p ++ a :: r)[p.length] = a := by simp
end Go.Proofs.YtoemcdcabamgiaaDoor.RPlain
/- The walks of ProperEach's closure, of slices.IndexFunc and of slices.DeleteFunc with it. -/
namespace Go.Proofs.YtoemcdcabamgiaaDoor.WPlain
end Go.Proofs.YtoemcdcabamgiaaDoor.WPlain
namespace Go.Proofs.YtoemcdcabamgiaaDoor.QPlain
end Go.Proofs.YtoemcdcabamgiaaDoor.QPlain
namespace Go.Proofs.YtoemcdcabamgiaaDoor
open Go.RowKit WPlain QPlain

theorem row_belowR {w w' : World} {B : Nat} {e : TypeId} {s : Nat} {v : Value} {n : Nat} {xs : List Value} (h : w.ownsRow B e s v n xs) (hb : Below w.heap.size w w') : w'.ownsRow B e s v n xs := by
  refine ⟨h.1, ?_⟩
  rcases h.2 with hn | ⟨g, cap, cur, rfl, hB, hgg, rest⟩
  · exact .inl hn
  · refine .inr ⟨g, cap, cur, rfl, hB, ?_, rest⟩
    rw [hb.block g (Array.getElem?_eq_some_iff.1 hgg).1]
    exact hgg
theorem evsCells_set : ∀ (H : List Ev) (i : Nat) (y : Ev), i < H.length → ((((evsCells H).set (i * 4) (.int .i64 y.k)).set (i * 4 + 1) (.int .i64 y.t)).set (i * 4 + 2) (.int .i64 y.v)).set (i * 4 + 3) (.int .i64 y.x) = evsCells (H.set i y) := by
  intro H
  induction H with
  | nil => intro i y hi; simp at hi
  | cons e r ih =>
    intro i y hi
    cases i with
    | zero => rfl
    | succ i =>
      have := ih i y (by simpa using hi)
      have hx : ∀ (l : List Value) (c : Nat) (u : Value), (evCells e ++ l).set ((i + 1) * 4 + c) u = evCells e ++ l.set (i * 4 + c) u := by
        intro l c u
        rw [List.set_append_right _ _ (by simp [evCells]; omega)]
        congr 2
        simp [evCells]
        omega
      show ((((evCells e ++ evsCells r).set ((i + 1) * 4 + 0) _).set ((i + 1) * 4 + 1) _).set ((i + 1) * 4 + 2) _).set ((i + 1) * 4 + 3) _ = evCells e ++ evsCells (r.set i y)
      rw [hx, hx, hx, hx, ← this]
      rfl
theorem row_cell {w : World} {B g cap n : Nat} {H : List Ev} (h : w.ownsRow B 45 4 (.slice (some ⟨g, 0, none⟩) n cap) n (evsCells H)) (hn : H.length = n) (j : Nat) (hj : j < n) (c : Nat) (hc : c < 4) : w.cell? ⟨g, j * 4 + c, none⟩ = (evCells (H[j]'(by omega)))[c]? := by
  rw [h.cellAt (j * 4 + c) (by omega)]
  exact evsCells_get H j (by omega) c hc
theorem row_four {w : World} {B g cap n : Nat} {H : List Ev} (h : w.ownsRow B 45 4 (.slice (some ⟨g, 0, none⟩) n cap) n (evsCells H)) (hn : H.length = n) (i : Nat) (hi : i < n) :
    ∃ o : Ev, w.cell? ⟨g, i * 4, none⟩ = some (.int .i64 o.k) ∧ w.cell? ⟨g, i * 4 + 1, none⟩ = some (.int .i64 o.t) ∧ w.cell? ⟨g, i * 4 + 2, none⟩ = some (.int .i64 o.v) ∧ w.cell? ⟨g, i * 4 + 3, none⟩ = some (.int .i64 o.x) :=
  ⟨H[i]'(by omega), row_cell h hn i hi 0 (by omega), row_cell h hn i hi 1 (by omega), row_cell h hn i hi 2 (by omega), row_cell h hn i hi 3 (by omega)⟩
theorem row_store {w : World} {B g cap n : Nat} {H : List Ev} (h : w.ownsRow B 45 4 (.slice (some ⟨g, 0, none⟩) n cap) n (evsCells H)) (hn : H.length = n) (i : Nat) (hi : i < n) (y : Ev) :
    ((((w.setCell ⟨g, i * 4, none⟩ (.int .i64 y.k)).setCell ⟨g, i * 4 + 1, none⟩ (.int .i64 y.t)).setCell ⟨g, i * 4 + 2, none⟩ (.int .i64 y.v)).setCell ⟨g, i * 4 + 3, none⟩ (.int .i64 y.x)).ownsRow B 45 4 (.slice (some ⟨g, 0, none⟩) n cap) n (evsCells (H.set i y)) ∧
    Below B w ((((w.setCell ⟨g, i * 4, none⟩ (.int .i64 y.k)).setCell ⟨g, i * 4 + 1, none⟩ (.int .i64 y.t)).setCell ⟨g, i * 4 + 2, none⟩ (.int .i64 y.v)).setCell ⟨g, i * 4 + 3, none⟩ (.int .i64 y.x)) := by
  have hg : B ≤ g := (h.lt g rfl).1
  have r4 := ((((h.stored (i * 4) (.int .i64 y.k)).1.stored (i * 4 + 1) (.int .i64 y.t)).1.stored (i * 4 + 2) (.int .i64 y.v)).1.stored (i * 4 + 3) (.int .i64 y.x)).1
  rw [evsCells_set H i y (by omega)] at r4
  exact ⟨r4, ((((Below.refl B w).setCell (p := ⟨g, i * 4, none⟩) hg _).setCell (p := ⟨g, i * 4 + 1, none⟩) hg _).setCell (p := ⟨g, i * 4 + 2, none⟩) hg _).setCell (p := ⟨g, i * 4 + 3, none⟩) hg _⟩
theorem below_cellsP {B b : Nat} {w : World} (hb : B ≤ b) : ∀ (vs : List Value) (o : Nat) (w' : World), Below B w w' → Below B w (w'.setCells b o vs) := by
  intro vs
  induction vs with
  | nil => intro o w' h; exact h
  | cons v r ih => intro o w' h; exact ih _ _ (h.setCell (p := ⟨b, o, none⟩) hb _)
/-- the cells of n events of nought -/
def zs (n : Nat) : List Value := (Builtin.zeroCells (Value.agg #[.int .i64 0, .int .i64 0, .int .i64 0, .int .i64 0]).cells n).toList
theorem zs_len (n : Nat) : (zs n).length = n * 4 := by simp [zs, Builtin.zeroCells, Value.cells]
theorem zs_one (n : Nat) : ∀ v ∈ zs n, v.oneCell' = true := by
  intro v hv
  simp only [zs, Builtin.zeroCells, Value.cells, Array.toList_map, List.mem_map] at hv
  obtain ⟨i, _, rfl⟩ := hv
  have h4 : (#[Value.int .i64 0, .int .i64 0, .int .i64 0, .int .i64 0] : Array Value).size = 4 := rfl
  rw [h4]
  have : i % 4 = 0 ∨ i % 4 = 1 ∨ i % 4 = 2 ∨ i % 4 = 3 := by omega
  rcases this with h | h | h | h <;> rw [h] <;> rfl
theorem clear_evs (w : World) (ty : TypeId) (g o n c : Nat) (hn : 0 < n) (hc : ∀ j, j < n * 4 → (w.cell? ⟨g, o + j, none⟩).isSome = true) (hf : ∀ j, w.frozen? ⟨g, o + j, none⟩ = false) :
    (Builtin.clear_ #[22] ty #[.slice (some ⟨g, o, none⟩) n c]).run Tryd.prog w = .ok (.tuple #[]) (w.setCells g o (zs n)) := by
  have hst := run_storeCells_cells (P := Tryd.prog) g o (zs n) 0 w (fun j hj => by rw [zs_len] at hj; exact hc j hj) (fun j _ => hf j) (zs_one n)
  simp only [Nat.add_zero] at hst
  obtain ⟨m, rfl⟩ : ∃ m, n = m + 1 := ⟨n - 1, by omega⟩
  unfold zs at hst ⊢
  simp [Builtin.clear_, run_underlying Tryd.underlying22, hst]
theorem ofT_more {h : List Ev} {j : Nat} (hj : j < h.length) (t : Int) : ofT (h.take (j + 1)) t = if h[j].t = t then ofT (h.take j) t ++ [h[j]] else ofT (h.take j) t := by
  unfold ofT
  rw [List.take_succ_eq_append_getElem hj, List.filter_append]
  simp only [List.filter_cons, List.filter_nil, beq_iff_eq]
  split
  · rfl
  · rw [List.append_nil]
theorem ofT_all {h : List Ev} {t : Int} (hall : ∀ y ∈ h, y.t = t) : ofT h t = h := by
  unfold ofT
  rw [List.filter_eq_self]
  intro y hy
  simpa using hall y hy
end Go.Proofs.YtoemcdcabamgiaaDoor
