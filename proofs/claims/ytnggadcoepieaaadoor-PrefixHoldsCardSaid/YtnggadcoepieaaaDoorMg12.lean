/- Merged: PfxB, PfxC. -/
import Derived.Test.YtnggadcoepieaaaDoorPfxA
import Derived.Test.YtnggadcoepieaaaDoorPrpR
import Derived.Test.YtnggadcoepieaaaDoorShelf
import Derived.Shelf.SlSortCmp.QuietGrown
/- Plain words: rows of events in order of their names, each name's in their order: what a stable sort makes. -/
namespace Go.Proofs.YtnggadcoepieaaaDoor.WPlain
end Go.Proofs.YtnggadcoepieaaaDoor.WPlain
namespace Go.Proofs.YtnggadcoepieaaaDoor.QPlain
end Go.Proofs.YtnggadcoepieaaaDoor.QPlain
namespace Go.Proofs.YtnggadcoepieaaaDoor.RPlain
open WPlain QPlain

instance : Inhabited Ev := ⟨⟨0, 0, 0, 0⟩⟩
/-- in order of the names -/
def Srt (l : List Ev) : Prop := l.Pairwise fun x y => x.t ≤ y.t
/-- of each name the same events, in the same order -/
def Alk (a b : List Ev) : Prop := ∀ t, ofT a t = ofT b t
theorem ofT_app (a b : List Ev) (t : Int) : ofT (a ++ b) t = ofT a t ++ ofT b t := by unfold ofT; rw [List.filter_append]
theorem Alk.refl (a : List Ev) : Alk a a := fun _ => rfl
theorem Alk.symm {a b : List Ev} (h : Alk a b) : Alk b a := fun t => (h t).symm
theorem Alk.trans {a b c : List Ev} (h : Alk a b) (k : Alk b c) : Alk a c := fun t => (h t).trans (k t)
theorem Alk.app {a b c d : List Ev} (h : Alk a b) (k : Alk c d) : Alk (a ++ c) (b ++ d) := fun t => by rw [ofT_app, ofT_app, h t, k t]
theorem Alk.mem {a b : List Ev} (h : Alk a b) {e : Ev} (he : e ∈ b) : e ∈ a := by
  have := mem_ofT he
  rw [← h e.t] at this
  exact (ofT_mem this).1
theorem Alk.len {a b : List Ev} (h : Alk a b) : a.length = b.length := Nat.le_antisymm (len_of h) (len_of h.symm)
theorem alk_swap {u v : List Ev} (h : ∀ x ∈ u, ∀ y ∈ v, x.t ≠ y.t) : Alk (u ++ v) (v ++ u) := by
  intro t
  rw [ofT_app, ofT_app]
  rcases hu : ofT u t with _ | ⟨x, r⟩
  · simp
  · rcases hv : ofT v t with _ | ⟨y, s⟩
    · simp
    · have h1 := ofT_mem (h := u) (e := x) (t := t) (by rw [hu]; exact List.mem_cons_self ..)
      have h2 := ofT_mem (h := v) (e := y) (t := t) (by rw [hv]; exact List.mem_cons_self ..)
      exact absurd (h1.2.trans h2.2.symm) (h x h1.1 y h2.1)
theorem srt_app {a b : List Ev} : Srt (a ++ b) ↔ Srt a ∧ Srt b ∧ ∀ x ∈ a, ∀ y ∈ b, x.t ≤ y.t := by unfold Srt; exact List.pairwise_append
theorem srt_cons {e : Ev} {r : List Ev} : Srt (e :: r) ↔ (∀ y ∈ r, e.t ≤ y.t) ∧ Srt r := by unfold Srt; exact List.pairwise_cons
theorem srt_nil : Srt [] := List.Pairwise.nil
theorem srt_one (e : Ev) : Srt [e] := by rw [srt_cons]; exact ⟨by intro y hy; simp at hy, srt_nil⟩
theorem srt_uniq : ∀ {a b : List Ev}, Srt a → Srt b → Alk a b → a = b := by
  intro a
  induction a with
  | nil =>
    intro b _ _ h
    have := h.len
    exact (List.length_eq_zero_iff.1 this.symm).symm
  | cons e r ih =>
    intro b ha hb h
    rcases b with _ | ⟨f, s⟩
    · have := h.len; simp at this
    · obtain ⟨ha1, ha2⟩ := srt_cons.1 ha
      obtain ⟨hb1, hb2⟩ := srt_cons.1 hb
      have hef : e.t = f.t := by
        have m1 := h.mem (List.mem_cons_self (a := f) (l := s))
        have m2 := h.symm.mem (List.mem_cons_self (a := e) (l := r))
        have l1 : e.t ≤ f.t := by
          rcases List.mem_cons.1 m1 with rfl | hm
          · exact Int.le_refl _
          · exact ha1 f hm
        have l2 : f.t ≤ e.t := by
          rcases List.mem_cons.1 m2 with rfl | hm
          · exact Int.le_refl _
          · exact hb1 e hm
        omega
      have he : e = f := by
        have := h e.t
        unfold ofT at this
        rw [List.filter_cons, List.filter_cons, if_pos (by simp), if_pos (by simp [hef])] at this
        exact (List.cons.inj this).1
      subst he
      congr 1
      refine ih ha2 hb2 fun t => ?_
      have := h t
      unfold ofT at this ⊢
      rw [List.filter_cons, List.filter_cons] at this
      split at this
      · exact (List.cons.inj this).2
      · exact this
/-- two elements of a row change places -/
theorem set_two (p q r : List Ev) (a b : Ev) {i j : Nat} (hi : i = p.length) (hj : j = p.length + 1 + q.length) : ((p ++ a :: (q ++ b :: r)).set i b).set j a = p ++ b :: (q ++ a :: r) := by
  subst hi hj
  rw [List.set_append_right _ _ (Nat.le_refl _), Nat.sub_self, List.set_cons_zero, List.set_append_right _ _ (by omega), show p.length + 1 + q.length - p.length = q.length + 1 from by omega, List.set_cons_succ, List.set_append_right _ _ (Nat.le_refl _), Nat.sub_self, List.set_cons_zero]
theorem set_two' (p q r : List Ev) (a b : Ev) {i j : Nat} (hi : i = p.length) (hj : j = p.length + 1 + q.length) : ((p ++ a :: (q ++ b :: r)).set j a).set i b = p ++ b :: (q ++ a :: r) := by
  rw [List.set_comm _ _ (by omega)]
  exact set_two p q r a b hi hj
theorem get_mid (p r : List Ev) (a : Ev) (h : p.length < (p ++ a :: r).length) : (p ++ a :: r)[p.length] = a := by simp
end Go.Proofs.YtnggadcoepieaaaDoor.RPlain
/- Rows of events of the call's own, read, and with two of them swapped; the walks of the order's closure, and of slices.insertionSortCmpFunc with it. -/
namespace Go.Proofs.YtnggadcoepieaaaDoor.WPlain
end Go.Proofs.YtnggadcoepieaaaDoor.WPlain
namespace Go.Proofs.YtnggadcoepieaaaDoor.QPlain
end Go.Proofs.YtnggadcoepieaaaDoor.QPlain
namespace Go.Proofs.YtnggadcoepieaaaDoor.RPlain
end Go.Proofs.YtnggadcoepieaaaDoor.RPlain
namespace Go.Proofs.YtnggadcoepieaaaDoor
open Go.RowKit WPlain QPlain RPlain

/-- a row of the call's own that reads as events -/
def Row (B g cap n : Nat) (w : World) (H : List Ev) : Prop := H.length = n ∧ w.ownsRow B 38 4 (.slice (some ⟨g, 0, none⟩) n cap) n (evsCells H)
theorem Row.keep {B g cap n : Nat} {w w' : World} {H : List Ev} (h : Row B g cap n w H) (hb : Below w.heap.size w w') : Row B g cap n w' H := ⟨h.1, row_belowR h.2 hb⟩
theorem Row.lt {B g cap n : Nat} {w : World} {H : List Ev} (h : Row B g cap n w H) : B ≤ g ∧ g < w.heap.size := by
  have := h.2.lt g rfl
  exact this
theorem below_grown (w : World) (m : Nat) (os : Array Obj) : Below w.heap.size w (Go.Sort.grow (w.drewN m) os) :=
  ⟨rfl, rfl, rfl, by rw [Go.Sort.size_grow]; exact Nat.le_add_right _ _, fun k hk => Go.Sort.heap_grow_old (w.drewN m) os hk⟩
theorem Row.at {B g cap n : Nat} {w : World} {p r : List Ev} {e : Ev} (h : Row B g cap n w (p ++ e :: r)) {i : Nat} (hi : i = p.length) :
    w.cell? ⟨g, i * 4, none⟩ = some (.int .i64 e.k) ∧ w.cell? ⟨g, i * 4 + 1, none⟩ = some (.int .i64 e.t) ∧ w.cell? ⟨g, i * 4 + 2, none⟩ = some (.int .i64 e.v) ∧ w.cell? ⟨g, i * 4 + 3, none⟩ = some (.int .i64 e.x) := by
  subst hi
  have hn := h.1
  have hlt : p.length < n := by rw [← hn]; simp
  have e0 := row_cell h.2 hn p.length hlt 0 (by omega)
  have e1 := row_cell h.2 hn p.length hlt 1 (by omega)
  have e2 := row_cell h.2 hn p.length hlt 2 (by omega)
  have e3 := row_cell h.2 hn p.length hlt 3 (by omega)
  rw [get_mid] at e0 e1 e2 e3
  exact ⟨e0, e1, e2, e3⟩
/-- the world behind the stores of an event -/
def putE (w : World) (g i : Nat) (y : Ev) : World := (((w.setCell ⟨g, i * 4, none⟩ (.int .i64 y.k)).setCell ⟨g, i * 4 + 1, none⟩ (.int .i64 y.t)).setCell ⟨g, i * 4 + 2, none⟩ (.int .i64 y.v)).setCell ⟨g, i * 4 + 3, none⟩ (.int .i64 y.x)
theorem Row.put {B g cap n : Nat} {w : World} {H : List Ev} (h : Row B g cap n w H) {i : Nat} (hi : i < n) (y : Ev) : Row B g cap n (putE w g i y) (H.set i y) ∧ Below B w (putE w g i y) :=
  ⟨⟨by rw [List.length_set]; exact h.1, (row_store h.2 h.1 i hi y).1⟩, (row_store h.2 h.1 i hi y).2⟩
theorem Row.swap {B g cap n : Nat} {w : World} {p q r : List Ev} {a b : Ev} (h : Row B g cap n w (p ++ a :: (q ++ b :: r))) {i j : Nat} (hi : i = p.length) (hj : j = p.length + 1 + q.length) :
    Row B g cap n (putE (putE w g i b) g j a) (p ++ b :: (q ++ a :: r)) ∧ Below B w (putE (putE w g i b) g j a) := by
  have hn := h.1
  have h1 := h.put (i := i) (by simp at hn; omega) b
  have h2 := h1.1.put (i := j) (by simp at hn; omega) a
  rw [set_two p q r a b hi hj] at h2
  exact ⟨h2.1, h1.2.trans h2.2⟩
theorem Row.swap' {B g cap n : Nat} {w : World} {p q r : List Ev} {a b : Ev} (h : Row B g cap n w (p ++ a :: (q ++ b :: r))) {i j : Nat} (hi : i = p.length) (hj : j = p.length + 1 + q.length) :
    Row B g cap n (putE (putE w g j a) g i b) (p ++ b :: (q ++ a :: r)) ∧ Below B w (putE (putE w g j a) g i b) := by
  have hn := h.1
  have h1 := h.put (i := j) (by simp at hn; omega) a
  have h2 := h1.1.put (i := i) (by simp at hn; omega) b
  rw [set_two' p q r a b hi hj] at h2
  exact ⟨h2.1, h1.2.trans h2.2⟩
/-- the closure that compares -/
def ordV : Value := .func (.func 30) #[] #[]
set_option maxRecDepth 100000 in
theorem order_any (x0 x1 x2 x3 y0 y1 y2 y3 : Int) (w : World) :
    Calls Tryd.prog 30 #[.agg #[.int .i64 x0, .int .i64 x1, .int .i64 x2, .int .i64 x3], .agg #[.int .i64 y0, .int .i64 y1, .int .i64 y2, .int .i64 y3]] w fun e w' =>
      e = .returned (.int .i64 (Lib.compareInt x1 y1)) ∧ ∃ q os', w' = Go.Sort.grow (w.drewN q) os' := by
  have hcon := fun W' => Tryd.cmp_Compare_int x1 y1 W'
  generalize Lib.compareInt x1 y1 = r at hcon ⊢
  go_enter Tryd.func30, Tryd.ntmps30
  go_wp2_with (go_at_call 31; refine (hcon _).mono ?_; rintro e w' ⟨rfl, rfl⟩)
  go_ret
  exact ⟨rfl, 0, _, by rw [Go.Sort.alloc_eq_grow, Go.Sort.alloc_eq_grow, Go.Sort.grow_grow]; rfl⟩
theorem cmp_lt {a b : Int} : Lib.compareInt a b < 0 ↔ a < b := by unfold Lib.compareInt; split <;> (try split) <;> omega
end Go.Proofs.YtnggadcoepieaaaDoor
