/- Merged: PfxC, PfxK, PfxL, PfxN, OpqA, OpqB, OpenFd, StrA. -/
import Derived.Test.YtoemcdcabamgiaaDoorMg23
import Derived.Test.YtoemcdcabamgiaaDoorShelf
import Derived.Test.YtoemcdcabamgiaaDoorMg1
import Derived.Test.YtoemcdcabamgiaaDoorMg2
import Derived.Test.YtoemcdcabamgiaaDoorMg5
import Derived.Test.YtoemcdcabamgiaaDoorMg9
import Derived.Test.YtoemcdcabamgiaaDoorTabF
import Derived.Test.YtoemcdcabamgiaaDoorTxtS
import Derived.Test.YtoemcdcabamgiaaDoorMg20
import Derived.Test.YtoemcdcabamgiaaDoorMg7
import Derived.Test.YtoemcdcabamgiaaDoorMg17
import Derived.Shelf.SlSortCmp.QuietGrown
import Derived.Deep.Cut
import Derived.Deep.DeepCutAuto
import Derived.Deep.QuietTactic
import Derived.BigQuiet
import Derived.Laws.StructEq
/- Rows of events of the call's own, read, and with two of them swapped; the walks of the order's closure, and of slices.insertionSortCmpFunc with it. -/
namespace Go.Proofs.YtoemcdcabamgiaaDoor.WPlain
end Go.Proofs.YtoemcdcabamgiaaDoor.WPlain
namespace Go.Proofs.YtoemcdcabamgiaaDoor.QPlain
end Go.Proofs.YtoemcdcabamgiaaDoor.QPlain
namespace Go.Proofs.YtoemcdcabamgiaaDoor.RPlain
end Go.Proofs.YtoemcdcabamgiaaDoor.RPlain
namespace Go.Proofs.YtoemcdcabamgiaaDoor
open Go.RowKit WPlain QPlain RPlain

/-- a row of the call's own that reads as events -/
def Row (B g cap n : Nat) (w : World) (H : List Ev) : Prop := H.length = n ∧ w.ownsRow B 45 4 (.slice (some ⟨g, 0, none⟩) n cap) n (evsCells H)
theorem Row.lt {B g cap n : Nat} {w : World} {H : List Ev} (h : Row B g cap n w H) : B ≤ g ∧ g < w.heap.size := by
  have := h.2.lt g rfl
  exact this
theorem Row.at {B g cap n : Nat} {w : World} {p r : List Ev} {e : Ev} (h : Row B g cap n w (p ++ e :: r)) {i : Nat} (hi : i = p.length) :
    w.cell? ⟨g, i * 4, none⟩ = some (.int .i64 e.k) ∧ w.cell? ⟨g, i * 4 + 1, none⟩ = some (.int .i64 e.t) ∧ w.cell? ⟨g, i * 4 + 2, none⟩ = some (.int .i64 e.v) ∧ w.cell? ⟨g, i * 4 + 3, none⟩ = some (.int .i64 e.x) := by
  subst hi
  have hn := h.1
  have hlt : p.length < n := by rw [← hn]; simp
  have e0 := row_cell h.2 hn p.length hlt 0 (by omega)
  have e1 := row_cell h.2 hn p.length hlt 1 (by omega)
  have e2 := row_cell h.2 hn p.length hlt 2 (by omega)
  have e3 := row_cell h.2 hn p.length hlt 3 (by omega)
  rw [get_mid] at e0 e1 e2 e3
  exact ⟨e0, e1, e2, e3⟩
end Go.Proofs.YtoemcdcabamgiaaDoor
/- The walks of slices.Clone at events, of package prefix's gathered, and of Alike. -/
namespace Go.Proofs.YtoemcdcabamgiaaDoor.WPlain
end Go.Proofs.YtoemcdcabamgiaaDoor.WPlain
namespace Go.Proofs.YtoemcdcabamgiaaDoor.QPlain
end Go.Proofs.YtoemcdcabamgiaaDoor.QPlain
namespace Go.Proofs.YtoemcdcabamgiaaDoor.RPlain
end Go.Proofs.YtoemcdcabamgiaaDoor.RPlain
namespace Go.Proofs.YtoemcdcabamgiaaDoor
open Go.RowKit WPlain QPlain RPlain

set_option maxRecDepth 100000 in
theorem clone_more (v : Value) (h : List Ev) (w : World) (hv : Evs w v h) (hs : Src v) (hl : h.length ≤ 65536) :
    Calls Tryd.prog 19 #[v] w fun e w' => ∃ v', e = .returned v' ∧ w'.ownsRow w.heap.size 45 4 v' h.length (evsCells h) ∧ Below w.heap.size w w' := by
  rcases hs with rfl | ⟨ad, m, c, rfl⟩
  · have h0 : h = [] := List.length_eq_zero_iff.1 hv.length.symm
    subst h0
    have heq := fun (W : World) => Lib.run_eql_slice_nil (P := Tryd.prog) W 22 45 none 0 0 0 0 Tryd.underlying22
    clear hv
    go_enter Tryd.func19, Tryd.ntmps19
    go_wp2
    go_ret
    exact ⟨_, rfl, World.ownsRow_nil _ _ _ _, Below.refl _ _⟩
  · obtain rfl := hv.length
    have hrow := World.ownsRow_made (size := 4) (e := 45) (base := w.heap.size) w #[] 0 (Nat.le_refl _) (by unfold maxLen; omega) rfl
    have hb0 := (Below.refl w.heap.size w).alloc (Nat.le_refl _) (.cells #[] 45)
    have hv1 := hv.below hb0 (Nat.le_refl _)
    have heq := fun (W : World) => Lib.run_eql_slice_nil (P := Tryd.prog) W 22 45 (some ad) h.length c 0 0 Tryd.underlying22
    have HV := Lib.hid hv1
    clear hv hv1
    go_enter Tryd.func19, Tryd.ntmps19
    go_wp2_with (at_builtin; refine wpList_append_src rfl _ _ rfl w.heap.size _ _ _ rfl hrow _ h rfl HV.out (.inr ⟨_, _, _, rfl⟩) (by omega) (by simp) ?_)
    intro v1 w1 h1 hg1
    have hb1 := hb0.grown hg1 (by simp) (fun k hk => by simp [Value.ownBlock] at hk; omega)
    clear heq
    go_wp2
    go_ret
    exact ⟨_, rfl, by simpa using h1, hb1⟩
theorem evs_row {B g cap n : Nat} {w : World} {H : List Ev} (h : Row B g cap n w H) : Evs w (.slice (some ⟨g, 0, none⟩) n cap) H := by
  obtain ⟨hn, hr⟩ := h
  subst hn
  exact Evs.of_row hr
theorem gath_alike {a b ga gb : List Ev} (h1 : Srt ga) (h2 : Alk a ga) (h3 : Srt gb) (h4 : Alk b gb) : decide (ga = gb) = alikeS a b := by
  rw [Bool.eq_iff_iff, alike_iff, decide_eq_true_eq]
  constructor
  · rintro rfl
    exact h2.trans h4.symm
  · intro h
    exact srt_uniq h1 h3 (h2.symm.trans (Alk.trans h h4))
end Go.Proofs.YtoemcdcabamgiaaDoor
/- The walks of package prefix's Of, with what it leaves out, and of the reference's. -/
namespace Go.Proofs.YtoemcdcabamgiaaDoor.WPlain
end Go.Proofs.YtoemcdcabamgiaaDoor.WPlain
namespace Go.Proofs.YtoemcdcabamgiaaDoor.QPlain
end Go.Proofs.YtoemcdcabamgiaaDoor.QPlain
namespace Go.Proofs.YtoemcdcabamgiaaDoor.RPlain
end Go.Proofs.YtoemcdcabamgiaaDoor.RPlain
namespace Go.Proofs.YtoemcdcabamgiaaDoor
open Go.RowKit WPlain QPlain RPlain

theorem ofT_step {h : List Ev} {j : Nat} (hj : j < h.length) (t : Int) : ofT (h.take (j + 1)) t = if h[j].t = t then ofT (h.take j) t ++ [h[j]] else ofT (h.take j) t := by
  rw [List.take_succ_eq_append_getElem hj, ofT_app]
  unfold ofT
  by_cases he : h[j].t = t
  · rw [if_pos he]; simp [he]
  · rw [if_neg he]; simp [he]
theorem cells4 (w : World) (a b c d : Int) : ∀ j u, [Value.int .i64 a, .int .i64 b, .int .i64 c, .int .i64 d][j]? = some u → (w.alloc (.cells #[.int .i64 a, .int .i64 b, .int .i64 c, .int .i64 d] 45)).cell? ((⟨w.heap.size, 0, none⟩ : Addr).add j) = some u := by
  intro j u hu
  rw [addr_add, Nat.zero_add]
  exact (At.new w #[.int .i64 a, .int .i64 b, .int .i64 c, .int .i64 d] 45).cell (by simpa using hu)
theorem one4 (a b c d : Int) : ∀ u ∈ [Value.int .i64 a, .int .i64 b, .int .i64 c, .int .i64 d], u.oneCell' = true := by
  intro u hu; simp at hu; rcases hu with rfl | rfl | rfl | rfl <;> rfl
end Go.Proofs.YtoemcdcabamgiaaDoor
/- The walks of package prefix's Serial and Cut, and of the reference's Alike. -/
namespace Go.Proofs.YtoemcdcabamgiaaDoor.WPlain
end Go.Proofs.YtoemcdcabamgiaaDoor.WPlain
namespace Go.Proofs.YtoemcdcabamgiaaDoor.QPlain
end Go.Proofs.YtoemcdcabamgiaaDoor.QPlain
namespace Go.Proofs.YtoemcdcabamgiaaDoor.RPlain
end Go.Proofs.YtoemcdcabamgiaaDoor.RPlain
namespace Go.Proofs.YtoemcdcabamgiaaDoor
open Go.RowKit WPlain QPlain RPlain

theorem txs_open {w : World} {v : Value} {l : List Tx} (h : Txs w v l) (h0 : 0 < l.length) : ∃ b o c, v = .slice (some ⟨b, o, none⟩) l.length c := by
  obtain ⟨ps, rfl, hr, _⟩ := h
  rcases hr with ⟨rfl, _⟩ | ⟨_, b, o, c, rfl, _⟩
  · simp at h0
  · exact ⟨b, o, c, by simp⟩
theorem serT_idx (l : List Tx) : serT l ↔ ∀ i (hi : i < l.length), 0 < i → (l[i - 1]'(by omega)).l ≤ (l[i]).f := by
  constructor
  · intro h i hi h0
    obtain ⟨j, rfl⟩ : ∃ j, i = j + 1 := ⟨i - 1, by omega⟩
    have h1 := h j hi
    simp only [Nat.add_sub_cancel]
    omega
  · intro h i hi
    have h1 := h (i + 1) hi (by omega)
    simp only [Nat.add_sub_cancel] at h1
    omega
end Go.Proofs.YtoemcdcabamgiaaDoor
/- Plain words: prefix by prefix. -/
namespace Go.Proofs.YtoemcdcabamgiaaDoor.WPlain
end Go.Proofs.YtoemcdcabamgiaaDoor.WPlain
namespace Go.Proofs.YtoemcdcabamgiaaDoor.QPlain
end Go.Proofs.YtoemcdcabamgiaaDoor.QPlain
namespace Go.Proofs.YtoemcdcabamgiaaDoor.RPlain
open WPlain QPlain

/-- the verdict, at, commits, row, steps; from a list of lengths on -/
def opqG (B : Nat) (h : List Ev) : List Nat → Nat → Nat → List Nat → Nat → Nat × Nat × Nat × List Nat × Nat
  | [], a, c, r, s => (0, a, c, r, s)
  | k :: ks, _, c, r, s => if (searchS B (tableS (h.take k))).1 = 0 then opqG B h ks k (searchS B (tableS (h.take k))).2.1 (searchS B (tableS (h.take k))).2.2.1 (s + (searchS B (tableS (h.take k))).2.2.2)
    else ((searchS B (tableS (h.take k))).1, k, c, r, s + (searchS B (tableS (h.take k))).2.2.2)
def opaqueS (B : Nat) (h : List Ev) : Nat × Nat × Nat × List Nat × Nat := opqG B h (List.range (h.length + 1)) 0 0 [] 0
theorem opq_congr {B : Nat} {h g : List Ev} : ∀ (ks : List Nat) (a c : Nat) (r : List Nat) (s : Nat), (∀ k ∈ ks, h.take k = g.take k) → opqG B h ks a c r s = opqG B g ks a c r s := by
  intro ks
  induction ks with
  | nil => intro _ _ _ _ _; rfl
  | cons k ks ih =>
    intro a c r s hk
    rw [opqG, opqG, hk k (List.mem_cons_self ..), ih _ _ _ _ (fun x hx => hk x (List.mem_cons_of_mem _ hx))]
theorem opq_app {B : Nat} {h : List Ev} : ∀ (ks ls : List Nat) (a c : Nat) (r : List Nat) (s : Nat),
    opqG B h (ks ++ ls) a c r s = if (opqG B h ks a c r s).1 = 0 then opqG B h ls (opqG B h ks a c r s).2.1 (opqG B h ks a c r s).2.2.1 (opqG B h ks a c r s).2.2.2.1 (opqG B h ks a c r s).2.2.2.2 else opqG B h ks a c r s := by
  intro ks
  induction ks with
  | nil => intro ls a c r s; rfl
  | cons k ks ih =>
    intro ls a c r s
    rw [List.cons_append, opqG, opqG]
    by_cases hv : (searchS B (tableS (h.take k))).1 = 0
    · rw [if_pos hv, if_pos hv, ih]
    · rw [if_neg hv, if_neg hv, if_neg hv]
/-- where it ends -/
theorem opq_at {B : Nat} {h : List Ev} : ∀ (ks : List Nat) (a c : Nat) (r : List Nat) (s : Nat), ks.Pairwise (· < ·) →
    (((opqG B h ks a c r s).1 ≠ 0 → (opqG B h ks a c r s).2.1 ∈ ks ∧ (searchS B (tableS (h.take (opqG B h ks a c r s).2.1))).1 = (opqG B h ks a c r s).1 ∧ ∀ i ∈ ks, i < (opqG B h ks a c r s).2.1 → (searchS B (tableS (h.take i))).1 = 0) ∧
      ((opqG B h ks a c r s).1 = 0 → (∀ i ∈ ks, (searchS B (tableS (h.take i))).1 = 0) ∧ (opqG B h ks a c r s).2.1 = ks.getLastD a)) := by
  intro ks
  induction ks with
  | nil => intro a c r s _; exact ⟨fun h => absurd rfl h, fun _ => ⟨fun i hi => (by cases hi), rfl⟩⟩
  | cons k ks ih =>
    intro a c r s hp
    obtain ⟨hk, hp'⟩ := List.pairwise_cons.1 hp
    rw [opqG]
    by_cases hv : (searchS B (tableS (h.take k))).1 = 0
    · rw [if_pos hv]
      obtain ⟨g1, g2⟩ := ih k (searchS B (tableS (h.take k))).2.1 (searchS B (tableS (h.take k))).2.2.1 (s + (searchS B (tableS (h.take k))).2.2.2) hp'
      refine ⟨fun hne => ?_, fun he => ?_⟩
      · obtain ⟨e1, e2, e3⟩ := g1 hne
        refine ⟨List.mem_cons_of_mem _ e1, e2, fun i hi hlt => ?_⟩
        rcases List.mem_cons.1 hi with rfl | hi
        · exact hv
        · exact e3 i hi hlt
      · obtain ⟨e1, e2⟩ := g2 he
        refine ⟨fun i hi => ?_, ?_⟩
        · rcases List.mem_cons.1 hi with rfl | hi
          · exact hv
          · exact e1 i hi
        · rw [e2]
          cases ks with
          | nil => rfl
          | cons x r => rfl
    · rw [if_neg hv]
      refine ⟨fun _ => ⟨List.mem_cons_self .., rfl, fun i hi hlt => ?_⟩, fun he => absurd he hv⟩
      rcases List.mem_cons.1 hi with rfl | hi
      · exact absurd hlt (Nat.lt_irrefl _)
      · have := hk i hi
        dsimp only at hlt
        omega
theorem opaque_tells (B : Nat) (h : List Ev) :
    (opaqueS B h).2.1 ≤ h.length ∧ ((opaqueS B h).1 = 0 → (opaqueS B h).2.1 = h.length) ∧ (∀ i, i < (opaqueS B h).2.1 → (searchS B (tableS (h.take i))).1 = 0) ∧
      (searchS B (tableS (h.take (opaqueS B h).2.1))).1 = (opaqueS B h).1 := by
  obtain ⟨h1, h2⟩ := opq_at (B := B) (h := h) (List.range (h.length + 1)) 0 0 [] 0 List.pairwise_lt_range
  unfold opaqueS
  by_cases hv : (opqG B h (List.range (h.length + 1)) 0 0 [] 0).1 = 0
  · obtain ⟨e1, e2⟩ := h2 hv
    have e3 : (opqG B h (List.range (h.length + 1)) 0 0 [] 0).2.1 = h.length := by
      rw [e2, List.range_succ]
      simp
    rw [e3, hv]
    exact ⟨Nat.le_refl _, fun _ => rfl, fun i hi => e1 i (List.mem_range.2 (by omega)), e1 _ (List.mem_range.2 (by omega))⟩
  · obtain ⟨e1, e2, e3⟩ := h1 hv
    have e4 := List.mem_range.1 e1
    exact ⟨by omega, fun hc => absurd hc hv, fun i hi => e3 i (List.mem_range.2 (by omega)) hi, e2⟩
/-- up to a place -/
theorem opaque_take (B : Nat) (h : List Ev) {k : Nat} (hk : k ≤ h.length) :
    ((opaqueS B h).1 ≠ 0 → (opaqueS B h).2.1 ≤ k → opaqueS B (h.take k) = opaqueS B h) ∧ (((opaqueS B h).1 = 0 ∨ k < (opaqueS B h).2.1) → (opaqueS B (h.take k)).1 = 0 ∧ (opaqueS B (h.take k)).2.1 = k) := by
  have hlen : (h.take k).length = k := by rw [List.length_take]; omega
  obtain ⟨t1, t2, t3, t4⟩ := opaque_tells B h
  obtain ⟨u1, u2, u3, u4⟩ := opaque_tells B (h.take k)
  rw [hlen] at u1 u2
  have htk : ∀ i, i ≤ k → (h.take k).take i = h.take i := fun i hi => by rw [List.take_take, Nat.min_eq_left hi]
  have hcon : opaqueS B (h.take k) = opqG B h (List.range (k + 1)) 0 0 [] 0 := by
    unfold opaqueS
    rw [hlen]
    exact opq_congr _ _ _ _ _ fun i hi => htk i (by have := List.mem_range.1 hi; omega)
  have happ : opaqueS B h = if (opaqueS B (h.take k)).1 = 0 then opqG B h ((List.range (h.length - k)).map (k + 1 + ·)) (opaqueS B (h.take k)).2.1 (opaqueS B (h.take k)).2.2.1 (opaqueS B (h.take k)).2.2.2.1 (opaqueS B (h.take k)).2.2.2.2 else opaqueS B (h.take k) := by
    rw [hcon, ← opq_app, ← List.range_add, show k + 1 + (h.length - k) = h.length + 1 from by omega]
    rfl
  refine ⟨fun hne hat => ?_, fun hor => ?_⟩
  · by_cases hv : (opaqueS B (h.take k)).1 = 0
    · have h1 := u3 (opaqueS B h).2.1
      rw [u2 hv] at h1 u4
      rcases Nat.lt_or_ge (opaqueS B h).2.1 k with h2 | h2
      · have h3 := h1 h2
        rw [htk _ hat, t4] at h3
        exact absurd h3 hne
      · have h4 : (opaqueS B h).2.1 = k := by omega
        rw [h4] at t4
        rw [htk _ (Nat.le_refl _), t4, hv] at u4
        exact absurd u4 hne
    · rw [happ, if_neg hv]
  · by_cases hv : (opaqueS B (h.take k)).1 = 0
    · exact ⟨hv, u2 hv⟩
    · rw [if_neg hv] at happ
      rcases hor with h1 | h1
      · rw [happ] at h1; exact absurd h1 hv
      · rw [happ] at h1; omega
end Go.Proofs.YtoemcdcabamgiaaDoor.RPlain
/- Plain words: transactions one after the other, each legal behind those that were committed, are explained up to each place. -/
namespace Go.Proofs.YtoemcdcabamgiaaDoor.WPlain
end Go.Proofs.YtoemcdcabamgiaaDoor.WPlain
namespace Go.Proofs.YtoemcdcabamgiaaDoor.QPlain
end Go.Proofs.YtoemcdcabamgiaaDoor.QPlain
namespace Go.Proofs.YtoemcdcabamgiaaDoor.RPlain
open WPlain QPlain

theorem ofT_none_more {g r : List Ev} {t : Int} (hr : ∀ e ∈ r, e.t ≠ t) : ofT (g ++ r) t = ofT g t := by
  rw [ofT_append]
  have : ofT r t = [] := by
    unfold ofT
    rw [List.filter_eq_nil_iff]
    intro e he hc
    exact hr e he (by simpa using hc)
  rw [this, List.append_nil]
theorem own_pre : ∀ (a b : List Rwo) (M : Int → Int), ownS M (a ++ b) = (a ++ b).length → ownS M a = a.length := by
  intro a
  induction a with
  | nil => intro b M _; rfl
  | cons o r ih =>
    intro b M h
    rw [List.cons_append, ownS, List.length_cons] at h
    rw [ownS, List.length_cons]
    by_cases hw : o.w = true
    · rw [if_pos hw] at h ⊢; rw [ih b (putM M o.v o.x) (by omega)]; omega
    · rw [if_neg hw] at h ⊢
      by_cases hr : M o.v = o.x
      · rw [if_pos hr] at h ⊢; rw [ih b M (by omega)]; omega
      · rw [if_neg hr] at h; omega
theorem legal_same {l l' : List Tx} {c c' : Nat} : ∀ (row : List Nat) (M : Int → Int), (∀ i ∈ row, opsAt l i = opsAt l' i ∧ c.testBit i = c'.testBit i) → legalG l c M row = legalG l' c' M row ∧ behindS l c M row = behindS l' c' M row := by
  intro row
  induction row with
  | nil => intro M _; exact ⟨rfl, rfl⟩
  | cons i r ih =>
    intro M h
    obtain ⟨h1, h2⟩ := h i (List.mem_cons_self ..)
    have hs : stepM l c M i = stepM l' c' M i := by unfold stepM; rw [h1, h2]
    obtain ⟨g1, g2⟩ := ih (stepM l' c' M i) (fun x hx => h x (List.mem_cons_of_mem _ hx))
    rw [legalG, legalG, behind_cons, behind_cons, hs, h1, g1, g2]
    exact ⟨rfl, rfl⟩
theorem opsAt_get (h : List Ev) {i : Nat} (hi : i < (namesOf h).length) : opsAt (tableS h) i = opsOf h (namesOf h)[i] := by
  unfold opsAt
  rw [List.getElem?_eq_getElem (by rw [tableS_len]; exact hi), tableS_get hi]
  rfl
theorem lo_bit (h : List Ev) {i : Nat} (hi : i < (namesOf h).length) : (loN (tableS h)).testBit i = decide (stateS (lastOf h (namesOf h)[i]) = 2) := by
  unfold loN
  rw [bitsN_test, tableS_len, decide_eq_true hi, Bool.true_and, List.getElem?_eq_getElem (by rw [tableS_len]; exact hi), tableS_get hi]
  rfl
/-- each prefix is explained -/
theorem ser_expl {h : List Ev} (hs : serP h) (hl : legalS (tableS h) (loN (tableS h)) (List.range (tableS h).length) = (tableS h).length) {k : Nat} (hk : k ≤ h.length) :
    Expl (tableS (h.take k)) (2 ^ (tableS (h.take k)).length - 1) (loN (tableS (h.take k))) (List.range (tableS (h.take k)).length) := by
  have hsp : h.take k ++ h.drop k = h := List.take_append_drop k h
  have hcut := names_cut h k
  have htl : (h.take k).length = k := by rw [List.length_take]; omega
  refine ⟨List.nodup_range, fun x => ?_, ?_, ?_⟩
  · rw [List.mem_range, two_bits]
    simp
  · rw [List.pairwise_iff_getElem]
    intro i j hi hj hij
    have hj' : j < (namesOf (h.take k)).length := by rw [List.length_range, tableS_len] at hj; exact hj
    rw [List.getElem_range, List.getElem_range, bfrAt_at (by rw [tableS_len]; exact hj') (by rw [tableS_len]; omega), tableS_get hj', tableS_get (by omega)]
    exact bfr_row _ hij hj'
  · rw [List.length_range]
    have hnl : (tableS (h.take k)).length ≤ (tableS h).length := by rw [tableS_len, tableS_len]; exact hcut.1
    have hnm : (tableS (h.take k)).length = (namesOf (h.take k)).length := tableS_len _
    generalize hm : (tableS (h.take k)).length = m at *
    have h1 := legal_take (tableS h) (loN (tableS h)) (List.range (tableS h).length) m zeroM
    have h2 : legalG (tableS h) (loN (tableS h)) zeroM (List.range (tableS h).length) = (tableS h).length := hl
    rw [h2, Nat.min_eq_right hnl, List.take_range, Nat.min_eq_left hnl] at h1
    cases m with
    | zero => rfl
    | succ m =>
      rw [List.range_succ] at h1 ⊢
      have hsame : ∀ i ∈ List.range m, opsAt (tableS (h.take k)) i = opsAt (tableS h) i ∧ (loN (tableS (h.take k))).testBit i = (loN (tableS h)).testBit i := fun i hi => by
        have him := List.mem_range.1 hi
        have hi1 : i < (namesOf (h.take k)).length := by omega
        have hm1 : m < (namesOf (h.take k)).length := by omega
        have hi2 : i < (namesOf h).length := by have := hcut.1; omega
        have hm2 : m < (namesOf h).length := by have := hcut.1; omega
        have he := hcut.2 i hi1 hi2
        have he2 := hcut.2 m hm1 hm2
        have hrise := rise_at hm2 him
        have hum := List.getElem_mem hm1
        have hfu : fstOf h (namesOf h)[m] < (k : Int) := by
          have := (tx_cut h k _ hum).1
          rw [← he2, this]
          have := (fst_range hum).2
          rw [htl] at this
          exact this
        have hno : ∀ e ∈ h.drop k, e.t ≠ (namesOf (h.take k))[i] := fun e hem hc => by
          obtain ⟨q, hq, rfl⟩ := List.getElem_of_mem hem
          rw [List.getElem_drop] at hc
          rw [List.length_drop] at hq
          have := ser_over hs (List.getElem_mem hi2) (List.getElem_mem hm2) hrise (p := k + q) (by omega) (by rw [hc, he])
          omega
        have hof := ofT_none_more (g := h.take k) hno
        rw [hsp] at hof
        obtain ⟨a1, _, a3⟩ := alone_last (h.take k) (namesOf (h.take k))[i]
        obtain ⟨b1, _, b3⟩ := alone_last h (namesOf (h.take k))[i]
        rw [hof] at b1 b3
        rw [opsAt_get _ hi1, opsAt_get _ hi2, lo_bit _ hi1, lo_bit _ hi2, ← he]
        exact ⟨a3.symm.trans b3, by rw [a1.symm.trans b1]⟩
      obtain ⟨g1, g2⟩ := legal_same (List.range m) zeroM hsame
      unfold legalS
      rw [legal_app] at h1 ⊢
      rw [g1, g2]
      have hle := legal_le (tableS h) (loN (tableS h)) (List.range m) zeroM
      rw [List.length_range] at h1 hle ⊢
      by_cases hp : legalG (tableS h) (loN (tableS h)) zeroM (List.range m) = m
      · rw [if_pos hp] at h1 ⊢
        have hm1 : m < (namesOf (h.take k)).length := by omega
        have hm2 : m < (namesOf h).length := by have := hcut.1; omega
        have he2 := hcut.2 m hm1 hm2
        rw [legalG] at h1 ⊢
        by_cases ho : ownS (behindS (tableS h) (loN (tableS h)) zeroM (List.range m)) (opsAt (tableS h) m) = (opsAt (tableS h) m).length
        · have hpre : opsAt (tableS (h.take k)) m <+: opsAt (tableS h) m := by
            rw [opsAt_get _ hm1, opsAt_get _ hm2, ← he2]
            have := (tx_more (h.take k) (h.drop k) _ (List.getElem_mem hm1)).2.2
            rwa [hsp] at this
          obtain ⟨b, hb⟩ := hpre
          rw [← hb] at ho
          rw [if_pos (own_pre _ b _ ho)]
          rfl
        · rw [if_neg ho] at h1; omega
      · rw [if_neg hp] at h1; omega
theorem ser_opaque {h : List Ev} (h0 : (checkS h).2 = 0) (hs : serP h) (hl : legalS (tableS h) (loN (tableS h)) (List.range (tableS h).length) = (tableS h).length) : (opaqueS 125184 h).1 = 0 := by
  obtain ⟨_, _, _, t4⟩ := opaque_tells 125184 h
  obtain ⟨t1, _, _, _⟩ := opaque_tells 125184 h
  rw [← t4]
  generalize (opaqueS 125184 h).2.1 = k at *
  have h6 : (tableS (h.take k)).length ≤ 6 := table_six (check_cut h0 k t1)
  refine (search_yes (self_table _) h6 (Nat.le_refl _)).2 ⟨loN (tableS (h.take k)), ?_, _, ser_expl hs hl t1⟩
  rw [choices_chL h6]
  exact lo_mem _
end Go.Proofs.YtoemcdcabamgiaaDoor.RPlain
/- A finding among the arguments, by value, its row cut to its first N. -/
namespace Go.Proofs.YtoemcdcabamgiaaDoor.WPlain
end Go.Proofs.YtoemcdcabamgiaaDoor.WPlain
namespace Go.Proofs.YtoemcdcabamgiaaDoor.RPlain
end Go.Proofs.YtoemcdcabamgiaaDoor.RPlain
namespace Go.Proofs.YtoemcdcabamgiaaDoor
open Go.ChangeShapes Go.WideShapes Go.ChangeAt Go.RowKit
open Go.Deep WPlain RPlain

set_option maxRecDepth 100000 in
theorem ints_trod (N : Nat) {H : Type} {enc : TypeId × Value → H} {w : World} {base : Nat} {sp : Nat → Bool} {held : Bool} {fuel : Nat} {u : Value} {y : DataW H × List MemPlace} (hf : DataW.trod enc Tryd.prog w base sp held fuel 24 [u] = some y) :
    ∃ (a : Option Addr) (n c : Nat) (row : List Int), u = .slice a n c ∧ n ≤ c ∧ Rd w (.slice a (min (n : Int) N).toNat c) (ints row) := by
  rcases open_ints Tryd.underlying24 Tryd.underlying3 cells_int hf with ⟨hc, _⟩ | ⟨a', len', cap', zs, hc, _, hle, _, hzl, _, hat, _⟩
  · simp only [List.cons.injEq, and_true] at hc
    subst hc
    exact ⟨none, 0, 0, [], rfl, Nat.le_refl _, .inl ⟨rfl, none, 0, by rw [show (min ((0 : Nat) : Int) N).toNat = 0 from by omega]⟩⟩
  · simp only [List.cons.injEq, and_true] at hc
    subst hc
    have hml : len' ≤ zs.length := by rw [hzl]; split <;> omega
    obtain ⟨k, hk⟩ : ∃ k, k = (min (len' : Int) N).toNat := ⟨_, rfl⟩
    have hkl : k ≤ len' := by omega
    refine ⟨some a', len', cap', zs.take k, rfl, hle, ?_⟩
    rw [← hk]
    by_cases h0 : 0 < k
    · obtain ⟨b, o, spot⟩ := a'
      have hspot : spot = none := by
        have := hat 0 (by omega)
        simpa [Addr.add] using World.cell?_spot this
      subst hspot
      refine .inr ⟨by rw [ints_len, List.length_take]; omega, b, o, cap', by rw [ints_len, List.length_take, Nat.min_eq_left (by omega)], fun i u hu => ?_⟩
      unfold ints at hu
      rw [List.getElem?_map, List.getElem?_take] at hu
      have hik : i < k := by
        by_cases hh : i < k
        · exact hh
        · rw [if_neg hh] at hu; cases hu
      rw [if_pos hik, List.getElem?_eq_getElem (by omega)] at hu
      have h1 := hat i (by omega)
      have hadd : (⟨b, o, none⟩ : Addr).add i = ⟨b, o + i, none⟩ := by unfold Addr.add; split <;> simp_all
      rw [hadd, List.getD_eq_getElem?_getD, List.getElem?_eq_getElem (by omega)] at h1
      rw [h1]
      simpa using hu
    · have : k = 0 := by omega
      subst this
      exact .inl ⟨by simp [ints], _, _, rfl⟩
theorem cells_fdT : Tryd.prog.cellsOf 26 = 4 := by kernel_rfl
theorem cells_u32T : Tryd.prog.cellsOf 23 = 1 := by kernel_rfl
theorem cells_intsT : Tryd.prog.cellsOf 24 = 1 := by kernel_rfl
theorem open_fd (N : Nat) {H : Type} {enc : TypeId × Value → H} {w : World} {base : Nat} {sp : Nat → Bool} {held : Bool} (fuel : Nat) (cs : List Value) (y : DataW H × List MemPlace)
    (h : DataW.trod enc Tryd.prog w base sp held fuel 26 cs = some y) : ∃ (x c s : Int) (a : Option Addr) (n cap : Nat) (row : List Int), cs = [.int .i64 x, .int .u32 c, .slice a n cap, .int .i64 s] ∧ n ≤ cap ∧ Rd w (.slice a (min (n : Int) N).toNat cap) (ints row) := by
  obtain ⟨ys, n, _, rfl, hcl, hl, hf⟩ := DataW.trod_struct Tryd.underlying26 h
  rw [cells_fdT] at hcl
  have hl4 : ys.length = 4 := hl
  have h0 : DataW.trod enc Tryd.prog w base sp held n 3 ((cs.drop 0).take (Tryd.prog.cellsOf 3)) = ys[0]? := hf 0 _ rfl
  have h1 : DataW.trod enc Tryd.prog w base sp held n 23 ((cs.drop 1).take (Tryd.prog.cellsOf 23)) = ys[1]? := hf 1 _ rfl
  have h2 : DataW.trod enc Tryd.prog w base sp held n 24 ((cs.drop 2).take (Tryd.prog.cellsOf 24)) = ys[2]? := hf 2 _ rfl
  have h3 : DataW.trod enc Tryd.prog w base sp held n 3 ((cs.drop 3).take (Tryd.prog.cellsOf 3)) = ys[3]? := hf 3 _ rfl
  rw [cells_int] at h0 h3
  rw [cells_u32T] at h1
  rw [cells_intsT] at h2
  rw [List.getElem?_eq_getElem (by omega)] at h0 h1 h2 h3
  obtain ⟨z0, c0, _, _⟩ := DataW.trod_int Tryd.underlying3 h0
  obtain ⟨z1, c1, _, _⟩ := DataW.trod_int Tryd.underlying23 h1
  obtain ⟨z3, c3, _, _⟩ := DataW.trod_int Tryd.underlying3 h3
  obtain ⟨u, hu⟩ : ∃ u, (cs.drop 2).take 1 = [u] := ⟨cs[2]'(by omega), by rw [List.drop_eq_getElem_cons (by omega)]; rfl⟩
  rw [hu] at h2
  obtain ⟨a, m, c, row, rfl, hmc, hr⟩ := ints_trod N h2
  refine ⟨z0, z1, z3, a, m, c, row, ?_, hmc, hr⟩
  have a0 := at_one _ _ _ c0
  have a1 := at_one _ _ _ c1
  have a2 := at_one _ _ _ hu
  have a3 := at_one _ _ _ c3
  apply List.ext_getElem?
  intro i
  by_cases hi : i < 4
  · have hc : i = 0 ∨ i = 1 ∨ i = 2 ∨ i = 3 := by omega
    rcases hc with rfl | rfl | rfl | rfl
    · rw [a0]; rfl
    · rw [a1]; rfl
    · rw [a2]; rfl
    · rw [a3]; rfl
  · rw [List.getElem?_eq_none (by omega), List.getElem?_eq_none (by simp; omega)]
set_option maxRecDepth 100000 in
/-- a finding among the arguments, by value -/
theorem open_found (N : Nat) {H : Type} {enc : TypeId × Value → H} {W w : World} {r : Reach} {b0 base : Nat} {sp : Nat → Bool} {held : Bool} {v : Value} {d : DataW H} {p : List MemPlace} (hv : Value.okWide Tryd.prog W r b0 26 v) (h : DataW.Trod enc Tryd.prog w base sp held 26 v d p) :
    ∃ (x c s : Int) (a : Option Addr) (n cap : Nat) (row : List Int), v = .agg #[.int .i64 x, .int .u32 c, .slice a n cap, .int .i64 s] ∧ n ≤ cap ∧ Rd w (.slice a (min (n : Int) N).toNat cap) (ints row) := by
  obtain ⟨cs, rfl, hsz⟩ := okWide_struct Tryd.underlying26 hv
  obtain ⟨fuel, hf⟩ := h
  obtain ⟨x, c, s, a, n, cap, row, hq, hn, hr⟩ := open_fd N _ _ _ hf
  refine ⟨x, c, s, a, n, cap, row, ?_, hn, hr⟩
  congr 1
  cases cs
  simpa [Value.cells] using hq
end Go.Proofs.YtoemcdcabamgiaaDoor
/- Plain words: without aborted and live transactions. -/
namespace Go.Proofs.YtoemcdcabamgiaaDoor.WPlain
end Go.Proofs.YtoemcdcabamgiaaDoor.WPlain
namespace Go.Proofs.YtoemcdcabamgiaaDoor.QPlain
end Go.Proofs.YtoemcdcabamgiaaDoor.QPlain
namespace Go.Proofs.YtoemcdcabamgiaaDoor.RPlain
open WPlain QPlain

/-- events of some transactions alone -/
def keepP (P : Int → Bool) (h : List Ev) : List Ev := h.filter fun e => P e.t
theorem keep_ofT (P : Int → Bool) (h : List Ev) (t : Int) : ofT (keepP P h) t = if P t = true then ofT h t else [] := by
  unfold ofT keepP
  rw [List.filter_filter]
  by_cases hp : P t = true
  · rw [if_pos hp]
    refine List.filter_congr fun e _ => ?_
    by_cases he : e.t = t
    · simp [he, hp]
    · simp [he]
  · rw [if_neg hp, List.filter_eq_nil_iff]
    intro e _ hc
    simp only [Bool.and_eq_true, beq_iff_eq] at hc
    rw [hc.1] at hc
    exact hp hc.2
theorem keep_names (P : Int → Bool) (h : List Ev) : namesOf (keepP P h) = (namesOf h).filter P := by
  refine rev_ind (p := fun h => namesOf (keepP P h) = (namesOf h).filter P) rfl ?_ h
  intro h e ih
  unfold keepP at *
  rw [List.filter_append, namesOf_snoc]
  by_cases hp : P e.t = true
  · have h1 : [e].filter (fun e => P e.t) = [e] := by simp [hp]
    rw [h1, namesOf_snoc, ih]
    unfold addName
    by_cases hm : e.t ∈ namesOf h
    · rw [if_pos (by simpa using ⟨hm, hp⟩), if_pos (by simpa using hm)]
    · rw [if_neg (by simp; exact fun hc => absurd hc hm), if_neg (by simpa using hm), List.filter_append]
      simp [hp]
  · have h1 : [e].filter (fun e => P e.t) = [] := by simp [hp]
    rw [h1, List.append_nil, ih]
    unfold addName
    by_cases hm : e.t ∈ namesOf h
    · rw [if_pos (by simpa using hm)]
    · rw [if_neg (by simpa using hm), List.filter_append]
      simp [hp]
theorem keep_check {h : List Ev} (P : Int → Bool) (hc : (checkS h).2 = 0) : (checkS (keepP P h)).2 = 0 := by
  have hr := (check_agree hc).1
  have hrb : right (keepP P h) = true := by
    simp only [right, Bool.and_eq_true, decide_eq_true_eq, List.all_eq_true] at hr ⊢
    refine ⟨⟨Nat.le_trans (List.length_filter_le _ _) hr.1.1, fun e he => hr.1.2 e ((List.mem_filter.1 he).1)⟩, ?_⟩
    rw [keep_names]
    exact Nat.le_trans (List.length_filter_le _ _) hr.2
  rw [(checkS_ok hrb).1]
  rw [(checkS_ok hr).1] at hc
  unfold flw0 at hc ⊢
  rw [flw_tr] at hc ⊢
  intro t
  rw [keep_ofT]
  split
  · exact hc t
  · rfl
/-- is there an event of u at or ahead of one of t? -/
def meetB (t u : Int) : List Ev → Bool
  | [] => false
  | e :: r => (decide (e.t = u) && (decide (e.t = t) || r.any fun y => decide (y.t = t))) || meetB t u r
theorem meet_iff (t u : Int) : ∀ h : List Ev, meetB t u h = true ↔ ∃ i j : Nat, i ≤ j ∧ (∃ hi : i < h.length, h[i].t = u) ∧ ∃ hj : j < h.length, h[j].t = t := by
  intro h
  induction h with
  | nil =>
    constructor
    · intro hc; cases hc
    · rintro ⟨i, j, _, ⟨hi, _⟩, _⟩; exact absurd hi (by simp)
  | cons e r ih =>
    rw [meetB, Bool.or_eq_true, ih]
    constructor
    · rintro (h1 | ⟨i, j, hij, ⟨hi, hiu⟩, hj, hjt⟩)
      · simp only [Bool.and_eq_true, Bool.or_eq_true, decide_eq_true_eq, List.any_eq_true] at h1
        rcases h1.2 with h2 | ⟨y, hy, hyt⟩
        · exact ⟨0, 0, Nat.le_refl _, ⟨by simp, h1.1⟩, by simp, h2⟩
        · obtain ⟨j, hj, rfl⟩ := List.getElem_of_mem hy
          exact ⟨0, j + 1, by omega, ⟨by simp, h1.1⟩, by simpa using hj, by simpa using hyt⟩
      · exact ⟨i + 1, j + 1, by omega, ⟨by simpa using hi, by simpa using hiu⟩, by simpa using hj, by simpa using hjt⟩
    · rintro ⟨i, j, hij, ⟨hi, hiu⟩, hj, hjt⟩
      cases i with
      | zero =>
        left
        simp only [List.getElem_cons_zero] at hiu
        simp only [Bool.and_eq_true, Bool.or_eq_true, decide_eq_true_eq, List.any_eq_true]
        refine ⟨hiu, ?_⟩
        cases j with
        | zero => exact .inl hjt
        | succ j => exact .inr ⟨r[j]'(by simpa using hj), List.getElem_mem _, by simpa using hjt⟩
      | succ i =>
        cases j with
        | zero => omega
        | succ j => exact .inr ⟨i, j, by omega, ⟨by simpa using hi, by simpa using hiu⟩, by simpa using hj, by simpa using hjt⟩
theorem meet_keep (P : Int → Bool) {t u : Int} (ht : P t = true) (hu : P u = true) : ∀ h : List Ev, meetB t u (keepP P h) = meetB t u h := by
  intro h
  induction h with
  | nil => rfl
  | cons e r ih =>
    unfold keepP at *
    rw [List.filter_cons, meetB]
    by_cases hp : P e.t = true
    · rw [if_pos hp, meetB, ih]
      congr 3
      rw [List.any_filter]
      refine List.any_congr rfl fun y => ?_
      by_cases hy : y.t = t
      · simp [hy, ht]
      · simp [hy]
    · rw [if_neg hp, ih]
      have : e.t ≠ u := fun hc => hp (hc ▸ hu)
      simp [this]
theorem lst_lastK {h : List Ev} {t : Int} {p : Nat} (hp : p < h.length) (ht : h[p].t = t) : (p : Int) ≤ lstOf h t := by
  revert p
  refine rev_ind (p := fun h => ∀ {p : Nat} (hp : p < h.length), h[p].t = t → (p : Int) ≤ lstOf h t) ?_ ?_ h
  · intro p hp; exact absurd hp (by simp)
  · intro h e ih p hp ht
    rw [lstOf_snoc]
    by_cases he : e.t = t
    · rw [if_pos he]
      simp at hp
      omega
    · rw [if_neg he]
      by_cases hl : p < h.length
      · rw [List.getElem_append_left hl] at ht
        exact ih hl ht
      · exfalso
        have : p = h.length := by simp at hp; omega
        subst this
        simp at ht
        exact he ht
theorem asked_t (h : List Ev) {t : Int} (ht : t ∈ namesOf h) : (askedOf h t).t = t := by
  revert ht
  refine rev_ind (p := fun h => t ∈ namesOf h → (askedOf h t).t = t) ?_ ?_ h
  · intro ht; simp [namesOf] at ht
  · intro h e ih ht
    rw [askedOf_snoc]
    by_cases he : e.t = t
    · rw [if_pos he]; exact he
    · rw [if_neg he]
      rcases (mem_names_snoc h e t).1 ht with hm | hm
      · exact ih hm
      · exact absurd hm.symm he
theorem lst_fst (h : List Ev) {t u : Int} (ht : t ∈ namesOf h) (hu : u ∈ namesOf h) : decide (lstOf h t < fstOf h u) = !meetB t u h := by
  rw [Bool.eq_iff_iff]
  simp only [decide_eq_true_eq, Bool.not_eq_true']
  constructor
  · intro hlt
    cases hm : meetB t u h with
    | false => rfl
    | true =>
      obtain ⟨i, j, hij, ⟨hi, hiu⟩, hj, hjt⟩ := (meet_iff t u h).1 hm
      have h1 := fst_first hi hiu
      have h2 := lst_lastK hj hjt
      omega
  · intro hm
    obtain ⟨l, h1, h2, h3⟩ := asked_at h t ht
    obtain ⟨f, g1, g2, g3⟩ := fst_at hu
    rw [h1, g1]
    rcases Nat.lt_or_ge l f with h4 | h4
    · omega
    · exfalso
      have hat : h[l].t = t := by rw [h3]; exact asked_t h ht
      have := (meet_iff t u h).2 ⟨f, l, h4, ⟨g2, g3⟩, h2, hat⟩
      rw [hm] at this
      cases this
theorem keep_mem {P : Int → Bool} {h : List Ev} {t : Int} : t ∈ namesOf (keepP P h) ↔ t ∈ namesOf h ∧ P t = true := by rw [keep_names, List.mem_filter]
theorem keep_tx {P : Int → Bool} {h : List Ev} {t : Int} (hp : P t = true) : (txOf (keepP P h) t).s = (txOf h t).s ∧ (txOf (keepP P h) t).o = (txOf h t).o := by
  obtain ⟨a1, _, a3⟩ := alone_last (keepP P h) t
  obtain ⟨b1, _, b3⟩ := alone_last h t
  rw [keep_ofT, if_pos hp] at a1 a3
  exact ⟨by show stateS _ = stateS _; rw [← a1, b1], by show opsOf _ _ = opsOf _ _; rw [← a3, b3]⟩
theorem keep_bfr {P : Int → Bool} {h : List Ev} {t u : Int} (ht : t ∈ namesOf (keepP P h)) (hu : u ∈ namesOf (keepP P h)) : bfr (txOf (keepP P h) t) (txOf (keepP P h) u) = bfr (txOf h t) (txOf h u) := by
  obtain ⟨h1, p1⟩ := keep_mem.1 ht
  obtain ⟨h2, p2⟩ := keep_mem.1 hu
  have hs := (keep_tx (h := h) p1).1
  have e1 := lst_fst (keepP P h) ht hu
  have e2 := lst_fst h h1 h2
  rw [meet_keep P p1 p2] at e1
  unfold bfr
  rw [hs]
  congr 1
  show decide (lstOf (keepP P h) t < fstOf (keepP P h) u) = decide (lstOf h t < fstOf h u)
  rw [e1, e2]
end Go.Proofs.YtoemcdcabamgiaaDoor.RPlain
