/- Merged: GphB, WorB, QckA. -/
import Derived.Test.YtmnblljenobofaaDoorMg7
import Derived.Test.YtmnblljenobofaaDoorMg6
/- Plain words: graphs explain. -/
namespace Go.Proofs.YtmnblljenobofaaDoor.WPlain
end Go.Proofs.YtmnblljenobofaaDoor.WPlain
namespace Go.Proofs.YtmnblljenobofaaDoor.QPlain
end Go.Proofs.YtmnblljenobofaaDoor.QPlain
namespace Go.Proofs.YtmnblljenobofaaDoor.RPlain
open WPlain QPlain

theorem whole_at {l : List Tx} {row : List Nat} (hw : Whole l row) {k : Nat} (hk : k < l.length) : ∃ p, ∃ hp : p < row.length, row[p] = k := by
  obtain ⟨p, hp, he⟩ := List.getElem_of_mem ((hw.mem k).2 hk)
  exact ⟨p, hp, he⟩
theorem owns_lt {l : List Tx} {c k : Nat} {v : Int} (h : wrt l c k v = true) : k < l.length := by
  unfold wrt at h
  rw [Bool.and_eq_true] at h
  obtain ⟨o, ho, _⟩ := owns_iff.1 h.2
  unfold opsAt at ho
  cases hl : l[k]? with
  | none => rw [hl] at ho; cases ho
  | some X => exact (List.getElem?_eq_some_iff.1 hl).1
/-- of a row that is legal: where what was read is from -/
theorem legal_src {l : List Tx} {c : Nat} {row : List Nat} (hu : Uniq l) (hw : Whole l row) (hl : legalS l c row = row.length) {p : Nat} (hp : p < row.length) {n : Nat} {o : Rwo} (ho : (opsAt l row[p])[n]? = some o) (hr : o.w = false) :
    (srcS l row[p] n = (row[p] : Int) ∧ finB ((opsAt l row[p]).take n) o.v o.x = true) ∨
      (srcS l row[p] n = -1 ∧ ∀ q (hq : q < p), wrt l c (row[q]'(by omega)) o.v = false) ∨
      ∃ q, ∃ hq : q < p, srcS l row[p] n = ((row[q]'(by omega) : Nat) : Int) ∧ wrt l c (row[q]'(by omega)) o.v = true ∧ finB (opsAt l (row[q]'(by omega))) o.v o.x = true ∧ ∀ r (_ : q < r) (hrp : r < p), wrt l c (row[r]'(by omega)) o.v = false := by
  have h1 := own_all.1 (legal_each.1 hl p hp) n o ho hr
  rcases src_cases ho hr with ⟨e1, e2⟩ | ⟨e1, e2, e3⟩ | ⟨e1, e2, e3⟩
  · left
    refine ⟨e2, ?_⟩
    rw [(fin_with _ _ _ _).1 e1, decide_eq_true_eq]
    exact h1
  · right; left
    refine ⟨e3, fun q hq => ?_⟩
    rw [(fin_with _ _ 0 _).2 e1] at h1
    rcases mem_last l c o.v (row.take p) zeroM with ⟨g1, _⟩ | ⟨P1, k, P2, g1, g2, _, g4⟩
    · exact g1 _ (List.mem_take_iff_getElem.2 ⟨q, by omega, rfl⟩)
    · have hf := g4 o.x
      rw [h1, decide_eq_true rfl] at hf
      obtain ⟨w, hwm, hww, _, hwx⟩ := writes_iff.1 (fin_writes hf)
      exact absurd (hwx.trans e2) (hu.zero k (owns_lt g2) w hwm hww)
  · right; right
    rw [(fin_with _ _ 0 _).2 e1] at h1
    rcases mem_last l c o.v (row.take p) zeroM with ⟨_, g2⟩ | ⟨P1, k, P2, g1, g2, g3, g4⟩
    · rw [g2] at h1; exact absurd h1.symm e2
    · have hf := g4 o.x
      rw [h1, decide_eq_true rfl] at hf
      have hlenP : (row.take p).length = p := by rw [List.length_take]; omega
      have hq : P1.length < p := by rw [← hlenP, g1, List.length_append, List.length_cons]; omega
      have hk : row[P1.length]'(by omega) = k := by
        have h5 : (row.take p)[P1.length]'(by omega) = k := by simp only [g1]; simp
        rwa [List.getElem_take] at h5
      have hne : k ≠ row[p] := fun hc => by
        rw [← hk] at hc
        have := (List.getElem_inj hw.nodup).1 hc
        omega
      have hwr := fin_writes hf
      refine ⟨P1.length, hq, ?_, by rw [hk]; exact g2, by rw [hk]; exact hf, fun r hqr hrp => ?_⟩
      · rcases e3 with ⟨k', f1, f2, f3, f4⟩ | ⟨f1, _⟩
        · rw [f4, hk, hu.one k' k f1 (owns_lt g2) _ _ f3 hwr]
        · rw [f1 k (owns_lt g2) hne] at hwr; cases hwr
      · have h6 : (row.take p)[r]'(by omega) = row[r]'(by omega) := List.getElem_take ..
        refine g3 _ ?_
        rw [← h6]
        have h7 : ∀ x (hx : r < (P1 ++ k :: P2).length), (P1 ++ k :: P2)[r] = x → x ∈ P2 := by
          intro x hx he
          rw [List.getElem_append_right (by omega)] at he
          obtain ⟨d, hd⟩ : ∃ d, r - P1.length = d + 1 := ⟨r - P1.length - 1, by omega⟩
          simp only [hd, List.getElem_cons_succ] at he
          rw [← he]
          exact List.getElem_mem _
        exact h7 _ (by rw [← g1]; omega) (by simp only [g1])
/-- a row that is legal, and keeps the order: what was read can be explained -/
theorem legal_read {l : List Tx} {c : Nat} {row : List Nat} (hu : Uniq l) (hw : Whole l row) (hl : legalS l c row = row.length) : readS l c = true := by
  unfold readS
  rw [List.all_eq_true]
  intro t ht
  rw [List.all_eq_true]
  intro n hn
  obtain ⟨p, hp, rfl⟩ := whole_at hw (List.mem_range.1 ht)
  obtain ⟨o, hno⟩ : ∃ o, (opsAt l row[p])[n]? = some o := ⟨_, List.getElem?_eq_getElem (List.mem_range.1 hn)⟩
  unfold expl1
  rw [hno]
  dsimp only
  cases hr : o.w with
  | true => rfl
  | false =>
    rw [if_neg (by simp)]
    rcases legal_src hu hw hl hp hno hr with ⟨h1, h2⟩ | ⟨h1, _⟩ | ⟨q, hq, h1, h2, h3, _⟩
    · rw [if_pos h1]; exact h2
    · rw [h1, if_neg (by omega), if_pos (by omega)]; rfl
    · have hne : ¬ (((row[q]'(by omega) : Nat) : Int) = (row[p] : Int)) := fun hc => by
        have := (List.getElem_inj hw.nodup).1 (Int.ofNat.inj hc)
        omega
      rw [h1, if_neg hne, if_neg (by omega), Int.toNat_natCast, h3, Bool.true_and]
      unfold wrt at h2
      rw [Bool.and_eq_true] at h2
      exact h2.1
/-- .. and it keeps what its own graph tells -/
theorem legal_keeps {l : List Tx} {c : Nat} {row : List Nat} (hu : Uniq l) (hw : Whole l row) (hk : row.Pairwise fun b a => bfrAt l a b = false) (hl : legalS l c row = row.length) : row.Pairwise fun b a => behB l c row a b = false := by
  rw [List.pairwise_iff_getElem] at hk ⊢
  intro a b ha hb hab
  unfold behB
  rw [hk a b ha hb hab, Bool.false_or]
  have hpos : ∀ x y (hx : x < row.length) (hy : y < row.length), aheadB row[x] row[y] row = true ↔ x < y := fun x y hx hy => ahead_iff hw.nodup hx hy rfl rfl
  have h3 : third l c row row[b] row[a] = false := by
    cases ht : third l c row row[b] row[a] with
    | false => rfl
    | true =>
      obtain ⟨n, o, ho, hr, e1, e2, e3, e4, e5⟩ := third_iff.1 ht
      rcases legal_src hu hw hl hb ho hr with ⟨h1, _⟩ | ⟨h1, h2⟩ | ⟨q, hq, h1, h2, h3, h4⟩
      · exact absurd h1 e1
      · rw [h2 a hab] at e4; cases e4
      · rcases e5 with e5 | e5
        · omega
        · rw [h1, Int.toNat_natCast, hpos q a (by omega) ha] at e5
          rw [h4 a e5 hab] at e4
          cases e4
  have h2 : secnd l row[b] row[a] = false := by
    cases ht : secnd l row[b] row[a] with
    | false => rfl
    | true =>
      obtain ⟨n, o, ho, hr, e1, e2⟩ := secnd_iff.1 ht
      rcases legal_src hu hw hl ha ho hr with ⟨h1, _⟩ | ⟨h1, _⟩ | ⟨q, hq, h1, _⟩
      · rw [h1] at e2
        have := (List.getElem_inj hw.nodup).1 (Int.ofNat.inj e2)
        omega
      · omega
      · rw [h1] at e2
        have := (List.getElem_inj hw.nodup).1 (Int.ofNat.inj e2)
        omega
  rw [h3, h2, Bool.false_or, Bool.false_or]
  cases ht : (List.range l.length).any fun t => fourth l c row t row[b] row[a] with
  | false => rfl
  | true =>
    obtain ⟨t, _, hf⟩ := List.any_eq_true.1 ht
    obtain ⟨n, o, _, _, _, _, _, _, _, e8⟩ := fourth_iff.1 hf
    rw [hpos b a hb ha] at e8
    omega
/-- a row that keeps what any graph tells is legal -/
theorem graph_legal {l : List Tx} {c : Nat} {R F : List Nat} (hR : Whole l R) (hF : Whole l F) (hread : readS l c = true) (hk : F.Pairwise fun b a => behB l c R a b = false) : legalS l c F = F.length := by
  refine legal_each.2 fun p hp => own_all.2 fun n o ho hr => ?_
  have hn := (List.getElem?_eq_some_iff.1 ho).1
  have hpl : F[p] < l.length := (hF.mem _).1 (List.getElem_mem hp)
  have hex : expl1 l c F[p] n = true := by
    unfold readS at hread
    rw [List.all_eq_true] at hread
    have := hread F[p] (List.mem_range.2 hpl)
    rw [List.all_eq_true] at this
    exact this n (List.mem_range.2 hn)
  unfold expl1 at hex
  rw [ho] at hex
  dsimp only at hex
  rw [if_neg (by rw [hr]; simp)] at hex
  rw [List.pairwise_iff_getElem] at hk
  -- of two places, the one that is to come behind is behind
  have horder : ∀ i k, i < l.length → k < l.length → i ≠ k → behB l c R i k = true → ∀ x y (hx : x < F.length) (hy : y < F.length), F[x] = i → F[y] = k → x < y := fun i k hi hkl hne hb x y hx hy hxi hyk => by
    rcases Nat.lt_trichotomy x y with h | h | h
    · exact h
    · subst h; exact absurd (hxi.symm.trans hyk) hne
    · have := hk y x hy hx h
      rw [hxi, hyk, hb] at this
      cases this
  have hthird : ∀ i k, third l c R i k = true → behB l c R i k = true := fun i k h => by unfold behB; rw [h]; simp
  have hsecnd : ∀ i k, secnd l i k = true → behB l c R i k = true := fun i k h => by unfold behB; rw [h]; simp
  have hfourth : ∀ t i k, t < l.length → fourth l c R t i k = true → behB l c R i k = true := fun t i k ht h => by
    unfold behB
    have : ((List.range l.length).any fun t => fourth l c R t i k) = true := List.any_eq_true.2 ⟨t, List.mem_range.2 ht, h⟩
    rw [this, Bool.or_true]
  rcases src_cases ho hr with ⟨e1, e2⟩ | ⟨e1, e2, e3⟩ | ⟨e1, e2, e3⟩
  · rw [if_pos e2, (fin_with (behindS l c zeroM (F.take p)) _ _ _).1 e1, decide_eq_true_eq] at hex
    exact hex
  · rw [(fin_with _ _ 0 _).2 e1, e2]
    rcases mem_last l c o.v (F.take p) zeroM with ⟨_, g2⟩ | ⟨P1, k, P2, g1, g2, _, _⟩
    · rw [g2]; rfl
    · exfalso
      have hkm : k ∈ F.take p := by rw [g1]; simp
      obtain ⟨q, hq, hqe⟩ := List.mem_take_iff_getElem.1 hkm
      have hqp : q < p := by omega
      have hne : k ≠ F[p] := fun hc => by
        rw [← hqe] at hc
        have := (List.getElem_inj hF.nodup).1 hc
        omega
      have h3 : third l c R F[p] k = true := third_iff.2 ⟨n, o, ho, hr, by rw [e3]; omega, hne, by rw [e3]; omega, g2, .inl (by rw [e3]; omega)⟩
      have := horder _ _ hpl (owns_lt g2) (fun hc => hne hc.symm) (hthird _ _ h3) p q hp (by omega) rfl hqe
      omega
  · rw [(fin_with _ _ 0 _).2 e1]
    rcases e3 with ⟨w, f1, f2, f3, f4⟩ | ⟨_, f2⟩
    · have hne1 : ¬ ((w : Int) = (F[p] : Int)) := by omega
      rw [f4, if_neg hne1, if_neg (by omega), Int.toNat_natCast, Bool.and_eq_true] at hex
      have hww : wrt l c w o.v = true := by unfold wrt; rw [hex.2, fin_owns hex.1]; rfl
      obtain ⟨pw, hpw, hpwe⟩ := whole_at hF f1
      have h2 : secnd l w F[p] = true := secnd_iff.2 ⟨n, o, ho, hr, f2, f4⟩
      have hlt := horder w F[p] f1 hpl f2 (hsecnd _ _ h2) pw p hpw hp hpwe rfl
      rcases mem_last l c o.v (F.take p) zeroM with ⟨g1, _⟩ | ⟨P1, k, P2, g1, g2, g3, g4⟩
      · have := g1 w (List.mem_take_iff_getElem.2 ⟨pw, by omega, hpwe⟩)
        rw [hww] at this; cases this
      · by_cases hkw : k = w
        · have := g4 o.x
          rw [hkw, hex.1] at this
          exact of_decide_eq_true this.symm
        · exfalso
          have hlenP : (F.take p).length = p := by rw [List.length_take]; omega
          have hqp : P1.length < p := by rw [← hlenP, g1, List.length_append, List.length_cons]; omega
          have hk1 : F[P1.length]'(by omega) = k := by
            have h5 : (F.take p)[P1.length]'(by omega) = k := by simp only [g1]; simp
            rwa [List.getElem_take] at h5
          have hpk : pw < P1.length := by
            rcases Nat.lt_trichotomy pw P1.length with h | h | h
            · exact h
            · subst h; exact absurd (hk1.symm.trans hpwe) hkw
            · exfalso
              have h6 : (F.take p)[pw]'(by omega) = w := by rw [List.getElem_take]; exact hpwe
              have h7 : w ∈ P2 := by
                simp only [g1] at h6
                rw [List.getElem_append_right (by omega)] at h6
                obtain ⟨d, hd⟩ : ∃ d, pw - P1.length = d + 1 := ⟨pw - P1.length - 1, by omega⟩
                simp only [hd, List.getElem_cons_succ] at h6
                rw [← h6]
                exact List.getElem_mem _
              rw [g3 w h7] at hww
              cases hww
          have hkp : k ≠ F[p] := fun hc => by
            rw [← hk1] at hc
            have := (List.getElem_inj hF.nodup).1 hc
            omega
          obtain ⟨rw', hrw, hrwe⟩ := whole_at hR f1
          obtain ⟨rk, hrk, hrke⟩ := whole_at hR (owns_lt g2)
          have hah : ∀ x y (hx : x < R.length) (hy : y < R.length), aheadB R[x] R[y] R = true ↔ x < y := fun x y hx hy => ahead_iff hR.nodup hx hy rfl rfl
          rcases Nat.lt_trichotomy rw' rk with h | h | h
          · have h3 : third l c R F[p] k = true := third_iff.2 ⟨n, o, ho, hr, by rw [f4]; exact hne1, hkp, by rw [f4]; omega, g2, .inr (by rw [f4, Int.toNat_natCast, ← hrwe, ← hrke, hah]; exact h)⟩
            have := horder _ _ hpl (owns_lt g2) (fun hc => hkp hc.symm) (hthird _ _ h3) p P1.length hp (by omega) rfl hk1
            omega
          · subst h; exact hkw (hrke.symm.trans hrwe)
          · have h4 : fourth l c R F[p] k w = true := fourth_iff.2 ⟨n, o, ho, hr, by rw [f4]; exact hne1, f4, hkp, hkw, g2, by rw [← hrwe, ← hrke, hah]; exact h⟩
            have := horder _ _ (owns_lt g2) f1 hkw (hfourth _ _ _ hpl h4) P1.length pw (by omega) hpw hk1 hpwe
            omega
    · rw [f2, if_neg (by omega), if_pos (by omega)] at hex
      cases hex
/-- .. and keeps the order -/
theorem graph_order {l : List Tx} {c : Nat} {R F : List Nat} (hk : F.Pairwise fun b a => behB l c R a b = false) : F.Pairwise fun b a => bfrAt l a b = false := hk.imp fun {b a} h => by
  unfold behB at h
  simp only [Bool.or_eq_false_iff] at h
  exact h.1.1.1
theorem beh_self {l : List Tx} {c : Nat} {row : List Nat} {i : Nat} (hs : bfrAt l i i = false) : behB l c row i i = false := by
  cases h : behB l c row i i with
  | false => rfl
  | true =>
    exfalso
    unfold behB at h
    simp only [Bool.or_eq_true, List.any_eq_true] at h
    rcases h with ((h | h) | h) | ⟨t, _, h⟩
    · rw [hs] at h; cases h
    · obtain ⟨n, o, _, _, _, h4, _⟩ := third_iff.1 h; exact h4 rfl
    · obtain ⟨n, o, _, _, h3, _⟩ := secnd_iff.1 h; exact h3 rfl
    · obtain ⟨n, o, _, _, _, _, _, h6, _⟩ := fourth_iff.1 h; exact h6 rfl
end Go.Proofs.YtmnblljenobofaaDoor.RPlain
/- Plain words: consistency is between; how many steps there may be. -/
namespace Go.Proofs.YtmnblljenobofaaDoor.WPlain
end Go.Proofs.YtmnblljenobofaaDoor.WPlain
namespace Go.Proofs.YtmnblljenobofaaDoor.QPlain
end Go.Proofs.YtmnblljenobofaaDoor.QPlain
namespace Go.Proofs.YtmnblljenobofaaDoor.RPlain
open WPlain QPlain

/-- how many steps -/
theorem ext_most {n : Nat} {S : List Nat} {p : List Nat → Nat → Bool} (hp : ∀ row k, k < n → p row k = true → k ∈ S ∧ k ∉ row) : ∀ (s : Nat) (row : List Nat), row.Nodup → (∀ k ∈ row, k ∈ S) → S.Nodup → row.length + s = S.length → (extP n p s row).length ≤ factN s := by
  intro s
  induction s with
  | zero => intro row _ _ _ _; exact Nat.le_refl _
  | succ s ih =>
    intro row hn hr hnS hl
    rw [extP, List.length_flatMap]
    have h1 : ∀ L : List Nat, (∀ k ∈ L, k < n) → (L.map fun k => (if p row k = true then extP n p s (row ++ [k]) else []).length).sum ≤ (L.map fun k => if p row k = true then factN s else 0).sum := by
      intro L
      induction L with
      | nil => intro _; exact Nat.le_refl _
      | cons k r ihL =>
        intro hL
        rw [List.map_cons, List.map_cons, List.sum_cons, List.sum_cons]
        have h2 := ihL fun x hx => hL x (List.mem_cons_of_mem _ hx)
        by_cases hpk : p row k = true
        · rw [if_pos hpk, if_pos hpk]
          obtain ⟨h3, h4⟩ := hp row k (hL k (List.mem_cons_self ..)) hpk
          have h5 := ih (row ++ [k]) (List.nodup_append.2 ⟨hn, by simp, fun a ha b hb => by rw [List.mem_singleton.1 hb]; exact fun hc => h4 (hc ▸ ha)⟩) (fun x hx => by
            rcases List.mem_append.1 hx with hx | hx
            · exact hr x hx
            · rw [List.mem_singleton.1 hx]; exact h3) hnS (by rw [List.length_append, List.length_singleton]; omega)
          omega
        · rw [if_neg hpk, if_neg hpk]
          simp only [List.length_nil]
          omega
    refine Nat.le_trans (h1 _ fun k hk => List.mem_range.1 hk) ?_
    rw [sum_ite, factN, Nat.mul_comm (factN s)]
    refine Nat.mul_le_mul_right _ ?_
    have h6 := nodup_le (row ++ (List.range n).filter (p row)) S (List.nodup_append.2 ⟨hn, List.nodup_range.filter _, fun a ha b hb hc => by
      have h7 := List.mem_filter.1 hb
      exact (hp row b (List.mem_range.1 h7.1) h7.2).2 (hc ▸ ha)⟩) (fun x hx => by
        rcases List.mem_append.1 hx with hx | hx
        · exact hr x hx
        · have h7 := List.mem_filter.1 hx
          exact (hp row x (List.mem_range.1 h7.1) h7.2).1)
    rw [List.length_append] at h6
    omega
theorem factN_mono {a b : Nat} (h : a ≤ b) : factN a ≤ factN b := by
  induction b with
  | zero => rw [Nat.le_zero.1 h]; exact Nat.le_refl _
  | succ b ih =>
    rcases Nat.lt_or_ge a (b + 1) with h2 | h2
    · rw [factN, Nat.mul_succ]; exact Nat.le_trans (ih (by omega)) (Nat.le_add_left _ _)
    · rw [show a = b + 1 from by omega]; exact Nat.le_refl _
end Go.Proofs.YtmnblljenobofaaDoor.RPlain
/- Plain words: graphs in place of searches. -/
namespace Go.Proofs.YtmnblljenobofaaDoor.WPlain
end Go.Proofs.YtmnblljenobofaaDoor.WPlain
namespace Go.Proofs.YtmnblljenobofaaDoor.QPlain
end Go.Proofs.YtmnblljenobofaaDoor.QPlain
namespace Go.Proofs.YtmnblljenobofaaDoor.RPlain
open WPlain QPlain

def hitQ (l : List Tx) (c : Nat) (row : List Nat) : Bool := decide (mayE (buildS l c row) = 0)
def rowsQ (B : Nat) (l : List Tx) (c : Nat) : List (List Nat) → Nat → Nat × Nat × List Nat × Nat
  | [], s => (1, 0, [], s)
  | row :: r, s => if s = B then (2, 0, [], s) else if hitQ l c row = true then (0, c, (allS (buildS l c row)).headD [], s + 1) else rowsQ B l c r (s + 1)
def quickG (B : Nat) (l : List Tx) : List Nat → Nat → Nat × Nat × List Nat × Nat
  | [], s => (1, 0, [], s)
  | c :: r, s => if readS l c = false then quickG B l r s else if (rowsQ B l c (allS (afterS l)) s).1 = 1 then quickG B l r (rowsQ B l c (allS (afterS l)) s).2.2.2 else rowsQ B l c (allS (afterS l)) s
def quickS (B : Nat) (l : List Tx) : Nat × Nat × List Nat × Nat := quickG B l (choicesS l) 0

theorem build_len (l : List Tx) (c : Nat) (row : List Nat) : (buildS l c row).length = l.length := by simp [buildS]
theorem aft_build {l : List Tx} {c : Nat} {row : List Nat} {i k : Nat} (hi : i < l.length) (hk : k < l.length) : aft (buildS l c row) i k = behB l c row i k := by
  unfold aft
  rw [List.getD_eq_getElem?_getD, List.getElem?_eq_getElem (by rw [build_len]; exact hi), Option.getD_some]
  unfold buildS
  rw [List.getElem_map, List.getElem_range, bitsN_test, decide_eq_true hk, Bool.true_and]
theorem build_lt {l : List Tx} {c : Nat} {row : List Nat} : ∀ a ∈ buildS l c row, a < 2 ^ (buildS l c row).length := fun a ha => by
  obtain ⟨i, _, rfl⟩ := List.mem_map.1 ha
  rw [build_len]
  exact bitsN_lt _ _
theorem hit_iff {l : List Tx} {c : Nat} {row : List Nat} (h6 : l.length ≤ 6) : hitQ l c row = true ↔ Free (buildS l c row) := by
  unfold hitQ
  rw [decide_eq_true_eq, mayE_zero]
  constructor
  · exact fun h => h.2.2
  · exact fun h => ⟨by rw [build_len]; exact h6, build_lt, h⟩
theorem whole_all {l : List Tx} {L row : List Nat} (hL : L.length = l.length) (h : row ∈ allS L) : Whole l row := by
  obtain ⟨h1, h2, h3⟩ := allS_mem.1 h
  have hn := goes_nodup h3
  exact ⟨hn, fun k => ⟨fun hk => hL ▸ h2 k hk, fun hk => nodup_full row L.length hn h2 h1 k (by omega)⟩⟩
theorem whole_len {l : List Tx} {row : List Nat} (h : Whole l row) : row.length = l.length := by
  have h1 := nodup_le row (List.range l.length) h.nodup fun x hx => List.mem_range.2 ((h.mem x).1 hx)
  have h2 := nodup_le (List.range l.length) row List.nodup_range fun x hx => (h.mem x).2 (List.mem_range.1 hx)
  rw [List.length_range] at h1 h2
  omega
/-- a graph without a way back: its first row explains -/
theorem hit_expl {l : List Tx} {c : Nat} {row : List Nat} (h6 : l.length ≤ 6) (hr : row ∈ allS (afterS l)) (hread : readS l c = true) (hh : hitQ l c row = true) : Expl l (2 ^ l.length - 1) c ((allS (buildS l c row)).headD []) := by
  have hf := (hit_iff h6).1 hh
  have hpos := allS_some hf
  have hmem : (allS (buildS l c row)).headD [] ∈ allS (buildS l c row) := by
    cases hc : allS (buildS l c row) with
    | nil => rw [hc] at hpos; exact absurd hpos (by simp)
    | cons x r => exact List.mem_cons_self ..
  have hW := whole_all (by rw [afterS_len]) hr
  have hF := whole_all (build_len l c row) hmem
  have hk : ((allS (buildS l c row)).headD []).Pairwise fun b a => behB l c row a b = false := by
    refine List.Pairwise.imp_of_mem (fun {b a} hb ha hg => ?_) (allS_mem.1 hmem).2.2
    have := hg.2
    rwa [aft_build ((hF.mem a).1 ha) ((hF.mem b).1 hb)] at this
  exact ⟨hF.nodup, fun k => by rw [hF.mem, two_bits]; simp, graph_order hk, graph_legal hW hF hread hk⟩
/-- what explains has a graph without a way back -/
theorem expl_hit {l : List Tx} {c : Nat} {row : List Nat} (h6 : l.length ≤ 6) (hself : ∀ i, i < l.length → bfrAt l i i = false) (hu : Uniq l) (h : Expl l (2 ^ l.length - 1) c row) : readS l c = true ∧ row ∈ allS (afterS l) ∧ hitQ l c row = true := by
  obtain ⟨h1, h2⟩ := expl_all.1 h
  have hW := whole_all (by rw [afterS_len]) h1
  refine ⟨legal_read hu hW h2, h1, (hit_iff h6).2 ?_⟩
  have hk := legal_keeps hu hW h.keeps h2
  refine row_free (row := row) (fun a ha => ?_) (allS_mem.2 ⟨by rw [build_len]; exact whole_len hW, fun k hk => by rw [build_len]; exact (hW.mem k).1 hk, ?_⟩)
  · rw [build_len] at ha
    rw [aft_build ha ha]
    exact beh_self (hself a ha)
  · refine List.Pairwise.imp_of_mem (fun {b a} hb ha hg => ?_) (List.pairwise_and_iff.2 ⟨hW.nodup, hk⟩)
    exact ⟨fun hc => hg.1 hc.symm, by rw [aft_build ((hW.mem a).1 ha) ((hW.mem b).1 hb)]; exact hg.2⟩
theorem rowsQ_tells {B : Nat} {l : List Tx} {c : Nat} : ∀ (rs : List (List Nat)) (s : Nat), s ≤ B →
    ((rowsQ B l c rs s).1 = 0 ∨ (rowsQ B l c rs s).1 = 1 ∨ (rowsQ B l c rs s).1 = 2) ∧ (rowsQ B l c rs s).2.2.2 ≤ B ∧ (rowsQ B l c rs s).2.2.2 ≤ s + rs.length ∧ ((rowsQ B l c rs s).1 = 2 → B < s + rs.length) ∧
      ((rowsQ B l c rs s).1 ≠ 0 → (rowsQ B l c rs s).2.1 = 0 ∧ (rowsQ B l c rs s).2.2.1 = []) ∧
      ((rowsQ B l c rs s).1 = 0 → ∃ row ∈ rs, hitQ l c row = true ∧ (rowsQ B l c rs s).2.1 = c ∧ (rowsQ B l c rs s).2.2.1 = (allS (buildS l c row)).headD []) ∧
      ((rowsQ B l c rs s).1 = 1 → ∀ row ∈ rs, hitQ l c row = false) := by
  intro rs
  induction rs with
  | nil => intro s hs; exact ⟨.inr (.inl rfl), hs, Nat.le_refl _, fun h => (by cases h), fun _ => ⟨rfl, rfl⟩, fun h => (by cases h), fun _ p hp => (by cases hp)⟩
  | cons row r ih =>
    intro s hs
    rw [rowsQ]
    by_cases hB : s = B
    · rw [if_pos hB]
      exact ⟨.inr (.inr rfl), hs, Nat.le_add_right _ _, fun _ => by rw [List.length_cons]; omega, fun _ => ⟨rfl, rfl⟩, fun h => (by cases h), fun h => (by cases h)⟩
    · rw [if_neg hB]
      by_cases hh : hitQ l c row = true
      · rw [if_pos hh]
        exact ⟨.inl rfl, by dsimp only; omega, by rw [List.length_cons]; dsimp only; omega, fun h => (by cases h), fun h => absurd rfl h, fun _ => ⟨row, List.mem_cons_self .., hh, rfl, rfl⟩, fun h => (by cases h)⟩
      · rw [if_neg hh]
        obtain ⟨g1, g2, g3, g4, g5, g6, g7⟩ := ih (s + 1) (by omega)
        rw [List.length_cons]
        refine ⟨g1, g2, by omega, fun h => by have := g4 h; omega, g5, fun h => ?_, fun h x hx => ?_⟩
        · obtain ⟨y, hy, hz⟩ := g6 h; exact ⟨y, List.mem_cons_of_mem _ hy, hz⟩
        · rcases List.mem_cons.1 hx with rfl | hx
          · simpa using hh
          · exact g7 h x hx
theorem quick_tells {B : Nat} {l : List Tx} : ∀ (cs : List Nat) (s : Nat), s ≤ B →
    ((quickG B l cs s).1 = 0 ∨ (quickG B l cs s).1 = 1 ∨ (quickG B l cs s).1 = 2) ∧ (quickG B l cs s).2.2.2 ≤ B ∧ ((quickG B l cs s).1 = 2 → B < s + cs.length * (allS (afterS l)).length) ∧
      ((quickG B l cs s).1 ≠ 0 → (quickG B l cs s).2.1 = 0 ∧ (quickG B l cs s).2.2.1 = []) ∧
      ((quickG B l cs s).1 = 0 → (quickG B l cs s).2.1 ∈ cs ∧ readS l (quickG B l cs s).2.1 = true ∧ ∃ row ∈ allS (afterS l), hitQ l (quickG B l cs s).2.1 row = true ∧ (quickG B l cs s).2.2.1 = (allS (buildS l (quickG B l cs s).2.1 row)).headD []) ∧
      ((quickG B l cs s).1 = 1 → ∀ c ∈ cs, readS l c = true → ∀ row ∈ allS (afterS l), hitQ l c row = false) := by
  intro cs
  induction cs with
  | nil => intro s hs; exact ⟨.inr (.inl rfl), hs, fun h => (by cases h), fun _ => ⟨rfl, rfl⟩, fun h => (by cases h), fun _ c hc => (by cases hc)⟩
  | cons c r ih =>
    intro s hs
    have hmul : (c :: r).length * (allS (afterS l)).length = r.length * (allS (afterS l)).length + (allS (afterS l)).length := by rw [List.length_cons, Nat.succ_mul]
    rw [quickG]
    by_cases hr : readS l c = false
    · rw [if_pos hr]
      obtain ⟨g1, g2, g3, g4, g5, g6⟩ := ih s hs
      refine ⟨g1, g2, fun h => by have := g3 h; omega, g4, fun h => ⟨List.mem_cons_of_mem _ (g5 h).1, (g5 h).2⟩, fun h x hx hrx => ?_⟩
      rcases List.mem_cons.1 hx with rfl | hx
      · rw [hr] at hrx; cases hrx
      · exact g6 h x hx hrx
    · rw [if_neg hr]
      have hrt : readS l c = true := by simpa using hr
      obtain ⟨a1, a2, a3, a4, a5, a6, a7⟩ := rowsQ_tells (B := B) (l := l) (c := c) (allS (afterS l)) s hs
      by_cases hv : (rowsQ B l c (allS (afterS l)) s).1 = 1
      · rw [if_pos hv]
        obtain ⟨g1, g2, g3, g4, g5, g6⟩ := ih (rowsQ B l c (allS (afterS l)) s).2.2.2 a2
        refine ⟨g1, g2, fun h => by have := g3 h; omega, g4, fun h => ⟨List.mem_cons_of_mem _ (g5 h).1, (g5 h).2⟩, fun h x hx hrx => ?_⟩
        rcases List.mem_cons.1 hx with rfl | hx
        · exact a7 hv
        · exact g6 h x hx hrx
      · rw [if_neg hv]
        refine ⟨a1, a2, fun h => by have := a4 h; omega, a5, fun h => ?_, fun h => absurd h hv⟩
        obtain ⟨row, e1, e2, e3, e4⟩ := a6 h
        rw [e3]
        exact ⟨List.mem_cons_self .., hrt, row, e1, e2, e4⟩
/-- how many rows there may be -/
theorem rows_few {L : List Nat} (h6 : L.length ≤ 6) : (allS L).length ≤ 720 := by
  have h1 := ext_most (n := L.length) (S := List.range L.length) (p := nxt L) (fun row k hk hp => ⟨List.mem_range.2 hk, fun hm => by
    have := (nxt_iff L row k).1 hp k hm
    exact this.1 rfl⟩) L.length [] List.nodup_nil (fun k hk => by cases hk) List.nodup_range (by simp)
  exact Nat.le_trans h1 (factN_mono h6)
theorem quick_known {B : Nat} {l : List Tx} (h6 : l.length ≤ 6) (hB : 46080 ≤ B) : (quickS B l).1 ≠ 2 := by
  intro hc
  have h1 := (quick_tells (B := B) (l := l) (choicesS l) 0 (Nat.zero_le _)).2.2.1 hc
  have h2 := rows_few (L := afterS l) (by rw [afterS_len]; exact h6)
  have h3 := Nat.mul_le_mul (choices_count l) h2
  omega
/-- the verdict is that of the search for all -/
theorem quick_yes {B : Nat} {l : List Tx} (h6 : l.length ≤ 6) (hself : ∀ i, i < l.length → bfrAt l i i = false) (hu : Uniq l) (hB : 46080 ≤ B) : (quickS B l).1 = 0 ↔ ∃ c ∈ choicesS l, ∃ t, Expl l (2 ^ l.length - 1) c t := by
  obtain ⟨h1, _, _, _, h5, h6'⟩ := quick_tells (B := B) (l := l) (choicesS l) 0 (Nat.zero_le _)
  constructor
  · intro h
    obtain ⟨e1, e2, row, e3, e4, _⟩ := h5 h
    exact ⟨_, e1, _, hit_expl h6 e3 e2 e4⟩
  · rintro ⟨c, hc, t, ht⟩
    obtain ⟨e1, e2, e3⟩ := expl_hit h6 hself hu ht
    rcases h1 with h | h | h
    · exact h
    · rw [h6' h c hc e1 t e2] at e3; cases e3
    · exact absurd h (quick_known h6 hB)
theorem quick_same {B B' : Nat} {l : List Tx} (h6 : l.length ≤ 6) (hself : ∀ i, i < l.length → bfrAt l i i = false) (hu : Uniq l) (hB : 46080 ≤ B) (hB' : 125184 ≤ B') : (quickS B l).1 = (searchS B' l).1 := by
  have h1 := quick_yes h6 hself hu hB
  have h2 := search_yes (B := B') (W := fun _ => 2 ^ l.length - 1) hself h6 hB'
  have h3 := quick_known (l := l) h6 hB
  have h4 := search_known (B := B') (W := fun _ => 2 ^ l.length - 1) hself h6 hB'
  have h5 := (quick_tells (B := B) (l := l) (choicesS l) 0 (Nat.zero_le _)).1
  have h7 := (search_tells (B := B') (W := fun _ => 2 ^ l.length - 1) hself (choicesS l) 0 (Nat.zero_le _)).1
  unfold searchS
  unfold quickS at *
  rcases h5 with h5 | h5 | h5
  · rw [h5]; exact (h2.2 (h1.1 h5)).symm
  · rcases h7 with h7 | h7 | h7
    · have := h1.2 (h2.1 h7); omega
    · omega
    · exact absurd h7 h4
  · exact absurd h5 h3
end Go.Proofs.YtmnblljenobofaaDoor.RPlain
