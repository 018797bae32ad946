/- The walk of the reference's ways. -/
import Derived.Test.YtclhbnfnmpabbaaExtK
import Derived.Test.YtclhbnfnmpabbaaKitT
namespace Go.Proofs.Ytclhbnfnmpabbaa.RPlain
end Go.Proofs.Ytclhbnfnmpabbaa.RPlain
namespace Go.Proofs.Ytclhbnfnmpabbaa
open Go.RowKit RPlain

/-- append to a row of the call's own: what the old value reads is as it was -/
theorem run_append_keep {P : Program} (w : World) (base : Nat) (t ty e : TypeId) (i : TypeInfo) (z : Value) (bytes : Nat) (ht : P.underlying t = some (.slice e)) (hi : P.info? e = some i) (hz : i.zero = some z)
    (hsize : i.size = 1) (hby : i.bytes = bytes) (hzs : z.cells.size = 1) (v : Value) (n : Nat) (xs : List Value) (hown : w.ownsRow base e 1 v n xs)
    (a : Addr) (m c : Nat) (news : List Value) (hl : news.length = m * 1) (hnews : ∀ j u, news[j]? = some u → w.cell? (a.add j) = some u) (h1 : ∀ u ∈ news, u.oneCell' = true)
    (h63 : n + m ≤ maxLen) (hbytes : (n + m) * bytes ≤ 140737488355328) (hbase : base ≤ w.heap.size) :
    ∃ v' w', (Builtin.append_ #[t, t] ty #[v, .slice (some a) m c]).run P w = .ok v' w' ∧ w'.ownsRow base e 1 v' (n + m) (xs ++ news) ∧ w.grownBy w' v.ownBlock ∧ Rd w' v xs := by
  obtain ⟨v', w', hr, h2, h3, _⟩ := run_append_own w base t ty e i z 1 bytes ht hi hz hsize hby hzs (by decide) v n xs hown a m c news hl hnews h1 h63 hbytes hbase
  refine ⟨v', w', hr, h2, h3, ?_⟩
  have hxl : xs.length = n := by have := hown.1; omega
  rcases hown.2 with ⟨rfl, rfl⟩ | ⟨g, cap, cur, rfl, hbg, hg, hnc, hcm, hcs, htake⟩
  · have hx : xs = [] := List.eq_nil_of_length_eq_zero hxl
    exact .inl ⟨hx, _, _, rfl⟩
  · have hadd : ∀ j, (⟨g, 0, none⟩ : Addr).add j = ⟨g, 0 + j, none⟩ := by intro j; unfold Addr.add; split <;> simp_all
    by_cases h0 : 0 < xs.length
    · refine .inr ⟨h0, g, 0, cap, by rw [hxl], fun j u hu => ?_⟩
      rw [← hadd]
      by_cases hroom : n + m ≤ cap
      · have hfit : n * i.size + news.length ≤ cur.size := by rw [hl, hcs, hsize]; omega
        have hr2 := run_append_room (P := P) w t ty e i ht hi g n cap cur hg a m c news (by rw [hl, hsize]) hnews h1 hroom hfit
        rw [hr] at hr2
        simp only [Result.ok.injEq] at hr2
        rw [hr2.1] at h2
        refine h2.cells (g := g) rfl j u ?_
        rw [List.getElem?_append_left (List.getElem?_eq_some_iff.1 hu).1]
        exact hu
      · have holds : ∀ j u, xs[j]? = some u → w.cell? ((⟨g, 0, none⟩ : Addr).add j) = some u := hown.cells (g := g) rfl
        have hr2 := run_append_grow (P := P) w t ty e i z ht hi hz ⟨g, 0, none⟩ n cap xs (by rw [hown.1, hsize]) holds a m c news (by rw [hl, hsize]) hnews (by omega) (by simp only [maxLen] at h63; omega) (growslice_fits (by omega) (by rw [hby]; exact hbytes))
        rw [hr] at hr2
        simp only [Result.ok.injEq] at hr2
        rw [hr2.2]
        exact (((Below.refl w.heap.size w).drew).alloc (Nat.le_refl _) _).cell (p := (⟨g, 0, none⟩ : Addr).add j) (World.block_lt_of_cell? w _ (holds j u hu)) |>.trans (holds j u hu)
    · have hx : xs = [] := List.length_eq_zero_iff.1 (by omega)
      subst hx
      simp at hxl
      subst hxl
      exact .inl ⟨rfl, _, _, rfl⟩
theorem wpList_append_keep (w : World) {P : Program} {ops : Array Oper} {rest : List Oper} {o : Oper} {a : Act} {Q : Exit → Act → World → Prop} (hgd : o.guard = none) (s x : Operand) (t : TypeId)
    (ho : o.op = .call { callee := .builtin .append, args := #[s, x], argTypes := #[t, t] })
    (base : Nat) (e : TypeId) (i : TypeInfo) (z : Value) (bytes : Nat) (ht : P.underlying t = some (.slice e)) (hi : P.info? e = some i) (hz : i.zero = some z)
    (hsize : i.size = 1) (hby : i.bytes = bytes) (hzs : z.cells.size = 1)
    (v : Value) (n : Nat) (xs : List Value) (hs : a.eval s = v) (hown : w.ownsRow base e 1 v n xs)
    (ad : Addr) (m c : Nat) (news : List Value) (hx : a.eval x = .slice (some ad) m c) (hl : news.length = m * 1) (hnews : ∀ j u, news[j]? = some u → w.cell? (ad.add j) = some u) (h1 : ∀ u ∈ news, u.oneCell' = true)
    (h63 : n + m ≤ maxLen) (hbytes : (n + m) * bytes ≤ 140737488355328) (hbase : base ≤ w.heap.size)
    (h : ∀ v' w', w'.ownsRow base e 1 v' (n + m) (xs ++ news) → w.grownBy w' v.ownBlock → Rd w' v xs → wpList P ops Q rest (a.put o.dst v') w') : wpList P ops Q (o :: rest) a w := by
  refine wpList_plain hgd fun K hK => ?_
  obtain ⟨v', w', hr, h2, h3, h4⟩ := run_append_keep (P := P) w base t o.type e i z bytes ht hi hz hsize hby hzs v n xs hown ad m c news hl hnews h1 h63 hbytes hbase
  unfold Oper.wp execOp
  simp only [ho, resolve, invoke, builtin, Sem.run_bind, Sem.run_pure, Result.andThen_ok, List.map_toArray, List.map_cons, List.map_nil, hs, hx, hr]
  exact hK _ _ (h v' w' h2 h3 h4)
theorem waysG_snoc (A : List Nat) (n : Nat) : ∀ (s : Nat) (out : List Nat), waysG A n (s + 1) out = stepW A n (waysG A n s out) := by
  intro s
  induction s with
  | zero => intro out; rfl
  | succ s ih => intro out; rw [waysG, ih]; rfl
/-- what a place adds when the first j places of the row have been asked -/
def addJ (A out : List Nat) (k j : Nat) : List Nat := if ((out.take j).any fun x => aft A x k) = true ∧ out.contains k = false then out ++ [k] else out
theorem addJ_all (A out : List Nat) (k : Nat) : addJ A out k out.length = addW A out k := by unfold addJ addW; rw [List.take_length]
theorem addJ_skip {A out : List Nat} {k j : Nat} (hj : j < out.length) (h : aft A out[j] k = false) : addJ A out k (j + 1) = addJ A out k j := by
  unfold addJ
  rw [List.take_succ_eq_append_getElem hj, List.any_append]
  simp [h]
theorem addJ_has {A out : List Nat} {k j : Nat} (hj : j < out.length) (_ : aft A out[j] k = true) (hc : (addJ A out k j).contains k = true) : addJ A out k (j + 1) = addJ A out k j := by
  unfold addJ at *
  rw [List.take_succ_eq_append_getElem hj, List.any_append]
  by_cases ho : out.contains k = true
  · simp only [ho]; simp
  · rw [Bool.not_eq_true] at ho
    split at hc
    · rename_i h1
      rw [if_pos ⟨by rw [h1.1]; rfl, h1.2⟩, if_pos h1]
    · rw [ho] at hc; exact absurd hc (by decide)
theorem addJ_new {A out : List Nat} {k j : Nat} (hj : j < out.length) (h : aft A out[j] k = true) (hc : (addJ A out k j).contains k = false) : addJ A out k j = out ∧ addJ A out k (j + 1) = out ++ [k] := by
  unfold addJ at *
  split at hc
  · simp at hc
  · rename_i h1
    refine ⟨if_neg h1, ?_⟩
    rw [List.take_succ_eq_append_getElem hj, List.any_append, if_pos]
    exact ⟨by simp [h], hc⟩
theorem addJ_len (A out : List Nat) (k j : Nat) : (addJ A out k j).length ≤ out.length + 1 := by
  unfold addJ
  split <;> simp
theorem start_snoc (A : List Nat) (i k : Nat) : startW A (k + 1) i = if aft A i k = true then startW A k i ++ [k] else startW A k i := by
  unfold startW
  rw [List.range_succ, List.filter_append]
  cases h : aft A i k <;> simp [h]
theorem start_not (A : List Nat) (i k : Nat) : (startW A k i).contains k = false := by
  unfold startW
  rw [List.contains_eq_mem]
  simp
theorem start_len (A : List Nat) (i k : Nat) : (startW A k i).length ≤ k := by
  have := List.length_filter_le (fun x => aft A i x) (List.range k)
  rw [List.length_range] at this
  exact this
theorem way_len {A : List Nat} {i : Nat} {out : List Nat} (h : RPlain.Way A i out) : out.length ≤ A.length := by
  have := nodup_le out (List.range A.length) h.nodup (fun x hx => List.mem_range.2 (h.lt x hx))
  rwa [List.length_range] at this
theorem way_fold {A : List Nat} {i : Nat} {out : List Nat} (h : RPlain.Way A i out) : ∀ k, k ≤ A.length → RPlain.Way A i ((List.range k).foldl (addW A) out) := by
  intro k
  induction k with
  | zero => intro _; exact h
  | succ k ih =>
    intro hk
    rw [List.range_succ, List.foldl_append]
    exact (ih (by omega)).add (by omega)
theorem way_G {A : List Nat} {i : Nat} (hi : i < A.length) : ∀ s, RPlain.Way A i (waysG A A.length s (startW A A.length i)) := by
  intro s
  induction s with
  | zero => exact RPlain.Way.start hi
  | succ s ih => rw [waysG_snoc]; exact ih.step
theorem fold_snoc (A out : List Nat) (k : Nat) : (List.range (k + 1)).foldl (addW A) out = addW A ((List.range k).foldl (addW A) out) k := by
  rw [List.range_succ, List.foldl_append]; rfl
theorem own_nil_int {w : World} {B : Nat} (hB : B ≤ w.heap.size) : (w.alloc (.cells #[] 3)).ownsRow B 3 1 (.slice (some ⟨w.heap.size, 0, none⟩) 0 0) 0 [] :=
  World.ownsRow_made (e := 3) (size := 1) w #[] 0 hB (by unfold maxLen; omega) (by simp)
end Go.Proofs.Ytclhbnfnmpabbaa
