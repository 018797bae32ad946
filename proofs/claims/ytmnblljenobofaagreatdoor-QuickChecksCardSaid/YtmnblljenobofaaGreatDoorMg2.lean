/- Merged: KitR, TabC, KitT, KitB, OpenBy, VarA, BinA. -/
import Derived.Test.YtmnblljenobofaaGreatDoorMg1
import Derived.Test.YtmnblljenobofaaGreatDoorRows
import Derived.Laws.NewBlocks
import Derived.Deep.Slices
import Derived.ChangeSame
import Derived.OpenShut
/- Small laws of memory, of no program: a slice whose elements take k cells each, whatever the elements. -/
namespace Go.Proofs.YtmnblljenobofaaGreatDoor
open Go.RowKit

theorem flat_len {α : Type} {f : α → List Value} {k : Nat} (hf : ∀ x, (f x).length = k) (l : List α) : (l.flatMap f).length = l.length * k := by
  induction l with
  | nil => simp
  | cons e r ih => rw [List.flatMap_cons, List.length_append, ih, hf, List.length_cons, Nat.add_mul]; omega
theorem flat_get {α : Type} {f : α → List Value} {k : Nat} (hf : ∀ x, (f x).length = k) : ∀ (l : List α) (i : Nat) (hi : i < l.length) (j : Nat), j < k → (l.flatMap f)[i * k + j]? = (f l[i])[j]? := by
  intro l
  induction l with
  | nil => intro i hi; simp at hi
  | cons e r ih =>
    intro i hi j hj
    rw [List.flatMap_cons]
    cases i with
    | zero => rw [List.getElem?_append_left (by rw [hf]; omega)]; simp
    | succ i =>
      rw [List.getElem?_append_right (by rw [hf, Nat.add_mul]; omega), hf, show (i + 1) * k + j - k = i * k + j from by rw [Nat.add_mul]; omega]
      simpa using ih i (by simpa using hi) j hj
/-- a slice value reads as a list of elements of k cells -/
def Rws {α : Type} (k : Nat) (f : α → List Value) (w : World) (v : Value) (l : List α) : Prop :=
  (l = [] ∧ ∃ a c, v = .slice a 0 c) ∨
  (0 < l.length ∧ ∃ b o c, v = .slice (some ⟨b, o, none⟩) l.length c ∧ b < w.heap.size ∧ ∀ i (hi : i < l.length) j u, j < k → (f l[i])[j]? = some u → w.cell? ⟨b, o + i * k + j, none⟩ = some u)
section
variable {α : Type} {k : Nat} {f : α → List Value} {w : World} {v : Value} {l : List α}
theorem Rws.len (h : Rws k f w v l) : ∃ a c, v = .slice a l.length c := by
  rcases h with ⟨rfl, a, c, rfl⟩ | ⟨_, b, o, c, rfl, _⟩
  · exact ⟨_, _, rfl⟩
  · exact ⟨_, _, rfl⟩
theorem Rws.length {a : Option Addr} {n c : Nat} (h : Rws k f w (.slice a n c) l) : n = l.length := by
  obtain ⟨a', c', he⟩ := h.len
  simp at he
  exact he.2.1
theorem Rws.nil (w : World) (a : Option Addr) (c : Nat) : Rws k f w (.slice a 0 c) [] := .inl ⟨rfl, _, _, rfl⟩
theorem Rws.below {w' : World} {B : Nat} (h : Rws k f w v l) (hb : Below B w w') (hB : w.heap.size ≤ B) : Rws k f w' v l := by
  rcases h with h0 | ⟨h0, b, o, c, rfl, hlt, hc⟩
  · exact .inl h0
  · refine .inr ⟨h0, b, o, c, rfl, Nat.lt_of_lt_of_le hlt hb.size, fun i hi j u hj hu => ?_⟩
    exact (hb.cell (p := ⟨b, _, none⟩) (Nat.lt_of_lt_of_le hlt hB)).trans (hc i hi j u hj hu)
theorem Rws.cut {a : Option Addr} {n c : Nat} (h : Rws k f w (.slice a n c) l) (m : Nat) (hm : m ≤ l.length) : Rws k f w (.slice a m c) (l.take m) := by
  have htl : (l.take m).length = m := by rw [List.length_take]; omega
  by_cases h0 : m = 0
  · subst h0
    exact .inl ⟨by simp, _, _, rfl⟩
  · rcases h with ⟨e0, _⟩ | ⟨_, b, o, c', he, hlt, hc⟩
    · rw [e0] at hm; simp at hm; omega
    · simp only [Value.slice.injEq] at he
      obtain ⟨rfl, rfl, rfl⟩ := he
      refine .inr ⟨by omega, b, o, c, by rw [htl], hlt, fun i hi j u hj hu => ?_⟩
      rw [List.getElem_take] at hu
      exact hc i (by omega) j u hj hu
theorem Rws.of_row {B : Nat} {e : TypeId} (hf : ∀ x, (f x).length = k) (h : w.ownsRow B e k v l.length (l.flatMap f)) : Rws k f w v l := by
  rcases h.2 with ⟨rfl, hn⟩ | ⟨g, cap, cur, rfl, hb, hg, hn, hm, hs, ht⟩
  · have h0 : l = [] := List.length_eq_zero_iff.1 hn
    subst h0
    exact Rws.nil _ _ _
  · by_cases h0 : 0 < l.length
    · have hadd : ∀ i, (⟨g, 0, none⟩ : Addr).add i = ⟨g, 0 + i, none⟩ := by intro i; unfold Addr.add; split <;> simp_all
      refine .inr ⟨h0, g, 0, cap, rfl, (Array.getElem?_eq_some_iff.1 hg).1, fun i hi j u hj hu => ?_⟩
      have := h.cells (g := g) rfl (i * k + j) u ((flat_get hf l i hi j hj).trans hu)
      rw [hadd] at this
      rw [Nat.add_assoc]
      exact this
    · have : l = [] := List.length_eq_zero_iff.1 (by omega)
      subst this
      exact Rws.nil _ _ _
theorem Rws.cells {a : Addr} {n c : Nat} (hf : ∀ x, (f x).length = k) (h : Rws k f w (.slice (some a) n c) l) : ∀ j u, (l.flatMap f)[j]? = some u → w.cell? (a.add j) = some u := by
  intro j u hu
  rcases h with ⟨rfl, _⟩ | ⟨_, b, o, c', he, hlt, hc⟩
  · simp at hu
  · obtain ⟨rfl, rfl, rfl⟩ : a = ⟨b, o, none⟩ ∧ n = l.length ∧ c = c' := by simpa using he
    have hj : j < l.length * k := by
      have := (List.getElem?_eq_some_iff.1 hu).1
      rwa [flat_len hf] at this
    have hk : 0 < k := by
      rcases Nat.eq_zero_or_pos k with h0 | h0
      · rw [h0] at hj; omega
      · exact h0
    have hi : j / k < l.length := Nat.div_lt_of_lt_mul (by rw [Nat.mul_comm]; exact hj)
    have hm : j % k < k := Nat.mod_lt _ hk
    have hjd : j / k * k + j % k = j := by rw [Nat.mul_comm]; exact Nat.div_add_mod j k
    have hg := flat_get hf l (j / k) hi (j % k) hm
    rw [hjd, hu] at hg
    have := hc (j / k) hi (j % k) u hm hg.symm
    rw [show (⟨b, o, none⟩ : Addr).add j = ⟨b, o + j, none⟩ from by unfold Addr.add; split <;> simp_all]
    rw [Nat.add_assoc, hjd] at this
    exact this
end
end Go.Proofs.YtmnblljenobofaaGreatDoor
/- How transactions, and their reads and writes, lie in memory. -/
namespace Go.Proofs.YtmnblljenobofaaGreatDoor.WPlain
end Go.Proofs.YtmnblljenobofaaGreatDoor.WPlain
namespace Go.Proofs.YtmnblljenobofaaGreatDoor.RPlain
end Go.Proofs.YtmnblljenobofaaGreatDoor.RPlain
namespace Go.Proofs.YtmnblljenobofaaGreatDoor
open Go.RowKit WPlain RPlain

/-- the cells of a read or a write; of a transaction, whose row of them is a value -/
def opC (o : Rwo) : List Value := [.bool o.w, .int .i64 o.v, .int .i64 o.x]
def txC (p : Tx × Value) : List Value := [.int .i64 p.1.n, .int .i64 p.1.f, .int .i64 p.1.l, .int .i64 p.1.s, p.2]
theorem opC_len (o : Rwo) : (opC o).length = 3 := rfl
theorem txC_len (p : Tx × Value) : (txC p).length = 5 := rfl
def Opv (w : World) (v : Value) (l : List Rwo) : Prop := Rws 3 opC w v l ∧ ∃ a n c, v = .slice a n c ∧ n ≤ c
theorem Opv.len {w : World} {v : Value} {l : List Rwo} (h : Opv w v l) : ∃ a c, v = .slice a l.length c ∧ l.length ≤ c := by
  obtain ⟨hr, a, n, c, rfl, hc⟩ := h
  obtain rfl := hr.length
  exact ⟨a, c, rfl, hc⟩
theorem Opv.below {w w' : World} {B : Nat} {v : Value} {l : List Rwo} (h : Opv w v l) (hb : Below B w w') (hB : w.heap.size ≤ B) : Opv w' v l := ⟨h.1.below hb hB, h.2⟩
theorem Opv.cut {w : World} {a : Option Addr} {n c : Nat} {l : List Rwo} (h : Opv w (.slice a n c) l) (m : Nat) (hm : m ≤ l.length) : Opv w (.slice a m c) (l.take m) := by
  obtain ⟨a', c', he, hc⟩ := h.len
  simp only [Value.slice.injEq] at he
  exact ⟨h.1.cut m hm, a, m, c, rfl, by omega⟩
theorem Opv.nil (w : World) (a : Option Addr) (c : Nat) : Opv w (.slice a 0 c) [] := ⟨Rws.nil _ _ _, a, 0, c, rfl, Nat.zero_le _⟩
theorem Opv.of_row {w : World} {B : Nat} {e : TypeId} {v : Value} {l : List Rwo} (h : w.ownsRow B e 3 v l.length (l.flatMap opC)) : Opv w v l := by
  refine ⟨Rws.of_row opC_len h, ?_⟩
  rcases h.2 with ⟨rfl, hn⟩ | ⟨g, cap, cur, rfl, _, _, hn, _⟩
  · exact ⟨_, _, _, rfl, by omega⟩
  · exact ⟨_, _, _, rfl, hn⟩
/-- a slice value reads as transactions -/
def Txs (w : World) (v : Value) (l : List Tx) : Prop := ∃ ps : List (Tx × Value), ps.map (·.1) = l ∧ Rws 5 txC w v ps ∧ ∀ p ∈ ps, Opv w p.2 p.1.o
theorem Txs.len {w : World} {v : Value} {l : List Tx} (h : Txs w v l) : ∃ a c, v = .slice a l.length c := by
  obtain ⟨ps, rfl, hr, _⟩ := h
  rw [List.length_map]
  exact hr.len
theorem Txs.below {w w' : World} {B : Nat} {v : Value} {l : List Tx} (h : Txs w v l) (hb : Below B w w') (hB : w.heap.size ≤ B) : Txs w' v l := by
  obtain ⟨ps, rfl, hr, ho⟩ := h
  exact ⟨ps, rfl, hr.below hb hB, fun p hp => (ho p hp).below hb hB⟩
theorem Txs.nil (w : World) (a : Option Addr) (c : Nat) : Txs w (.slice a 0 c) [] := ⟨[], rfl, Rws.nil _ _ _, fun _ h => by cases h⟩
theorem Txs.cut {w : World} {a : Option Addr} {n c : Nat} {l : List Tx} (h : Txs w (.slice a n c) l) (m : Nat) (hm : m ≤ l.length) : Txs w (.slice a m c) (l.take m) := by
  obtain ⟨ps, rfl, hr, ho⟩ := h
  rw [List.length_map] at hm
  exact ⟨ps.take m, by rw [List.map_take], hr.cut m hm, fun p hp => ho p (List.mem_of_mem_take hp)⟩
/-- one of them: its cells, and its reads and writes -/
theorem Txs.get {w : World} {b o n c : Nat} {l : List Tx} (h : Txs w (.slice (some ⟨b, o, none⟩) n c) l) (i : Nat) (hi : i < l.length) :
    ∃ u, w.cell? ⟨b, o + i * 5, none⟩ = some (.int .i64 l[i].n) ∧ w.cell? ⟨b, o + i * 5 + 1, none⟩ = some (.int .i64 l[i].f) ∧ w.cell? ⟨b, o + i * 5 + 2, none⟩ = some (.int .i64 l[i].l) ∧ w.cell? ⟨b, o + i * 5 + 3, none⟩ = some (.int .i64 l[i].s) ∧ w.cell? ⟨b, o + i * 5 + 4, none⟩ = some u ∧ Opv w u l[i].o := by
  obtain ⟨ps, rfl, hr, ho⟩ := h
  have hip : i < ps.length := by simpa using hi
  simp only [List.getElem_map]
  rcases hr with ⟨rfl, _⟩ | ⟨_, b', o', c', he, _, hc⟩
  · simp at hip
  · simp only [Value.slice.injEq, Option.some.injEq, Addr.mk.injEq, and_true] at he
    obtain ⟨⟨rfl, rfl⟩, _, _⟩ := he
    exact ⟨ps[i].2, hc i hip 0 _ (by omega) rfl, hc i hip 1 _ (by omega) rfl, hc i hip 2 _ (by omega) rfl, hc i hip 3 _ (by omega) rfl, hc i hip 4 _ (by omega) rfl, ho _ (List.getElem_mem _)⟩
theorem Opv.get {w : World} {b o n c : Nat} {l : List Rwo} (h : Opv w (.slice (some ⟨b, o, none⟩) n c) l) (i : Nat) (hi : i < l.length) :
    w.cell? ⟨b, o + i * 3, none⟩ = some (.bool l[i].w) ∧ w.cell? ⟨b, o + i * 3 + 1, none⟩ = some (.int .i64 l[i].v) ∧ w.cell? ⟨b, o + i * 3 + 2, none⟩ = some (.int .i64 l[i].x) := by
  rcases h.1 with ⟨rfl, _⟩ | ⟨_, b', o', c', he, _, hc⟩
  · simp at hi
  · simp only [Value.slice.injEq, Option.some.injEq, Addr.mk.injEq, and_true] at he
    obtain ⟨⟨rfl, rfl⟩, _, _⟩ := he
    exact ⟨hc i hi 0 _ (by omega) rfl, hc i hi 1 _ (by omega) rfl, hc i hi 2 _ (by omega) rfl⟩
end Go.Proofs.YtmnblljenobofaaGreatDoor
/- Small laws of memory, of no program: where a row of the call's own lies behind an append. -/
namespace Go.Proofs.YtmnblljenobofaaGreatDoor
open Go.RowKit

section
variable {P : Program}
/-- behind an append a row lies where it lay, or in a new block -/
def Lies (w : World) (v v' : Value) : Prop := v'.ownBlock = v.ownBlock ∨ ∀ k, v'.ownBlock = some k → w.heap.size ≤ k
theorem run_append_apart (w : World) (base : Nat) (t ty e : TypeId) (i : TypeInfo) (z : Value) (size bytes : Nat) (ht : P.underlying t = some (.slice e)) (hi : P.info? e = some i) (hz : i.zero = some z)
    (hsize : i.size = size) (hby : i.bytes = bytes) (hzs : z.cells.size = size) (hsz : 0 < size) (v : Value) (n : Nat) (xs : List Value) (hown : w.ownsRow base e size v n xs)
    (a : Addr) (m c : Nat) (news : List Value) (hl : news.length = m * size) (hnews : ∀ j u, news[j]? = some u → w.cell? (a.add j) = some u) (h1 : ∀ u ∈ news, u.oneCell' = true)
    (h63 : n + m ≤ maxLen) (hbytes : (n + m) * bytes ≤ 140737488355328) (hbase : base ≤ w.heap.size) :
    ∃ v' w', (Builtin.append_ #[t, t] ty #[v, .slice (some a) m c]).run P w = .ok v' w' ∧ w'.ownsRow base e size v' (n + m) (xs ++ news) ∧ w.grownBy w' v.ownBlock ∧ Lies w v v' := by
  obtain ⟨v', w', hr, h2, h3, _⟩ := run_append_own w base t ty e i z size bytes ht hi hz hsize hby hzs hsz v n xs hown a m c news hl hnews h1 h63 hbytes hbase
  refine ⟨v', w', hr, h2, h3, ?_⟩
  rcases hown.2 with ⟨rfl, rfl⟩ | ⟨g, cap, cur, rfl, hbg, hg, hnc, hcm, hcs, htake⟩
  · have hx : xs = [] := List.eq_nil_of_length_eq_zero (by simpa using hown.1)
    subst hx
    obtain ⟨v2, w2, hr2, h22, _, _⟩ := run_append_own w w.heap.size t ty e i z size bytes ht hi hz hsize hby hzs hsz (.slice none 0 0) 0 [] (World.ownsRow_nil _ _ _ _) a m c news hl hnews h1 h63 hbytes (Nat.le_refl _)
    rw [hr] at hr2
    obtain ⟨rfl, rfl⟩ : v' = v2 ∧ w' = w2 := by simpa using hr2
    exact .inr fun k hk => (h22.lt k hk).1
  · by_cases hroom : n + m ≤ cap
    · have hfit : n * i.size + news.length ≤ cur.size := by rw [hl, hcs, hsize, ← Nat.add_mul]; exact Nat.mul_le_mul_right _ hroom
      have hr2 := run_append_room (P := P) w t ty e i ht hi g n cap cur hg a m c news (by rw [hl, hsize]) hnews h1 hroom hfit
      rw [hr] at hr2
      simp only [Result.ok.injEq] at hr2
      rw [hr2.1]
      exact .inl rfl
    · have holds : ∀ j u, xs[j]? = some u → w.cell? ((⟨g, 0, none⟩ : Addr).add j) = some u := hown.cells (g := g) rfl
      have hr2 := run_append_grow (P := P) w t ty e i z ht hi hz ⟨g, 0, none⟩ n cap xs (by rw [hown.1, hsize]) holds a m c news (by rw [hl, hsize]) hnews (by omega) (by simp only [maxLen] at h63; omega) (growslice_fits (by omega) (by rw [hby]; exact hbytes))
      rw [hr] at hr2
      simp only [Result.ok.injEq] at hr2
      rw [hr2.1]
      refine .inr fun k hk => ?_
      simp only [Value.ownBlock, Option.some.injEq] at hk
      omega
theorem wp_append_apart {o : Oper} {a : Act} {w : World} {K : Act → World → Prop} {Q : Exit → Act → World → Prop} (s x : Operand) (t : TypeId)
    (ho : o.op = .call { callee := .builtin .append, args := #[s, x], argTypes := #[t, t] })
    (base : Nat) (e : TypeId) (i : TypeInfo) (z : Value) (size bytes : Nat) (ht : P.underlying t = some (.slice e)) (hi : P.info? e = some i) (hz : i.zero = some z)
    (hsize : i.size = size) (hby : i.bytes = bytes) (hzs : z.cells.size = size) (hsz : 0 < size)
    (v : Value) (n : Nat) (xs : List Value) (hs : a.eval s = v) (hown : w.ownsRow base e size v n xs)
    (ad : Addr) (m c : Nat) (news : List Value) (hx : a.eval x = .slice (some ad) m c) (hl : news.length = m * size) (hnews : ∀ j u, news[j]? = some u → w.cell? (ad.add j) = some u) (h1 : ∀ u ∈ news, u.oneCell' = true)
    (h63 : n + m ≤ maxLen) (hbytes : (n + m) * bytes ≤ 140737488355328) (hbase : base ≤ w.heap.size)
    (h : ∀ v' w', w'.ownsRow base e size v' (n + m) (xs ++ news) → w.grownBy w' v.ownBlock → Lies w v v' → K (a.put o.dst v') w') : o.wp P a w K Q := by
  obtain ⟨v', w', hr, h2, h3, h4⟩ := run_append_apart (P := P) w base t o.type e i z size bytes ht hi hz hsize hby hzs hsz v n xs hown ad m c news hl hnews h1 h63 hbytes hbase
  unfold Oper.wp execOp
  simp only [ho, resolve, invoke, builtin, Sem.run_bind, Sem.run_pure, Result.andThen_ok, List.map_toArray, List.map_cons, List.map_nil, hs, hx, hr]
  exact h v' w' h2 h3 h4
theorem step_append_apart {ops : Array Oper} {o : Oper} {a : Act} {w : World} {K : Act → World → Prop} {Q : Exit → Act → World → Prop} {E : Prop}
    (hg : o.guard = none) (s x : Operand) (t : TypeId) (ho : o.op = Op.call { callee := Callee.builtin Builtin.append, args := #[s, x], argTypes := #[t, t] })
    (base : Nat) (e : TypeId) (i : TypeInfo) (z : Value) (size bytes : Nat) (ht : P.underlying t = some (.slice e)) (hi : P.info? e = some i) (hz : i.zero = some z)
    (hsize : i.size = size) (hby : i.bytes = bytes) (hzs : z.cells.size = size) (hsz : 0 < size)
    (v : Value) (n : Nat) (xs : List Value) (hs : a.eval s = v) (hown : w.ownsRow base e size v n xs)
    (ad : Addr) (m c : Nat) (news : List Value) (hx : a.eval x = .slice (some ad) m c) (hl : news.length = m * size) (hnews : ∀ j u, news[j]? = some u → w.cell? (ad.add j) = some u) (h1 : ∀ u ∈ news, u.oneCell' = true)
    (h63 : n + m ≤ maxLen) (hbytes : (n + m) * bytes ≤ 140737488355328) (hbase : base ≤ w.heap.size)
    (hK : ∀ v' w', w'.ownsRow base e size v' (n + m) (xs ++ news) → w.grownBy w' v.ownBlock → Lies w v v' → K (a.put o.dst v') w') :
    if Region.wanted o (yielded ops a.tmps) = true then Oper.wp P o a w K Q else E := by
  have hw : Region.wanted o (yielded ops a.tmps) = true := by simp [Region.wanted, hg]
  rw [if_pos hw]
  exact wp_append_apart s x t ho base e i z size bytes ht hi hz hsize hby hzs hsz v n xs hs hown ad m c news hx hl hnews h1 h63 hbytes hbase hK
end
theorem Lies.later {w w' : World} {v v' : Value} (h : Lies w' v v') (hs : w.heap.size ≤ w'.heap.size) : Lies w v v' := h.elim .inl fun hh => .inr fun k hk => Nat.le_trans hs (hh k hk)
end Go.Proofs.YtmnblljenobofaaGreatDoor
/- Small laws of memory, of no program: slices that read as lists, rows of structs. -/
namespace Go.Proofs.YtmnblljenobofaaGreatDoor.WPlain
end Go.Proofs.YtmnblljenobofaaGreatDoor.WPlain
namespace Go.Proofs.YtmnblljenobofaaGreatDoor
open Go.RowKit WPlain

theorem cell_lt {w : World} {b o : Nat} {u : Value} (h : w.cell? ⟨b, o, none⟩ = some u) : b < w.heap.size := World.block_lt_of_cell? w _ h
theorem Rd.opened {w : World} {v : Value} {xs : List Value} (h : Rd w v xs) (h0 : 0 < xs.length) :
    ∃ b o c, v = .slice (some ⟨b, o, none⟩) xs.length c ∧ b < w.heap.size ∧ ∀ i u, xs[i]? = some u → w.cell? ⟨b, o + i, none⟩ = some u := by
  rcases h with ⟨rfl, _⟩ | ⟨_, b, o, c, rfl, hc⟩
  · simp at h0
  · exact ⟨b, o, c, rfl, cell_lt (hc 0 xs[0] (List.getElem?_eq_getElem h0)), hc⟩

/-- the cells of events -/
def evCells (e : Ev) : List Value := [.int .i64 e.k, .int .i64 e.t, .int .i64 e.v, .int .i64 e.x]
def evsCells (h : List Ev) : List Value := h.flatMap evCells
def evVal (e : Ev) : Value := .agg #[.int .i64 e.k, .int .i64 e.t, .int .i64 e.v, .int .i64 e.x]
theorem evsCells_len (h : List Ev) : (evsCells h).length = h.length * 4 := by
  induction h with
  | nil => rfl
  | cons e r ih => simp only [evsCells, List.flatMap_cons, List.length_append, List.length_cons] at *; rw [ih]; simp [evCells]; omega
theorem evsCells_get (h : List Ev) : ∀ (i : Nat) (hi : i < h.length) (j : Nat), j < 4 → (evsCells h)[i * 4 + j]? = (evCells h[i])[j]? := by
  induction h with
  | nil => intro i hi; simp at hi
  | cons e r ih =>
    intro i hi j hj
    have e4 : (evCells e).length = 4 := rfl
    show (evCells e ++ evsCells r)[i * 4 + j]? = _
    cases i with
    | zero => rw [List.getElem?_append_left (by omega)]; simp
    | succ i =>
      rw [List.getElem?_append_right (by omega), e4, show (i + 1) * 4 + j - 4 = i * 4 + j from by omega]
      simpa using ih i (by simpa using hi) j hj

/-- a slice value reads as a list of events -/
def Evs (w : World) (v : Value) (h : List Ev) : Prop :=
  (h = [] ∧ ∃ a c, v = .slice a 0 c) ∨
  (0 < h.length ∧ ∃ b o c, v = .slice (some ⟨b, o, none⟩) h.length c ∧ b < w.heap.size ∧ ∀ i (hi : i < h.length),
    w.cell? ⟨b, o + i * 4, none⟩ = some (.int .i64 h[i].k) ∧ w.cell? ⟨b, o + i * 4 + 1, none⟩ = some (.int .i64 h[i].t) ∧
    w.cell? ⟨b, o + i * 4 + 2, none⟩ = some (.int .i64 h[i].v) ∧ w.cell? ⟨b, o + i * 4 + 3, none⟩ = some (.int .i64 h[i].x))
theorem Evs.len {w : World} {v : Value} {h : List Ev} (hv : Evs w v h) : ∃ a c, v = .slice a h.length c := by
  rcases hv with ⟨rfl, a, c, rfl⟩ | ⟨_, b, o, c, rfl, _⟩
  · exact ⟨_, _, rfl⟩
  · exact ⟨_, _, rfl⟩
theorem Evs.nil (w : World) (a : Option Addr) (c : Nat) : Evs w (.slice a 0 c) [] := .inl ⟨rfl, _, _, rfl⟩
theorem Evs.below {w w' : World} {B : Nat} {v : Value} {h : List Ev} (hv : Evs w v h) (hb : Below B w w') (hB : w.heap.size ≤ B) : Evs w' v h := by
  rcases hv with h0 | ⟨h0, b, o, c, rfl, hlt, hc⟩
  · exact .inl h0
  · refine .inr ⟨h0, b, o, c, rfl, Nat.lt_of_lt_of_le hlt hb.size, fun i hi => ?_⟩
    have hlt' : b < B := Nat.lt_of_lt_of_le hlt hB
    obtain ⟨c0, c1, c2, c3⟩ := hc i hi
    exact ⟨(hb.cell (p := ⟨b, _, none⟩) hlt').trans c0, (hb.cell (p := ⟨b, _, none⟩) hlt').trans c1, (hb.cell (p := ⟨b, _, none⟩) hlt').trans c2, (hb.cell (p := ⟨b, _, none⟩) hlt').trans c3⟩
theorem Evs.of_row {w : World} {B : Nat} {e : TypeId} {v : Value} {h : List Ev} (hr : w.ownsRow B e 4 v h.length (evsCells h)) : Evs w v h := by
  rcases hr.2 with ⟨rfl, hn⟩ | ⟨g, cap, cur, rfl, hb, hg, hn, hm, hs, ht⟩
  · have := evsCells_len h
    rw [hn] at this
    have h0 : h = [] := List.length_eq_zero_iff.1 (by simp at this; omega)
    subst h0
    exact Evs.nil _ _ _
  · by_cases h0 : 0 < h.length
    · have hcell := fun i u hu => hr.cells (g := g) rfl i u hu
      have hadd : ∀ i, (⟨g, 0, none⟩ : Addr).add i = ⟨g, 0 + i, none⟩ := by intro i; unfold Addr.add; split <;> simp_all
      refine .inr ⟨h0, g, 0, cap, rfl, (Array.getElem?_eq_some_iff.1 hg).1, fun i hi => ?_⟩
      have g0 := hcell (i * 4) _ ((evsCells_get h i hi 0 (by omega)).trans rfl)
      have g1 := hcell (i * 4 + 1) _ ((evsCells_get h i hi 1 (by omega)).trans rfl)
      have g2 := hcell (i * 4 + 2) _ ((evsCells_get h i hi 2 (by omega)).trans rfl)
      have g3 := hcell (i * 4 + 3) _ ((evsCells_get h i hi 3 (by omega)).trans rfl)
      rw [hadd] at g0 g1 g2 g3
      exact ⟨g0, g1, g2, g3⟩
    · have : h = [] := List.length_eq_zero_iff.1 (by omega)
      subst this
      exact Evs.nil _ _ _
end Go.Proofs.YtmnblljenobofaaGreatDoor
/- An argument that is a slice of bytes. -/
namespace Go.Proofs.YtmnblljenobofaaGreatDoor
open Go.ChangeShapes Go.WideShapes Go.RowKit Go.Deep

/-- bytes as cells -/
def bs (l : List Nat) : List Value := l.map (fun (c : Nat) => Value.int .u8 (c : Int))
theorem bs_len (l : List Nat) : (bs l).length = l.length := by simp [bs]

/-- cut to its first k -/
theorem Rd.cut {w : World} {a : Option Addr} {n c : Nat} {xs : List Value} (h : Rd w (.slice a n c) xs) (k : Nat) (hk : k ≤ n) : Rd w (.slice a k c) (xs.take k) := by
  rcases h with ⟨rfl, a', c', he⟩ | ⟨h0, b, o, c', he, hc⟩
  · simp only [Value.slice.injEq] at he
    obtain ⟨_, rfl, _⟩ := he
    exact .inl ⟨by simp, _, _, by rw [show k = 0 from by omega]⟩
  · simp only [Value.slice.injEq] at he
    obtain ⟨rfl, rfl, rfl⟩ := he
    by_cases hk0 : 0 < k
    · refine .inr ⟨by simp; omega, b, o, c, by simp; omega, fun i u hu => ?_⟩
      rw [List.getElem?_take] at hu
      split at hu
      · exact hc i u hu
      · cases hu
    · have : k = 0 := by omega
      subst this
      exact .inl ⟨by simp, _, _, rfl⟩
end Go.Proofs.YtmnblljenobofaaGreatDoor
/- Plain words of numbers' bytes: no program in sight. -/
namespace Go.Proofs.YtmnblljenobofaaGreatDoor.VPlain

/-- the number that bytes tell from place k on (of weight one), how many bytes are read, or where it fails; the error -/
def getL (k : Nat) : List Nat → Nat × Nat × Nat
  | [] => (0, 0, 4)
  | c :: r => if k = 9 ∧ 1 < c then (0, 0, 3) else if 0 < k ∧ c = 0 then (0, 0, 2) else if c < 128 then (c, 1, 0)
    else if (getL (k + 1) r).2.2 = 0 then (c % 128 + 128 * (getL (k + 1) r).1, (getL (k + 1) r).2.1 + 1, 0) else (0, (getL (k + 1) r).2.1 + 1, (getL (k + 1) r).2.2)

def zagI (n : Nat) : Int := if n % 2 = 0 then ((n / 2 : Nat) : Int) else -((n / 2 : Nat) : Int) - 1
end Go.Proofs.YtmnblljenobofaaGreatDoor.VPlain
/- Plain words of traces as bytes: no program in sight. -/
namespace Go.Proofs.YtmnblljenobofaaGreatDoor.WPlain
end Go.Proofs.YtmnblljenobofaaGreatDoor.WPlain
namespace Go.Proofs.YtmnblljenobofaaGreatDoor.VPlain
end Go.Proofs.YtmnblljenobofaaGreatDoor.VPlain
namespace Go.Proofs.YtmnblljenobofaaGreatDoor.BPlain
open WPlain VPlain

def evZ : Ev := ⟨0, 0, 0, 0⟩
/-- the number at place i; the place behind it, or the fault's; the error -/
def numS (L : List Nat) (i : Nat) : Nat × Nat × Nat := ((getL 0 (L.drop i)).1, i + (getL 0 (L.drop i)).2.1, (getL 0 (L.drop i)).2.2)
/-- .. of so much at most, else the error -/
def upS (L : List Nat) (i most beyond : Nat) : Nat × Nat × Nat := if (numS L i).2.2 = 0 ∧ most < (numS L i).1 then (0, i, beyond) else numS L i
/-- a transaction's name, behind events -/
def nameS (L : List Nat) (i : Nat) (h : List Ev) : Nat × Nat × Nat :=
  if (upS L i 9999 3).2.2 ≠ 0 then (0, (upS L i 9999 3).2.1, (upS L i 9999 3).2.2)
  else if right (h ++ [⟨0, ((upS L i 9999 3).1 : Nat), 0, 0⟩]) = true then upS L i 9999 3 else (0, i, 5)
def valS (L : List Nat) (i : Nat) : Nat × Nat × Nat := upS L i 4294967295 3
/-- an event's numbers -/
def numsS (L : List Nat) (i k : Nat) (h : List Ev) : Ev × Nat × Nat :=
  if (nameS L i h).2.2 ≠ 0 then (evZ, (nameS L i h).2.1, (nameS L i h).2.2)
  else if hasV k = true then
    if (upS L (nameS L i h).2.1 7 3).2.2 ≠ 0 then (evZ, (upS L (nameS L i h).2.1 7 3).2.1, (upS L (nameS L i h).2.1 7 3).2.2)
    else if hasX k = true then
      if (valS L (upS L (nameS L i h).2.1 7 3).2.1).2.2 ≠ 0 then (evZ, (valS L (upS L (nameS L i h).2.1 7 3).2.1).2.1, (valS L (upS L (nameS L i h).2.1 7 3).2.1).2.2)
      else (⟨k, (nameS L i h).1, (upS L (nameS L i h).2.1 7 3).1, zagI (valS L (upS L (nameS L i h).2.1 7 3).2.1).1⟩, (valS L (upS L (nameS L i h).2.1 7 3).2.1).2.1, 0)
    else (⟨k, (nameS L i h).1, (upS L (nameS L i h).2.1 7 3).1, 0⟩, (upS L (nameS L i h).2.1 7 3).2.1, 0)
  else if hasX k = true then
    if (valS L (nameS L i h).2.1).2.2 ≠ 0 then (evZ, (valS L (nameS L i h).2.1).2.1, (valS L (nameS L i h).2.1).2.2)
    else (⟨k, (nameS L i h).1, 0, zagI (valS L (nameS L i h).2.1).1⟩, (valS L (nameS L i h).2.1).2.1, 0)
  else (⟨k, (nameS L i h).1, 0, 0⟩, (nameS L i h).2.1, 0)
/-- an event's body, whose bytes end where L does -/
def bodyS (L : List Nat) (i : Nat) (h : List Ev) : List Ev × Nat × Nat :=
  if 10 ≤ L.getD i 0 then (h, i, 2)
  else if (numsS L (i + 1) (L.getD i 0) h).2.2 ≠ 0 then (h, (numsS L (i + 1) (L.getD i 0) h).2.1, (numsS L (i + 1) (L.getD i 0) h).2.2)
  else (h ++ [(numsS L (i + 1) (L.getD i 0) h).1], (numsS L (i + 1) (L.getD i 0) h).2.1, if (numsS L (i + 1) (L.getD i 0) h).2.1 < L.length then 2 else 0)
def eventS (L : List Nat) (i : Nat) (h : List Ev) : List Ev × Nat × Nat :=
  if (numS L i).2.2 ≠ 0 then (h, (numS L i).2.1, (numS L i).2.2)
  else if L.length - (numS L i).2.1 < (numS L i).1 then (h, L.length, 4)
  else if (numS L i).1 = 0 then (h, i, 2)
  else bodyS (L.take ((numS L i).2.1 + (numS L i).1)) (numS L i).2.1 h
def eventsS (L : List Nat) : Nat → Nat → List Ev → List Ev × Nat × Nat
  | 0, i, h => (h, i, if i < L.length then 2 else 0)
  | n + 1, i, h => if (eventS L i h).2.2 ≠ 0 then eventS L i h else eventsS L n (eventS L i h).2.1 (eventS L i h).1
def readS (L : List Nat) : List Ev × Nat × Nat := if (upS L 0 60 5).2.2 ≠ 0 then ([], (upS L 0 60 5).2.1, (upS L 0 60 5).2.2) else eventsS L (upS L 0 60 5).1 (upS L 0 60 5).2.1 []
end Go.Proofs.YtmnblljenobofaaGreatDoor.BPlain
