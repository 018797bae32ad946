/- How transactions, and their reads and writes, lie in memory. -/
import Derived.Test.YtnggadcoepieaaaDoorTabA
import Derived.Test.YtnggadcoepieaaaDoorKitR
namespace Go.Proofs.YtnggadcoepieaaaDoor.WPlain
end Go.Proofs.YtnggadcoepieaaaDoor.WPlain
namespace Go.Proofs.YtnggadcoepieaaaDoor.RPlain
end Go.Proofs.YtnggadcoepieaaaDoor.RPlain
namespace Go.Proofs.YtnggadcoepieaaaDoor
open Go.RowKit WPlain RPlain

/-- the cells of a read or a write; of a transaction, whose row of them is a value -/
def opC (o : Rwo) : List Value := [.bool o.w, .int .i64 o.v, .int .i64 o.x]
def txC (p : Tx × Value) : List Value := [.int .i64 p.1.n, .int .i64 p.1.f, .int .i64 p.1.l, .int .i64 p.1.s, p.2]
theorem opC_len (o : Rwo) : (opC o).length = 3 := rfl
theorem txC_len (p : Tx × Value) : (txC p).length = 5 := rfl
def Opv (w : World) (v : Value) (l : List Rwo) : Prop := Rws 3 opC w v l ∧ ∃ a n c, v = .slice a n c ∧ n ≤ c
theorem Opv.len {w : World} {v : Value} {l : List Rwo} (h : Opv w v l) : ∃ a c, v = .slice a l.length c ∧ l.length ≤ c := by
  obtain ⟨hr, a, n, c, rfl, hc⟩ := h
  obtain rfl := hr.length
  exact ⟨a, c, rfl, hc⟩
theorem Opv.below {w w' : World} {B : Nat} {v : Value} {l : List Rwo} (h : Opv w v l) (hb : Below B w w') (hB : w.heap.size ≤ B) : Opv w' v l := ⟨h.1.below hb hB, h.2⟩
theorem Opv.cut {w : World} {a : Option Addr} {n c : Nat} {l : List Rwo} (h : Opv w (.slice a n c) l) (m : Nat) (hm : m ≤ l.length) : Opv w (.slice a m c) (l.take m) := by
  obtain ⟨a', c', he, hc⟩ := h.len
  simp only [Value.slice.injEq] at he
  exact ⟨h.1.cut m hm, a, m, c, rfl, by omega⟩
theorem Opv.nil (w : World) (a : Option Addr) (c : Nat) : Opv w (.slice a 0 c) [] := ⟨Rws.nil _ _ _, a, 0, c, rfl, Nat.zero_le _⟩
theorem Opv.of_row {w : World} {B : Nat} {e : TypeId} {v : Value} {l : List Rwo} (h : w.ownsRow B e 3 v l.length (l.flatMap opC)) : Opv w v l := by
  refine ⟨Rws.of_row opC_len h, ?_⟩
  rcases h.2 with ⟨rfl, hn⟩ | ⟨g, cap, cur, rfl, _, _, hn, _⟩
  · exact ⟨_, _, _, rfl, by omega⟩
  · exact ⟨_, _, _, rfl, hn⟩
/-- a slice value reads as transactions -/
def Txs (w : World) (v : Value) (l : List Tx) : Prop := ∃ ps : List (Tx × Value), ps.map (·.1) = l ∧ Rws 5 txC w v ps ∧ ∀ p ∈ ps, Opv w p.2 p.1.o
theorem Txs.len {w : World} {v : Value} {l : List Tx} (h : Txs w v l) : ∃ a c, v = .slice a l.length c := by
  obtain ⟨ps, rfl, hr, _⟩ := h
  rw [List.length_map]
  exact hr.len
theorem Txs.below {w w' : World} {B : Nat} {v : Value} {l : List Tx} (h : Txs w v l) (hb : Below B w w') (hB : w.heap.size ≤ B) : Txs w' v l := by
  obtain ⟨ps, rfl, hr, ho⟩ := h
  exact ⟨ps, rfl, hr.below hb hB, fun p hp => (ho p hp).below hb hB⟩
theorem Txs.nil (w : World) (a : Option Addr) (c : Nat) : Txs w (.slice a 0 c) [] := ⟨[], rfl, Rws.nil _ _ _, fun _ h => by cases h⟩
theorem Txs.cut {w : World} {a : Option Addr} {n c : Nat} {l : List Tx} (h : Txs w (.slice a n c) l) (m : Nat) (hm : m ≤ l.length) : Txs w (.slice a m c) (l.take m) := by
  obtain ⟨ps, rfl, hr, ho⟩ := h
  rw [List.length_map] at hm
  exact ⟨ps.take m, by rw [List.map_take], hr.cut m hm, fun p hp => ho p (List.mem_of_mem_take hp)⟩
/-- one of them: its cells, and its reads and writes -/
theorem Txs.get {w : World} {b o n c : Nat} {l : List Tx} (h : Txs w (.slice (some ⟨b, o, none⟩) n c) l) (i : Nat) (hi : i < l.length) :
    ∃ u, w.cell? ⟨b, o + i * 5, none⟩ = some (.int .i64 l[i].n) ∧ w.cell? ⟨b, o + i * 5 + 1, none⟩ = some (.int .i64 l[i].f) ∧ w.cell? ⟨b, o + i * 5 + 2, none⟩ = some (.int .i64 l[i].l) ∧ w.cell? ⟨b, o + i * 5 + 3, none⟩ = some (.int .i64 l[i].s) ∧ w.cell? ⟨b, o + i * 5 + 4, none⟩ = some u ∧ Opv w u l[i].o := by
  obtain ⟨ps, rfl, hr, ho⟩ := h
  have hip : i < ps.length := by simpa using hi
  simp only [List.getElem_map]
  rcases hr with ⟨rfl, _⟩ | ⟨_, b', o', c', he, _, hc⟩
  · simp at hip
  · simp only [Value.slice.injEq, Option.some.injEq, Addr.mk.injEq, and_true] at he
    obtain ⟨⟨rfl, rfl⟩, _, _⟩ := he
    exact ⟨ps[i].2, hc i hip 0 _ (by omega) rfl, hc i hip 1 _ (by omega) rfl, hc i hip 2 _ (by omega) rfl, hc i hip 3 _ (by omega) rfl, hc i hip 4 _ (by omega) rfl, ho _ (List.getElem_mem _)⟩
theorem Opv.get {w : World} {b o n c : Nat} {l : List Rwo} (h : Opv w (.slice (some ⟨b, o, none⟩) n c) l) (i : Nat) (hi : i < l.length) :
    w.cell? ⟨b, o + i * 3, none⟩ = some (.bool l[i].w) ∧ w.cell? ⟨b, o + i * 3 + 1, none⟩ = some (.int .i64 l[i].v) ∧ w.cell? ⟨b, o + i * 3 + 2, none⟩ = some (.int .i64 l[i].x) := by
  rcases h.1 with ⟨rfl, _⟩ | ⟨_, b', o', c', he, _, hc⟩
  · simp at hi
  · simp only [Value.slice.injEq, Option.some.injEq, Addr.mk.injEq, and_true] at he
    obtain ⟨⟨rfl, rfl⟩, _, _⟩ := he
    exact ⟨hc i hi 0 _ (by omega) rfl, hc i hi 1 _ (by omega) rfl, hc i hi 2 _ (by omega) rfl⟩
end Go.Proofs.YtnggadcoepieaaaDoor
