/- How findings lie in memory: a slice of them, each with its row. -/
import Derived.Test.YtpjfhdljagkefaaDoorMg4
import Derived.Test.YtpjfhdljagkefaaDoorMg5
import Derived.Test.YtpjfhdljagkefaaDoorSrlB
import Derived.Deep.QuietTactic
import Derived.BigQuiet
namespace Go.Proofs.YtpjfhdljagkefaaDoor.WPlain
end Go.Proofs.YtpjfhdljagkefaaDoor.WPlain
namespace Go.Proofs.YtpjfhdljagkefaaDoor.RPlain
end Go.Proofs.YtpjfhdljagkefaaDoor.RPlain
namespace Go.Proofs.YtpjfhdljagkefaaDoor
open Go.RowKit WPlain RPlain

/-- a finding: verdict, choice or set, row, steps -/
structure Fd where
  v : Int
  c : Int
  r : List Int
  s : Int
  deriving DecidableEq
/-- its cells; its row is a value -/
def fdC (p : Fd × Value) : List Value := [.int .i64 p.1.v, .int .u32 p.1.c, p.2, .int .i64 p.1.s]
theorem fdC_len (p : Fd × Value) : (fdC p).length = 4 := rfl
/-- a slice value reads as findings -/
def Fds (w : World) (v : Value) (l : List Fd) : Prop := ∃ ps : List (Fd × Value), ps.map (·.1) = l ∧ Rws 4 fdC w v ps ∧ ∀ p ∈ ps, Rd w p.2 (ints p.1.r)
theorem Fds.len {w : World} {v : Value} {l : List Fd} (h : Fds w v l) : ∃ a c, v = .slice a l.length c := by
  obtain ⟨ps, rfl, hr, _⟩ := h
  rw [List.length_map]
  exact hr.len
theorem Fds.below {w w' : World} {B : Nat} {v : Value} {l : List Fd} (h : Fds w v l) (hb : Below B w w') (hB : w.heap.size ≤ B) : Fds w' v l := by
  obtain ⟨ps, rfl, hr, ho⟩ := h
  exact ⟨ps, rfl, hr.below hb hB, fun p hp => (ho p hp).below hb hB⟩
theorem Fds.nil (w : World) (a : Option Addr) (c : Nat) : Fds w (.slice a 0 c) [] := ⟨[], rfl, Rws.nil _ _ _, fun _ h => by cases h⟩
/-- one of them: its cells, and its row -/
theorem Fds.get {w : World} {b o n c : Nat} {l : List Fd} (h : Fds w (.slice (some ⟨b, o, none⟩) n c) l) (i : Nat) (hi : i < l.length) :
    ∃ u, w.cell? ⟨b, o + i * 4, none⟩ = some (.int .i64 l[i].v) ∧ w.cell? ⟨b, o + i * 4 + 1, none⟩ = some (.int .u32 l[i].c) ∧ w.cell? ⟨b, o + i * 4 + 2, none⟩ = some u ∧ w.cell? ⟨b, o + i * 4 + 3, none⟩ = some (.int .i64 l[i].s) ∧ Rd w u (ints l[i].r) := by
  obtain ⟨ps, rfl, hr, ho⟩ := h
  have hip : i < ps.length := by simpa using hi
  simp only [List.getElem_map]
  rcases hr with ⟨rfl, _⟩ | ⟨_, b', o', c', he, _, hc⟩
  · simp at hip
  · simp only [Value.slice.injEq, Option.some.injEq, Addr.mk.injEq, and_true] at he
    obtain ⟨⟨rfl, rfl⟩, _, _⟩ := he
    exact ⟨ps[i].2, hc i hip 0 _ (by omega) rfl, hc i hip 1 _ (by omega) rfl, hc i hip 2 _ (by omega) rfl, hc i hip 3 _ (by omega) rfl, ho _ (List.getElem_mem _)⟩
/-- findings of the call's own: their slice lies in a block from B on, and no row of them lies in that block -/
def FOwn (B : Nat) (ty : TypeId) (w : World) (v : Value) (l : List Fd) : Prop := ∃ ps : List (Fd × Value), ps.map (·.1) = l ∧ w.ownsRow B ty 4 v ps.length (ps.flatMap fdC) ∧ ∀ p ∈ ps, RdX (fun k => v.ownBlock = some k) w p.2 (ints p.1.r)
theorem FOwn.fds {B : Nat} {ty : TypeId} {w : World} {v : Value} {l : List Fd} (h : FOwn B ty w v l) : Fds w v l := by
  obtain ⟨ps, rfl, hr, ho⟩ := h
  exact ⟨ps, rfl, Rws.of_row fdC_len hr, fun p hp => (ho p hp).rd⟩
theorem FOwn.nil0 (B : Nat) (ty : TypeId) (w : World) : FOwn B ty w (.slice none 0 0) [] := ⟨[], rfl, World.ownsRow_nil _ _ _ _, fun _ h => by cases h⟩
theorem FOwn.mono {B B' : Nat} {ty : TypeId} {w : World} {v : Value} {l : List Fd} (h : FOwn B ty w v l) (hb : B' ≤ B) : FOwn B' ty w v l := by
  obtain ⟨ps, he, hr, ho⟩ := h
  refine ⟨ps, he, ⟨hr.1, ?_⟩, ho⟩
  rcases hr.2 with hn | ⟨g, cap, cur, rfl, hB, rest⟩
  · exact .inl hn
  · exact .inr ⟨g, cap, cur, rfl, by omega, rest⟩
theorem FOwn.only {B : Nat} {ty : TypeId} {s : Nat → Prop} {w w' : World} {v : Value} {l : List Fd} (h : FOwn B ty w v l) (ho : Only s w w') (hs : ∀ k, v.ownBlock = some k → ¬ s k) (hr : ∀ p u, RdX (fun k => v.ownBlock = some k) w p u → RdX (fun k => v.ownBlock = some k) w' p u) : FOwn B ty w' v l := by
  obtain ⟨ps, he, hr', hq⟩ := h
  exact ⟨ps, he, own_only hr' ho hs, fun p hp => hr _ _ (hq p hp)⟩
theorem FOwn.later {B : Nat} {ty : TypeId} {w w' : World} {v : Value} {l : List Fd} (h : FOwn B ty w v l) (hb : Below w.heap.size w w') : FOwn B ty w' v l := by
  obtain ⟨ps, he, hr, hq⟩ := h
  refine ⟨ps, he, ⟨hr.1, ?_⟩, fun p hp => (hq p hp).below hb⟩
  rcases hr.2 with hn | ⟨g, cap, cur, rfl, hB, hg, rest⟩
  · exact .inl hn
  · refine .inr ⟨g, cap, cur, rfl, hB, ?_, rest⟩
    rw [hb.block g (Array.getElem?_eq_some_iff.1 hg).1]
    exact hg
/-- one more of them -/
theorem FOwn.add {B : Nat} {ty : TypeId} {w w' : World} {v v' u : Value} {ps : List (Fd × Value)} {f : Fd} (hq : ∀ p ∈ ps, RdX (fun k => v.ownBlock = some k) w p.2 (ints p.1.r)) (hu : RdX (fun k => v.ownBlock = some k) w u (ints f.r))
    (hr : w'.ownsRow B ty 4 v' (ps.length + 1) (ps.flatMap fdC ++ fdC (f, u))) (hg : w.grownBy w' v.ownBlock) (hl : Lies w v v') : FOwn B ty w' v' (ps.map (·.1) ++ [f]) := by
  have hkeep : ∀ (x : Value) (xs : List Value), RdX (fun k => v.ownBlock = some k) w x xs → RdX (fun k => v'.ownBlock = some k) w' x xs := by
    intro x xs hx
    rcases hx with h0 | ⟨hp, b, o, c, rfl, hb, hc⟩
    · exact .inl h0
    · have hlt : b < w.heap.size := World.block_lt_of_cell? (a := ⟨b, o + 0, none⟩) w (hc 0 _ (List.getElem?_eq_getElem hp))
      refine .inr ⟨hp, b, o, c, rfl, ?_, fun i y hy => ?_⟩
      · rcases hl with he | hh
        · rw [he]; exact hb
        · intro hk
          have := hh _ hk
          omega
      · exact hg.cell (hc i y hy) (fun h => hb h.symm)
  refine ⟨ps ++ [(f, u)], by simp, ?_, fun p hp => ?_⟩
  · rw [List.length_append, List.length_singleton, List.flatMap_append, List.flatMap_cons, List.flatMap_nil, List.append_nil]
    exact hr
  · rcases List.mem_append.1 hp with hp | hp
    · exact hkeep _ _ (hq p hp)
    · rw [List.mem_singleton.1 hp]
      exact hkeep _ _ hu
end Go.Proofs.YtpjfhdljagkefaaDoor
