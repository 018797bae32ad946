/- Merged: KitF, WalkA, TxtB, KitC, TxtD, TxtG, KitD. -/
import Derived.Test.YtmnblljenobofaaDoorMg3
import Derived.Test.YtmnblljenobofaaDoorRows
import Derived.Test.YtmnblljenobofaaDoorShelf
import Derived.Test.YtmnblljenobofaaDoorMg2
import Derived.Test.YtmnblljenobofaaDoorMg1
import Derived.Below
import Derived.Deep.QuietTactic
import Derived.BigQuiet
import Derived.Laws.Rows
import Derived.Lib.SplitLaws
import Derived.Laws.AppendOwnNone
/- Small laws of memory, of no program: what only some blocks have turned; bytes that lie below. -/
namespace Go.Proofs.YtmnblljenobofaaDoor.WPlain
end Go.Proofs.YtmnblljenobofaaDoor.WPlain
namespace Go.Proofs.YtmnblljenobofaaDoor.VPlain
end Go.Proofs.YtmnblljenobofaaDoor.VPlain
namespace Go.Proofs.YtmnblljenobofaaDoor.BPlain
end Go.Proofs.YtmnblljenobofaaDoor.BPlain
namespace Go.Proofs.YtmnblljenobofaaDoor
open Go.RowKit WPlain VPlain BPlain

/-- of the blocks that there were only those of s have turned -/
structure Only (s : Nat → Prop) (w w' : World) : Prop where
  os : w'.os = w.os
  tape : w'.tape = w.tape
  output : w'.output = w.output
  size : w.heap.size ≤ w'.heap.size
  block : ∀ k, k < w.heap.size → ¬ s k → w'.heap[k]? = w.heap[k]?
theorem Only.refl (s : Nat → Prop) (w : World) : Only s w w := ⟨rfl, rfl, rfl, Nat.le_refl _, fun _ _ _ => rfl⟩
theorem Only.trans {s t : Nat → Prop} {a b c : World} (h : Only s a b) (k : Only t b c) (hst : ∀ i, i < a.heap.size → t i → s i) : Only s a c :=
  ⟨k.os.trans h.os, k.tape.trans h.tape, k.output.trans h.output, Nat.le_trans h.size k.size,
   fun i hi hn => (k.block i (Nat.lt_of_lt_of_le hi h.size) (fun ht => hn (hst i hi ht))).trans (h.block i hi hn)⟩
theorem Only.mono {s t : Nat → Prop} {a b : World} (h : Only s a b) (hst : ∀ i, i < a.heap.size → s i → t i) : Only t a b :=
  ⟨h.os, h.tape, h.output, h.size, fun i hi hn => h.block i hi (fun hs => hn (hst i hi hs))⟩
theorem Only.drew {s : Nat → Prop} {a w : World} (h : Only s a w) : Only s a w.drew := ⟨h.os, h.tape, h.output, h.size, h.block⟩
theorem Only.drewN {s : Nat → Prop} {a w : World} (h : Only s a w) (n : Nat) : Only s a (w.drewN n) := ⟨h.os, h.tape, h.output, h.size, h.block⟩
theorem Only.alloc {s : Nat → Prop} {a w : World} (h : Only s a w) (o : Obj) : Only s a (w.alloc o) :=
  ⟨h.os, h.tape, h.output, Nat.le_trans h.size (by simp), fun i hi hn => (Below.heap_alloc w o i (Nat.lt_of_lt_of_le hi h.size)).trans (h.block i hi hn)⟩
theorem Only.setCell {s : Nat → Prop} {a w : World} (h : Only s a w) {p : Addr} (hp : p.block < a.heap.size → s p.block) (u : Value) : Only s a (w.setCell p u) :=
  ⟨h.os, h.tape, h.output, by simpa [World.setCell] using h.size, fun i hi hn => (Below.heap_setCell w p u i (by rintro rfl; exact hn (hp hi))).trans (h.block i hi hn)⟩
theorem Only.of_below {s : Nat → Prop} {a w : World} (h : Below a.heap.size a w) : Only s a w := ⟨h.os, h.tape, h.output, h.size, fun i hi _ => h.block i hi⟩
theorem Only.call {s : Nat → Prop} {a b c : World} (h : Only s a b) (k : Below b.heap.size b c) : Only s a c :=
  h.trans (t := fun _ => False) (Only.of_below k) (fun _ _ hf => hf.elim)
theorem Only.grown {s : Nat → Prop} {a w w' : World} {row : Option Nat} (h : Only s a w) (hg : w.grownBy w' row) (hr : ∀ k, k < a.heap.size → row = some k → s k) : Only s a w' :=
  ⟨hg.os.trans h.os, hg.tape.trans h.tape, hg.output.trans h.output, Nat.le_trans h.size hg.size,
   fun i hi hn => (hg.block i (Nat.lt_of_lt_of_le hi h.size) (fun e => hn (hr i hi e.symm))).trans (h.block i hi hn)⟩
theorem Only.below {s : Nat → Prop} {w w' : World} (h : Only s w w') {B : Nat} (hB : B ≤ w.heap.size) (hs : ∀ k, k < w.heap.size → s k → B ≤ k) : Below B w w' :=
  ⟨h.os, h.tape, h.output, h.size, fun k hk => h.block k (Nat.lt_of_lt_of_le hk hB) (fun hsk => by have := hs k (Nat.lt_of_lt_of_le hk hB) hsk; omega)⟩
theorem At.only {s : Nat → Prop} {w w' : World} {b : Nat} {cs : Array Value} {t : TypeId} (h : At w b cs t) (ho : Only s w w') (hn : ¬ s b) : At w' b cs t := by
  have := h.lt; unfold At at *; rw [ho.block b this hn]; exact h
theorem own_only {s : Nat → Prop} {w w' : World} {B : Nat} {e : TypeId} {z : Nat} {v : Value} {n : Nat} {xs : List Value} (h : w.ownsRow B e z v n xs) (ho : Only s w w') (hn : ∀ k, v.ownBlock = some k → ¬ s k) : w'.ownsRow B e z v n xs := by
  refine ⟨h.1, ?_⟩
  rcases h.2 with h0 | ⟨g, cap, cur, rfl, hb, hg, hr⟩
  · exact .inl h0
  · refine .inr ⟨g, cap, cur, rfl, hb, ?_, hr⟩
    rw [ho.block g (Array.getElem?_eq_some_iff.1 hg).1 (hn g (by simp [Value.ownBlock]))]
    exact hg
theorem own_base {w : World} {B : Nat} {e : TypeId} {z : Nat} {v : Value} {n : Nat} {xs : List Value} (h : w.ownsRow B e z v n xs) {k : Nat} (hk : v.ownBlock = some k) : B ≤ k ∧ k < w.heap.size := by
  rcases h.2 with ⟨rfl, _⟩ | ⟨g, cap, cur, rfl, hb, hg, hr⟩
  · simp [Value.ownBlock] at hk
  · simp only [Value.ownBlock, Option.some.injEq] at hk
    subst hk
    exact ⟨hb, (Array.getElem?_eq_some_iff.1 hg).1⟩
/-- bytes that lie below B -/
structure Bin (B : Nat) (w : World) (a : Option Addr) (c : Nat) (L : List Nat) : Prop where
  fit : L.length ≤ c
  cap : c ≤ 9223372036854775807
  small : L.length ≤ 65536
  byte : ∀ x ∈ L, x < 256
  none_ : a = none → c = 0
  read : 0 < L.length → ∃ b o, a = some ⟨b, o, none⟩ ∧ b < B ∧ ∀ j u, (bs L)[j]? = some u → w.cell? ⟨b, o + j, none⟩ = some u
theorem Bin.rd {B : Nat} {w : World} {a : Option Addr} {c : Nat} {L : List Nat} (h : Bin B w a c L) : Rd w (.slice a L.length c) (bs L) := by
  by_cases h0 : 0 < L.length
  · obtain ⟨b, o, rfl, _, hc⟩ := h.read h0
    exact .inr ⟨by rw [bs_len]; exact h0, b, o, c, by rw [bs_len], hc⟩
  · have : L = [] := List.length_eq_zero_iff.1 (by omega)
    subst this
    exact .inl ⟨rfl, _, _, rfl⟩
theorem Bin.below {B : Nat} {w w' : World} {a : Option Addr} {c : Nat} {L : List Nat} (h : Bin B w a c L) (hb : Below B w w') : Bin B w' a c L :=
  ⟨h.fit, h.cap, h.small, h.byte, h.none_, fun h0 => by
    obtain ⟨b, o, rfl, hlt, hc⟩ := h.read h0
    exact ⟨b, o, rfl, hlt, fun j u hu => (hb.cell (p := ⟨b, o + j, none⟩) hlt).trans (hc j u hu)⟩⟩
theorem Bin.cut {B : Nat} {w : World} {a : Option Addr} {c : Nat} {L : List Nat} (h : Bin B w a c L) (k : Nat) : Bin B w a c (L.take k) :=
  ⟨by have := h.fit; rw [List.length_take]; omega, h.cap, by have := h.small; rw [List.length_take]; omega, fun x hx => h.byte x (List.mem_of_mem_take hx), h.none_, fun h0 => by
    rw [List.length_take] at h0
    obtain ⟨b, o, rfl, hlt, hc⟩ := h.read (by omega)
    refine ⟨b, o, rfl, hlt, fun j u hu => hc j u ?_⟩
    simp only [bs, List.map_take] at hu ⊢
    rw [List.getElem?_take] at hu
    split at hu
    · exact hu
    · cases hu⟩
end Go.Proofs.YtmnblljenobofaaDoor
/- The walks of package word's Words and of what it calls. -/
namespace Go.Proofs.YtmnblljenobofaaDoor.WPlain
end Go.Proofs.YtmnblljenobofaaDoor.WPlain
namespace Go.Proofs.YtmnblljenobofaaDoor
open Go.RowKit WPlain

theorem info3 : (Tryd.prog.info? 3).map (fun i => (i.zero, i.size, i.bytes)) = some (some (.int .i64 0), 1, 8) := by kernel_rfl

end Go.Proofs.YtmnblljenobofaaDoor
/- The walks of package text's within, place and number. -/
namespace Go.Proofs.YtmnblljenobofaaDoor.WPlain
end Go.Proofs.YtmnblljenobofaaDoor.WPlain
namespace Go.Proofs.YtmnblljenobofaaDoor
open Go.RowKit WPlain

theorem within_any (n lo hi : Int) (w : World) :
    Calls Tryd.prog 96 #[.int .i64 n, .int .i64 lo, .int .i64 hi] w fun e w' => e = .returned (.bool (inB n lo hi)) ∧ w = w' := by
  unfold inB
  go_enter Tryd.func96, Tryd.ntmps96
  go_wp2
  all_goals
    go_ret
    exact ⟨ret_bool (by first | (simp [*]; done) | (simp; omega)), rfl⟩

end Go.Proofs.YtmnblljenobofaaDoor
/- The table of kinds in memory. -/
namespace Go.Proofs.YtmnblljenobofaaDoor.WPlain
end Go.Proofs.YtmnblljenobofaaDoor.WPlain
namespace Go.Proofs.YtmnblljenobofaaDoor
open Go.RowKit WPlain

/-- a kind's word as bytes -/
def kbytes (k : Nat) : ByteArray := ⟨(kwords.getD k []).toArray⟩
def kindCell (k : Nat) : List Value := [.string (kbytes k), .bool (hasV k), .bool (hasX k)]
def kindCells : Array Value := ((List.range 10).flatMap kindCell).toArray
/-- The program's table of kinds lies in its variable. -/
def HasK (w : World) : Prop := ∀ j v, kindCells[j]? = some v → w.cell? ⟨0, j, none⟩ = some v
theorem HasK.lt {w : World} (h : HasK w) : 0 < w.heap.size := cell_lt (h 0 _ (by rfl))
theorem HasK.later {B : Nat} {w w' : World} (h : HasK w) (hb : Below B w w') (hB : w.heap.size ≤ B) : HasK w' := by
  have hlt := h.lt
  intro j v hj
  exact (hb.cell (p := ⟨0, j, none⟩) (Nat.lt_of_lt_of_le hlt hB)).trans (h j v hj)
theorem kindCells_size : kindCells.size = 30 := by decide
theorem kindCells_at (k : Nat) (h : k < 10) : kindCells[k * 3]? = some (.string (kbytes k)) ∧ kindCells[k * 3 + 1]? = some (.bool (hasV k)) ∧ kindCells[k * 3 + 2]? = some (.bool (hasX k)) := by
  match k, h with
  | 0, _ => exact ⟨rfl, rfl, rfl⟩
  | 1, _ => exact ⟨rfl, rfl, rfl⟩
  | 2, _ => exact ⟨rfl, rfl, rfl⟩
  | 3, _ => exact ⟨rfl, rfl, rfl⟩
  | 4, _ => exact ⟨rfl, rfl, rfl⟩
  | 5, _ => exact ⟨rfl, rfl, rfl⟩
  | 6, _ => exact ⟨rfl, rfl, rfl⟩
  | 7, _ => exact ⟨rfl, rfl, rfl⟩
  | 8, _ => exact ⟨rfl, rfl, rfl⟩
  | 9, _ => exact ⟨rfl, rfl, rfl⟩
theorem HasK.word {w : World} (h : HasK w) {k : Nat} (hk : k < 10) : w.cell? ⟨0, k * 3, none⟩ = some (.string (kbytes k)) := h _ _ (kindCells_at k hk).1
theorem HasK.hasV {w : World} (h : HasK w) {k : Nat} (hk : k < 10) : w.cell? ⟨0, k * 3 + 1, none⟩ = some (.bool (WPlain.hasV k)) := h _ _ (kindCells_at k hk).2.1
theorem HasK.hasX {w : World} (h : HasK w) {k : Nat} (hk : k < 10) : w.cell? ⟨0, k * 3 + 2, none⟩ = some (.bool (WPlain.hasX k)) := h _ _ (kindCells_at k hk).2.2

end Go.Proofs.YtmnblljenobofaaDoor
/- The walks of package text's names and isTooMany. -/
namespace Go.Proofs.YtmnblljenobofaaDoor.WPlain
end Go.Proofs.YtmnblljenobofaaDoor.WPlain
namespace Go.Proofs.YtmnblljenobofaaDoor
open Go.RowKit WPlain

def ints (xs : List Int) : List Value := xs.map (Value.int .i64)
theorem ints_len (xs : List Int) : (ints xs).length = xs.length := List.length_map _

theorem contains_any (v : Value) (xs : List Int) (x : Int) (w : World) (h : Rd w v (ints xs)) (hl : xs.length ≤ 2147483648) :
    Calls Tryd.prog 97 #[v, .int .i64 x] w fun e w' => e = .returned (.bool (xs.contains x)) ∧ w = w' := by
  by_cases h0 : 0 < xs.length
  · obtain ⟨b, o, c, rfl, hb, hc⟩ := h.opened (by rw [ints_len]; exact h0)
    rw [ints_len]
    refine (Tryd.slices_Contains_int b o xs.length c xs x w (Nat.le_refl _) (by omega) (fun j hj => hc j _ (by unfold ints; rw [List.getElem?_map, List.getElem?_eq_getElem hj]; simp [hj]))).mono ?_
    rintro e w' ⟨rfl, rfl⟩
    rw [List.take_length]
    exact ⟨rfl, rfl⟩
  · obtain rfl : xs = [] := List.length_eq_zero_iff.1 (by omega)
    obtain ⟨a, c, rfl⟩ := h.len
    refine (Tryd.slices_Contains_int_empty a c x w).mono ?_
    rintro e w' ⟨rfl, rfl⟩
    exact ⟨rfl, rfl⟩

theorem names_take (h : List Ev) (k : Nat) (hk : k < h.length) : namesOf (h.take (k + 1)) = addName (namesOf (h.take k)) h[k].t := by
  rw [List.take_succ_eq_append_getElem hk, namesOf_snoc]

set_option maxHeartbeats 1000000 in
theorem names_any (v : Value) (h : List Ev) (w : World) (hv : Evs w v h) (hl : h.length ≤ 65536) :
    Calls Tryd.prog 92 #[v] w fun e w' => ∃ v', e = .returned v' ∧ w'.ownsRow w.heap.size 3 1 v' (namesOf h).length (ints (namesOf h)) ∧ Below w.heap.size w w' := by
  obtain ⟨j0, hj0, hy0, hy1', hy2'⟩ := info_parts info3
  have hb0 := Below.refl w.heap.size w
  have HV := Lib.hid hv
  obtain ⟨a, c, rfl⟩ := hv.len
  clear hv
  go_enter Tryd.func92, Tryd.ntmps92
  go_wp2_with fail
  go_loopw [3, 8] (fun y x wr => ∃ k : Nat, k ≤ h.length ∧ x = .int .i64 k ∧ wr.ownsRow w.heap.size 3 1 y (namesOf (h.take k)).length (ints (namesOf (h.take k))) ∧ Below w.heap.size w wr) (fun _ x _ => h.length - (intOf x).toNat)
  case atStart => exact ⟨0, by omega, rfl, World.ownsRow_nil _ _ _ _, hb0⟩
  case round =>
    clear hb0
    obtain ⟨k, hk, rfl, hy, hb⟩ := hrel
    have hnl := namesOf_len (h.take k)
    have hnl2 : (namesOf (h.take k)).length ≤ 65536 := Nat.le_trans hnl (Nat.le_trans (List.length_take_le _ _) (by omega))
    clear hnl
    by_cases hlt : k < h.length
    · have HT := Lib.hid (names_take h k hlt)
      have hv2 := HV.out.below hb (Nat.le_refl _)
      have hbs := hb.size
      rcases hv2 with ⟨e0, _⟩ | ⟨l0, b, o, c', he, hbl, hc⟩
      · rw [e0] at hlt; simp at hlt
      · obtain ⟨rfl, rfl⟩ : a = some ⟨b, o, none⟩ ∧ c = c' := by simpa using he
        clear he
        obtain ⟨c0, c1, c2, c3⟩ := hc k hlt
        clear hc
        generalize h[k] = ev at *
        generalize namesOf (h.take k) = ns at *
        generalize h.length = n at *
        cases hcon : ns.contains ev.t with
        | true =>
          have HC := Lib.hid hcon
          have HA : Hid (namesOf (h.take (k + 1)) = ns) := by unfold Hid; rw [HT.out]; unfold addName; rw [if_pos hcon]
          clear hcon HT
          go_wp2_with fail
          refine (contains_any _ ns ev.t _ ((Rd.of_row hy).below ((Below.refl _ wr).alloc (Nat.le_refl _) (.cells #[.int .i64 ev.k, .int .i64 ev.t, .int .i64 ev.v, .int .i64 ev.x] 46)) (Nat.le_refl _)) (by omega)).mono ?_
          rintro e w' ⟨rfl, rfl⟩
          rw [HC.out]
          go_wp2
          go_roundw
          case rel => exact ⟨k + 1, by omega, by go_num, by rw [HA.out]; exact hy.alloc _, hb.alloc hb.size _⟩
          case measure => simp [intOf]; omega
        | false =>
          have HC := Lib.hid hcon
          have HA : Hid (namesOf (h.take (k + 1)) = ns ++ [ev.t]) := by unfold Hid; rw [HT.out]; unfold addName; rw [if_neg (by rw [hcon]; simp)]
          clear hcon HT
          go_wp2_with fail
          refine (contains_any _ ns ev.t _ ((Rd.of_row hy).below ((Below.refl _ wr).alloc (Nat.le_refl _) (.cells #[.int .i64 ev.k, .int .i64 ev.t, .int .i64 ev.v, .int .i64 ev.x] 46)) (Nat.le_refl _)) (by omega)).mono ?_
          rintro e w' ⟨rfl, rfl⟩
          rw [HC.out]
          have hy1 := hy.alloc (.cells #[.int .i64 ev.k, .int .i64 ev.t, .int .i64 ev.v, .int .i64 ev.x] 46)
          have hb1 := hb.alloc hb.size (.cells #[.int .i64 ev.k, .int .i64 ev.t, .int .i64 ev.v, .int .i64 ev.x] 46)
          have hE := At.new wr #[.int .i64 ev.k, .int .i64 ev.t, .int .i64 ev.v, .int .i64 ev.x] 46
          have hE1 := hE.cell (i := 1) rfl
          clear hy hb c0 c1 c2 c3 hE
          generalize wr.heap.size = N at *
          generalize wr.alloc (.cells #[.int .i64 ev.k, .int .i64 ev.t, .int .i64 ev.v, .int .i64 ev.x] 46) = w1 at *
          go_wp2_with (at_builtin; refine wpList_append_own _ rfl _ _ 24 rfl w.heap.size 3 j0 (.int .i64 0) 1 8 Tryd.underlying24 hj0 hy0 hy1' hy2' rfl (by decide) _ _ _ rfl (hy1.alloc _) ⟨w1.heap.size, 0, none⟩ 1 1 [.int .i64 ev.t] rfl rfl ?d1 ?d2 ?d3 ?d4 ?d5 ?_)
          case d1 => exact cell_one_at _ _ _
          case d2 => intro u hu; simp at hu; subst hu; rfl
          case d3 => unfold maxLen; omega
          case d4 => omega
          case d5 => have := hb1.size; simp; omega
          intro v2 w3 hy3 hg3 _
          have hb3 : Below w.heap.size w w3 := (hb1.alloc hb1.size _).grown hg3 (by have := hb1.size; simp; omega) (fun k' hk' => (hy1.lt k' hk').1)
          have HY : Hid (w3.ownsRow w.heap.size 3 1 v2 (namesOf (h.take (k + 1))).length (ints (namesOf (h.take (k + 1))))) := by
            unfold Hid
            rw [HA.out, List.length_append]
            unfold ints at *
            rw [List.map_append]
            exact hy3
          clear hy1 hy3 hg3 hb1
          go_wp2
          go_roundw
          case rel => exact ⟨k + 1, by omega, by go_num, HY.out, hb3⟩
          case measure => simp [intOf]; omega
    · go_wp2
      obtain rfl : k = h.length := by omega
      rw [List.take_length] at hy
      go_ret
      exact ⟨_, rfl, hy, hb⟩

end Go.Proofs.YtmnblljenobofaaDoor
/- The walk of package text's Parse. -/
namespace Go.Proofs.YtmnblljenobofaaDoor.WPlain
end Go.Proofs.YtmnblljenobofaaDoor.WPlain
namespace Go.Proofs.YtmnblljenobofaaDoor
open Go.RowKit WPlain

theorem info46 : (Tryd.prog.info? 46).map (fun i => (i.zero, i.size, i.bytes)) = some (some (.agg #[.int .i64 0, .int .i64 0, .int .i64 0, .int .i64 0]), 4, 32) := by kernel_rfl

/-- nil, or a slice with an address -/
def Src (v : Value) : Prop := v = .slice none 0 0 ∨ ∃ a n c, v = .slice (some a) n c
theorem Src.of_row {w : World} {B : Nat} {e : TypeId} {s : Nat} {v : Value} {n : Nat} {xs : List Value} (h : w.ownsRow B e s v n xs) : Src v := by
  rcases h.2 with ⟨rfl, _⟩ | ⟨g, cap, cur, rfl, _⟩
  · exact .inl rfl
  · exact .inr ⟨_, _, _, rfl⟩

end Go.Proofs.YtmnblljenobofaaDoor
/- Append of events, whatever the source. -/
namespace Go.Proofs.YtmnblljenobofaaDoor.WPlain
end Go.Proofs.YtmnblljenobofaaDoor.WPlain
namespace Go.Proofs.YtmnblljenobofaaDoor
open Go.RowKit WPlain

theorem addr_add (b o j : Nat) : (⟨b, o, none⟩ : Addr).add j = ⟨b, o + j, none⟩ := by unfold Addr.add; split <;> simp_all
theorem Evs.cells {w : World} {a : Addr} {n c : Nat} {h : List Ev} (hv : Evs w (.slice (some a) n c) h) : ∀ j u, (evsCells h)[j]? = some u → w.cell? (a.add j) = some u := by
  intro j u hu
  rcases hv with ⟨rfl, _⟩ | ⟨_, b, o, c', he, hlt, hc⟩
  · simp [evsCells] at hu
  · obtain ⟨rfl, rfl, rfl⟩ : a = ⟨b, o, none⟩ ∧ n = h.length ∧ c = c' := by simpa using he
    have hj : j < h.length * 4 := by
      have := (List.getElem?_eq_some_iff.1 hu).1
      rw [evsCells_len] at this
      exact this
    have hi : j / 4 < h.length := by omega
    obtain ⟨c0, c1, c2, c3⟩ := hc (j / 4) hi
    have hg := evsCells_get h (j / 4) hi (j % 4) (by omega)
    rw [show j / 4 * 4 + j % 4 = j from by omega, hu] at hg
    rw [addr_add]
    have hm : j % 4 = 0 ∨ j % 4 = 1 ∨ j % 4 = 2 ∨ j % 4 = 3 := by omega
    rcases hm with hm | hm | hm | hm
    · rw [hm] at hg; rw [show o + j = o + j / 4 * 4 from by omega, c0]; exact hg.symm
    · rw [hm] at hg; rw [show o + j = o + j / 4 * 4 + 1 from by omega, c1]; exact hg.symm
    · rw [hm] at hg; rw [show o + j = o + j / 4 * 4 + 2 from by omega, c2]; exact hg.symm
    · rw [hm] at hg; rw [show o + j = o + j / 4 * 4 + 3 from by omega, c3]; exact hg.symm
theorem Evs.length {w : World} {a : Option Addr} {n c : Nat} {h : List Ev} (hv : Evs w (.slice a n c) h) : n = h.length := by
  obtain ⟨a', c', he⟩ := hv.len
  simp at he
  exact he.2.1
end Go.Proofs.YtmnblljenobofaaDoor
