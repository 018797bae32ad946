/- Merged: OpenBy, KitF. -/
import Derived.Test.YtkliahdgciajjaaDoorRows
import Derived.Test.YtkliahdgciajjaaDoorKit
import Derived.Test.YtkliahdgciajjaaDoorMg1
import Derived.Deep.Slices
import Derived.ChangeSame
import Derived.OpenShut
import Derived.Below
/- An argument that is a slice of bytes. -/
namespace Go.Proofs.YtkliahdgciajjaaDoor
open Go.ChangeShapes Go.WideShapes Go.RowKit Go.Deep

/-- bytes as cells -/
def bs (l : List Nat) : List Value := l.map (fun (c : Nat) => Value.int .u8 (c : Int))
theorem bs_len (l : List Nat) : (bs l).length = l.length := by simp [bs]

/-- cut to its first k -/
theorem Rd.cut {w : World} {a : Option Addr} {n c : Nat} {xs : List Value} (h : Rd w (.slice a n c) xs) (k : Nat) (hk : k ≤ n) : Rd w (.slice a k c) (xs.take k) := by
  rcases h with ⟨rfl, a', c', he⟩ | ⟨h0, b, o, c', he, hc⟩
  · simp only [Value.slice.injEq] at he
    obtain ⟨_, rfl, _⟩ := he
    exact .inl ⟨by simp, _, _, by rw [show k = 0 from by omega]⟩
  · simp only [Value.slice.injEq] at he
    obtain ⟨rfl, rfl, rfl⟩ := he
    by_cases hk0 : 0 < k
    · refine .inr ⟨by simp; omega, b, o, c, by simp; omega, fun i u hu => ?_⟩
      rw [List.getElem?_take] at hu
      split at hu
      · exact hc i u hu
      · cases hu
    · have : k = 0 := by omega
      subst this
      exact .inl ⟨by simp, _, _, rfl⟩
end Go.Proofs.YtkliahdgciajjaaDoor
/- Small laws of memory, of no program: what only some blocks have turned; bytes that lie below. -/
namespace Go.Proofs.YtkliahdgciajjaaDoor.WPlain
end Go.Proofs.YtkliahdgciajjaaDoor.WPlain
namespace Go.Proofs.YtkliahdgciajjaaDoor.VPlain
end Go.Proofs.YtkliahdgciajjaaDoor.VPlain
namespace Go.Proofs.YtkliahdgciajjaaDoor.BPlain
end Go.Proofs.YtkliahdgciajjaaDoor.BPlain
namespace Go.Proofs.YtkliahdgciajjaaDoor
open Go.RowKit WPlain VPlain BPlain

/-- of the blocks that there were only those of s have turned -/
structure Only (s : Nat → Prop) (w w' : World) : Prop where
  os : w'.os = w.os
  tape : w'.tape = w.tape
  output : w'.output = w.output
  size : w.heap.size ≤ w'.heap.size
  block : ∀ k, k < w.heap.size → ¬ s k → w'.heap[k]? = w.heap[k]?
theorem Only.refl (s : Nat → Prop) (w : World) : Only s w w := ⟨rfl, rfl, rfl, Nat.le_refl _, fun _ _ _ => rfl⟩
theorem Only.trans {s t : Nat → Prop} {a b c : World} (h : Only s a b) (k : Only t b c) (hst : ∀ i, i < a.heap.size → t i → s i) : Only s a c :=
  ⟨k.os.trans h.os, k.tape.trans h.tape, k.output.trans h.output, Nat.le_trans h.size k.size,
   fun i hi hn => (k.block i (Nat.lt_of_lt_of_le hi h.size) (fun ht => hn (hst i hi ht))).trans (h.block i hi hn)⟩
theorem Only.mono {s t : Nat → Prop} {a b : World} (h : Only s a b) (hst : ∀ i, i < a.heap.size → s i → t i) : Only t a b :=
  ⟨h.os, h.tape, h.output, h.size, fun i hi hn => h.block i hi (fun hs => hn (hst i hi hs))⟩
theorem Only.drew {s : Nat → Prop} {a w : World} (h : Only s a w) : Only s a w.drew := ⟨h.os, h.tape, h.output, h.size, h.block⟩
theorem Only.drewN {s : Nat → Prop} {a w : World} (h : Only s a w) (n : Nat) : Only s a (w.drewN n) := ⟨h.os, h.tape, h.output, h.size, h.block⟩
theorem Only.alloc {s : Nat → Prop} {a w : World} (h : Only s a w) (o : Obj) : Only s a (w.alloc o) :=
  ⟨h.os, h.tape, h.output, Nat.le_trans h.size (by simp), fun i hi hn => (Below.heap_alloc w o i (Nat.lt_of_lt_of_le hi h.size)).trans (h.block i hi hn)⟩
theorem Only.setCell {s : Nat → Prop} {a w : World} (h : Only s a w) {p : Addr} (hp : p.block < a.heap.size → s p.block) (u : Value) : Only s a (w.setCell p u) :=
  ⟨h.os, h.tape, h.output, by simpa [World.setCell] using h.size, fun i hi hn => (Below.heap_setCell w p u i (by rintro rfl; exact hn (hp hi))).trans (h.block i hi hn)⟩
theorem Only.of_below {s : Nat → Prop} {a w : World} (h : Below a.heap.size a w) : Only s a w := ⟨h.os, h.tape, h.output, h.size, fun i hi _ => h.block i hi⟩
theorem Only.call {s : Nat → Prop} {a b c : World} (h : Only s a b) (k : Below b.heap.size b c) : Only s a c :=
  h.trans (t := fun _ => False) (Only.of_below k) (fun _ _ hf => hf.elim)
theorem Only.grown {s : Nat → Prop} {a w w' : World} {row : Option Nat} (h : Only s a w) (hg : w.grownBy w' row) (hr : ∀ k, k < a.heap.size → row = some k → s k) : Only s a w' :=
  ⟨hg.os.trans h.os, hg.tape.trans h.tape, hg.output.trans h.output, Nat.le_trans h.size hg.size,
   fun i hi hn => (hg.block i (Nat.lt_of_lt_of_le hi h.size) (fun e => hn (hr i hi e.symm))).trans (h.block i hi hn)⟩
theorem Only.below {s : Nat → Prop} {w w' : World} (h : Only s w w') {B : Nat} (hB : B ≤ w.heap.size) (hs : ∀ k, k < w.heap.size → s k → B ≤ k) : Below B w w' :=
  ⟨h.os, h.tape, h.output, h.size, fun k hk => h.block k (Nat.lt_of_lt_of_le hk hB) (fun hsk => by have := hs k (Nat.lt_of_lt_of_le hk hB) hsk; omega)⟩
theorem At.only {s : Nat → Prop} {w w' : World} {b : Nat} {cs : Array Value} {t : TypeId} (h : At w b cs t) (ho : Only s w w') (hn : ¬ s b) : At w' b cs t := by
  have := h.lt; unfold At at *; rw [ho.block b this hn]; exact h
theorem own_only {s : Nat → Prop} {w w' : World} {B : Nat} {e : TypeId} {z : Nat} {v : Value} {n : Nat} {xs : List Value} (h : w.ownsRow B e z v n xs) (ho : Only s w w') (hn : ∀ k, v.ownBlock = some k → ¬ s k) : w'.ownsRow B e z v n xs := by
  refine ⟨h.1, ?_⟩
  rcases h.2 with h0 | ⟨g, cap, cur, rfl, hb, hg, hr⟩
  · exact .inl h0
  · refine .inr ⟨g, cap, cur, rfl, hb, ?_, hr⟩
    rw [ho.block g (Array.getElem?_eq_some_iff.1 hg).1 (hn g (by simp [Value.ownBlock]))]
    exact hg
theorem own_base {w : World} {B : Nat} {e : TypeId} {z : Nat} {v : Value} {n : Nat} {xs : List Value} (h : w.ownsRow B e z v n xs) {k : Nat} (hk : v.ownBlock = some k) : B ≤ k ∧ k < w.heap.size := by
  rcases h.2 with ⟨rfl, _⟩ | ⟨g, cap, cur, rfl, hb, hg, hr⟩
  · simp [Value.ownBlock] at hk
  · simp only [Value.ownBlock, Option.some.injEq] at hk
    subst hk
    exact ⟨hb, (Array.getElem?_eq_some_iff.1 hg).1⟩
/-- bytes that lie below B -/
structure Bin (B : Nat) (w : World) (a : Option Addr) (c : Nat) (L : List Nat) : Prop where
  fit : L.length ≤ c
  cap : c ≤ 9223372036854775807
  small : L.length ≤ 65536
  byte : ∀ x ∈ L, x < 256
  none_ : a = none → c = 0
  read : 0 < L.length → ∃ b o, a = some ⟨b, o, none⟩ ∧ b < B ∧ ∀ j u, (bs L)[j]? = some u → w.cell? ⟨b, o + j, none⟩ = some u
theorem Bin.rd {B : Nat} {w : World} {a : Option Addr} {c : Nat} {L : List Nat} (h : Bin B w a c L) : Rd w (.slice a L.length c) (bs L) := by
  by_cases h0 : 0 < L.length
  · obtain ⟨b, o, rfl, _, hc⟩ := h.read h0
    exact .inr ⟨by rw [bs_len]; exact h0, b, o, c, by rw [bs_len], hc⟩
  · have : L = [] := List.length_eq_zero_iff.1 (by omega)
    subst this
    exact .inl ⟨rfl, _, _, rfl⟩
theorem Bin.below {B : Nat} {w w' : World} {a : Option Addr} {c : Nat} {L : List Nat} (h : Bin B w a c L) (hb : Below B w w') : Bin B w' a c L :=
  ⟨h.fit, h.cap, h.small, h.byte, h.none_, fun h0 => by
    obtain ⟨b, o, rfl, hlt, hc⟩ := h.read h0
    exact ⟨b, o, rfl, hlt, fun j u hu => (hb.cell (p := ⟨b, o + j, none⟩) hlt).trans (hc j u hu)⟩⟩
theorem Bin.cut {B : Nat} {w : World} {a : Option Addr} {c : Nat} {L : List Nat} (h : Bin B w a c L) (k : Nat) : Bin B w a c (L.take k) :=
  ⟨by have := h.fit; rw [List.length_take]; omega, h.cap, by have := h.small; rw [List.length_take]; omega, fun x hx => h.byte x (List.mem_of_mem_take hx), h.none_, fun h0 => by
    rw [List.length_take] at h0
    obtain ⟨b, o, rfl, hlt, hc⟩ := h.read (by omega)
    refine ⟨b, o, rfl, hlt, fun j u hu => hc j u ?_⟩
    simp only [bs, List.map_take] at hu ⊢
    rw [List.getElem?_take] at hu
    split at hu
    · exact hu
    · cases hu⟩
end Go.Proofs.YtkliahdgciajjaaDoor
