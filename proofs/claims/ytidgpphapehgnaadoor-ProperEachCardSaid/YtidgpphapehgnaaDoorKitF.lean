/- Small laws of memory, of no program: what only some blocks have turned; bytes that lie below. -/
import Derived.Test.YtidgpphapehgnaaDoorKitB
import Derived.Test.YtidgpphapehgnaaDoorOpenBy
import Derived.Test.YtidgpphapehgnaaDoorTxtA
import Derived.Below
namespace Go.Proofs.YtidgpphapehgnaaDoor.WPlain
end Go.Proofs.YtidgpphapehgnaaDoor.WPlain
namespace Go.Proofs.YtidgpphapehgnaaDoor.VPlain
end Go.Proofs.YtidgpphapehgnaaDoor.VPlain
namespace Go.Proofs.YtidgpphapehgnaaDoor.BPlain
end Go.Proofs.YtidgpphapehgnaaDoor.BPlain
namespace Go.Proofs.YtidgpphapehgnaaDoor
open Go.RowKit WPlain VPlain BPlain

/-- of the blocks that there were only those of s have turned -/
structure Only (s : Nat → Prop) (w w' : World) : Prop where
  os : w'.os = w.os
  tape : w'.tape = w.tape
  output : w'.output = w.output
  size : w.heap.size ≤ w'.heap.size
  block : ∀ k, k < w.heap.size → ¬ s k → w'.heap[k]? = w.heap[k]?
theorem Only.refl (s : Nat → Prop) (w : World) : Only s w w := ⟨rfl, rfl, rfl, Nat.le_refl _, fun _ _ _ => rfl⟩
theorem Only.trans {s t : Nat → Prop} {a b c : World} (h : Only s a b) (k : Only t b c) (hst : ∀ i, i < a.heap.size → t i → s i) : Only s a c :=
  ⟨k.os.trans h.os, k.tape.trans h.tape, k.output.trans h.output, Nat.le_trans h.size k.size,
   fun i hi hn => (k.block i (Nat.lt_of_lt_of_le hi h.size) (fun ht => hn (hst i hi ht))).trans (h.block i hi hn)⟩
theorem Only.mono {s t : Nat → Prop} {a b : World} (h : Only s a b) (hst : ∀ i, i < a.heap.size → s i → t i) : Only t a b :=
  ⟨h.os, h.tape, h.output, h.size, fun i hi hn => h.block i hi (fun hs => hn (hst i hi hs))⟩
theorem Only.alloc {s : Nat → Prop} {a w : World} (h : Only s a w) (o : Obj) : Only s a (w.alloc o) :=
  ⟨h.os, h.tape, h.output, Nat.le_trans h.size (by simp), fun i hi hn => (Below.heap_alloc w o i (Nat.lt_of_lt_of_le hi h.size)).trans (h.block i hi hn)⟩
theorem Only.grown {s : Nat → Prop} {a w w' : World} {row : Option Nat} (h : Only s a w) (hg : w.grownBy w' row) (hr : ∀ k, k < a.heap.size → row = some k → s k) : Only s a w' :=
  ⟨hg.os.trans h.os, hg.tape.trans h.tape, hg.output.trans h.output, Nat.le_trans h.size hg.size,
   fun i hi hn => (hg.block i (Nat.lt_of_lt_of_le hi h.size) (fun e => hn (hr i hi e.symm))).trans (h.block i hi hn)⟩
theorem Only.below {s : Nat → Prop} {w w' : World} (h : Only s w w') {B : Nat} (hB : B ≤ w.heap.size) (hs : ∀ k, k < w.heap.size → s k → B ≤ k) : Below B w w' :=
  ⟨h.os, h.tape, h.output, h.size, fun k hk => h.block k (Nat.lt_of_lt_of_le hk hB) (fun hsk => by have := hs k (Nat.lt_of_lt_of_le hk hB) hsk; omega)⟩
theorem At.only {s : Nat → Prop} {w w' : World} {b : Nat} {cs : Array Value} {t : TypeId} (h : At w b cs t) (ho : Only s w w') (hn : ¬ s b) : At w' b cs t := by
  have := h.lt; unfold At at *; rw [ho.block b this hn]; exact h
/-- bytes that lie below B -/
structure Bin (B : Nat) (w : World) (a : Option Addr) (c : Nat) (L : List Nat) : Prop where
  fit : L.length ≤ c
  cap : c ≤ 9223372036854775807
  small : L.length ≤ 65536
  byte : ∀ x ∈ L, x < 256
  none_ : a = none → c = 0
  read : 0 < L.length → ∃ b o, a = some ⟨b, o, none⟩ ∧ b < B ∧ ∀ j u, (bs L)[j]? = some u → w.cell? ⟨b, o + j, none⟩ = some u
theorem Bin.below {B : Nat} {w w' : World} {a : Option Addr} {c : Nat} {L : List Nat} (h : Bin B w a c L) (hb : Below B w w') : Bin B w' a c L :=
  ⟨h.fit, h.cap, h.small, h.byte, h.none_, fun h0 => by
    obtain ⟨b, o, rfl, hlt, hc⟩ := h.read h0
    exact ⟨b, o, rfl, hlt, fun j u hu => (hb.cell (p := ⟨b, o + j, none⟩) hlt).trans (hc j u hu)⟩⟩
end Go.Proofs.YtidgpphapehgnaaDoor
