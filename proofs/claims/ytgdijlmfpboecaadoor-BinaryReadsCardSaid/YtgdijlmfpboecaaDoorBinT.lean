/- The walk of the reference's body. (Written by gen_binT.py.) -/
import Derived.Test.YtgdijlmfpboecaaDoorBinS
import Derived.Test.YtgdijlmfpboecaaDoorBinD
import Derived.Test.YtgdijlmfpboecaaDoorTxtS
namespace Go.Proofs.YtgdijlmfpboecaaDoor.WPlain
end Go.Proofs.YtgdijlmfpboecaaDoor.WPlain
namespace Go.Proofs.YtgdijlmfpboecaaDoor.VPlain
end Go.Proofs.YtgdijlmfpboecaaDoor.VPlain
namespace Go.Proofs.YtgdijlmfpboecaaDoor
open Go.RowKit WPlain VPlain BPlain

/-- what body keeps: its answer's block, the event's, the number's -/
structure Sb (w w' : World) (nk : Nat) (k t v x : Int) (s : Nat × Nat × Nat) : Prop where
  r : At w' w.heap.size #[.slice none 0 0, .int .i64 0, .int .i64 0] 28
  q : At w' (w.heap.size + 1) #[.int .i64 k, .int .i64 t, .int .i64 v, .int .i64 x] 44
  n : At w' nk #[.int .u64 (s.1 : Nat), .int .i64 (s.2.1 : Nat), .int .i64 (s.2.2 : Nat)] 40
  below : Below w.heap.size w w'
  sep : w.heap.size + 1 < nk
theorem Sb.call {w w' w2 : World} {nk : Nat} {k t v x : Int} {s : Nat × Nat × Nat} (h : Sb w w' nk k t v x s) (hb : Below w'.heap.size w' w2) : Sb w w2 nk k t v x s :=
  ⟨h.r.below hb h.r.lt, h.q.below hb h.q.lt, h.n.below hb h.n.lt, h.below.trans (hb.mono h.below.size), h.sep⟩
theorem Sb.setT {w w' : World} {nk : Nat} {k t v x : Int} {s : Nat × Nat × Nat} (h : Sb w w' nk k t v x s) (u : Int) : Sb w (w'.setCell ⟨w.heap.size + 1, 1, none⟩ (.int .i64 u)) nk k u v x s :=
  ⟨h.r.other (a := ⟨w.heap.size + 1, 1, none⟩) (by simp) _, h.q.set 1 _, h.n.other (a := ⟨w.heap.size + 1, 1, none⟩) (by have := h.sep; simp; omega) _, h.below.setCell (p := ⟨w.heap.size + 1, 1, none⟩) (by simp) _, h.sep⟩
theorem Sb.setV {w w' : World} {nk : Nat} {k t v x : Int} {s : Nat × Nat × Nat} (h : Sb w w' nk k t v x s) (u : Int) : Sb w (w'.setCell ⟨w.heap.size + 1, 2, none⟩ (.int .i64 u)) nk k t u x s :=
  ⟨h.r.other (a := ⟨w.heap.size + 1, 2, none⟩) (by simp) _, h.q.set 2 _, h.n.other (a := ⟨w.heap.size + 1, 2, none⟩) (by have := h.sep; simp; omega) _, h.below.setCell (p := ⟨w.heap.size + 1, 2, none⟩) (by simp) _, h.sep⟩
theorem Sb.setX {w w' : World} {nk : Nat} {k t v x : Int} {s : Nat × Nat × Nat} (h : Sb w w' nk k t v x s) (u : Int) : Sb w (w'.setCell ⟨w.heap.size + 1, 3, none⟩ (.int .i64 u)) nk k t v u s :=
  ⟨h.r.other (a := ⟨w.heap.size + 1, 3, none⟩) (by simp) _, h.q.set 3 _, h.n.other (a := ⟨w.heap.size + 1, 3, none⟩) (by have := h.sep; simp; omega) _, h.below.setCell (p := ⟨w.heap.size + 1, 3, none⟩) (by simp) _, h.sep⟩
theorem Sb.setN {w w' : World} {nk : Nat} {k t v x : Int} {s : Nat × Nat × Nat} (h : Sb w w' nk k t v x s) (n i e : Nat) : Sb w (((w'.setCell ⟨nk, 0, none⟩ (.int .u64 (n : Int))).setCell ⟨nk, 1, none⟩ (.int .i64 (i : Int))).setCell ⟨nk, 2, none⟩ (.int .i64 (e : Int))) nk k t v x (n, i, e) :=
  have hs := h.sep
  ⟨((h.r.other (a := ⟨nk, 0, none⟩) (by simp; omega) _).other (a := ⟨nk, 1, none⟩) (by simp; omega) _).other (a := ⟨nk, 2, none⟩) (by simp; omega) _,
   ((h.q.other (a := ⟨nk, 0, none⟩) (by simp; omega) _).other (a := ⟨nk, 1, none⟩) (by simp; omega) _).other (a := ⟨nk, 2, none⟩) (by simp; omega) _,
   ((h.n.set 0 _).set 1 _).set 2 _, ((h.below.setCell (p := ⟨nk, 0, none⟩) (by simp; omega) _).setCell (p := ⟨nk, 1, none⟩) (by simp; omega) _).setCell (p := ⟨nk, 2, none⟩) (by simp; omega) _, h.sep⟩
/-- what body answers: at a fault -/
def BadR (w : World) (at_ er : Nat) (e : Ending) (w' : World) : Prop := e = .returned (.agg #[.slice none 0 0, .int .i64 (at_ : Int), .int .i64 (er : Int)]) ∧ Below w.heap.size w w'
set_option maxRecDepth 100000 in
set_option maxHeartbeats 1000000 in
theorem rbody_kind (B : Nat) (a ha : Option Addr) (c hc : Nat) (L : List Nat) (i en k hn : Nat) (w : World) (hB : Bin B w a c L) (hBw : B ≤ w.heap.size) (hen : en ≤ L.length) (hi : i < en) (hk : L[i]'(by omega) = k) (h10 : 10 ≤ k) :
    Calls Tryd.prog 15 #[.slice a L.length c, .int .i64 i, .int .i64 en, .slice ha hn hc] w (BadR w i 2) := by
  obtain ⟨b, o, rfl, hbB, hcell⟩ := hB.read (by omega)
  have hcl := hcell i _ (bs_at (by omega))
  rw [hk] at hcl
  have h256 : k < 256 := by rw [← hk]; exact hB.byte _ (List.getElem_mem _)
  have hR := At.new w #[.slice none 0 0, .int .i64 0, .int .i64 0] 28
  have hRF := (hR.alloc (.cells #[.int .i64 (k : Int), .int .i64 0, .int .i64 0, .int .i64 0] 44))
  have hQ := two_at w #[.slice none 0 0, .int .i64 0, .int .i64 0] #[.int .i64 (k : Int), .int .i64 0, .int .i64 0, .int .i64 0] 28 44
  have HB2 := Lib.hid (two_below w #[.slice none 0 0, .int .i64 0, .int .i64 0] #[.int .i64 (k : Int), .int .i64 0, .int .i64 0, .int .i64 0] 28 44)
  have hcl2 := ((Below.refl w.heap.size w).alloc (Nat.le_refl _) (.cells #[.slice none 0 0, .int .i64 0, .int .i64 0] 28)).cell (p := ⟨b, o + i, none⟩) (Nat.lt_of_lt_of_le hbB hBw)
  rw [hcl] at hcl2
  have q0 := hQ.cell (i := 0) (v := .int .i64 (k : Int)) rfl
  have r0 := hRF.cell (i := 0) (v := .slice none 0 0) rfl
  have r1 := hRF.cell (i := 1) (v := .int .i64 0) rfl
  have r2 := hRF.cell (i := 2) (v := .int .i64 0) rfl
  have f0 := hRF.free 0
  have f1 := hRF.free 1
  have f2 := hRF.free 2
  have HF := Lib.hid (((hRF.set 0 (.slice none 0 0)).set 1 (.int .i64 (i : Int))).set 2 (.int .i64 2))
  have hi0 : (0 : Int) ≤ (i : Int) := by omega
  have hi1 : (i : Int) < (L.length : Int) := by omega
  have hw : IntKind.i64.wrap (k : Int) = (k : Int) := IntWalk.i64_in _ (by omega)
  have hk9 : 9 < k := by omega
  clear hR hRF hQ hcell hk hB
  go_enter Tryd.func15, Tryd.ntmps15
  go_wp2_with fail
  have HG := (At.new w #[.slice none 0 0, .int .i64 (i : Int), .int .i64 2] 28).alloc (.cells #[.int .i64 (k : Int), .int .i64 0, .int .i64 0, .int .i64 0] 44)
  have e0 := HG.cell (i := 0) (v := .slice none 0 0) rfl
  have e1 := HG.cell (i := 1) (v := .int .i64 (i : Int)) rfl
  have e2 := HG.cell (i := 2) (v := .int .i64 2) rfl
  have HB3 := two_below w #[.slice none 0 0, .int .i64 (i : Int), .int .i64 2] #[.int .i64 (k : Int), .int .i64 0, .int .i64 0, .int .i64 0] 28 44
  exact bodyPost_ret (v := .agg #[.slice none 0 0, .int .i64 i, .int .i64 2]) (by simp [results, Tryd.results15, go_sem, e0, e1, e2]) rfl ⟨rfl, HB3⟩
end Go.Proofs.YtgdijlmfpboecaaDoor
