/- The walks of package order's pairs and After: a loop over a function. -/
import Derived.Test.YtmnblljenobofaaGreatDoorMg11
import Derived.RangeFuncBox
import Derived.RangeFuncLeaves
import Derived.Shelf.Abstract
import Derived.WalkKit
import Derived.OwnWalkIn
import Derived.TacticsInMore
import Derived.LoopNIn
import Derived.LoopIn
import Derived.Deep.OwnRows
namespace Go.Proofs.YtmnblljenobofaaGreatDoor.WPlain
end Go.Proofs.YtmnblljenobofaaGreatDoor.WPlain
namespace Go.Proofs.YtmnblljenobofaaGreatDoor.QPlain
end Go.Proofs.YtmnblljenobofaaGreatDoor.QPlain
namespace Go.Proofs.YtmnblljenobofaaGreatDoor.RPlain
end Go.Proofs.YtmnblljenobofaaGreatDoor.RPlain
namespace Go.Proofs.YtmnblljenobofaaGreatDoor
open Go.RowKit Go.Shelf WPlain QPlain RPlain

attribute [local go_sem] Oper.semAt_some

abbrev encP {n : Nat} (p : Fin n × Fin n) : Array Value := #[.int .i64 (p.1.val : Int), .int .i64 (p.2.val : Int)]
/-- a round keeps what stands in a box -/
def KpC (b : Nat) (W W' : World) : Prop := ∀ v, W.cell? ⟨b, 0, none⟩ = some v → W'.cell? ⟨b, 0, none⟩ = some v

set_option maxRecDepth 100000 in
set_option maxHeartbeats 1000000 in
theorem pairs1_in (F : Fence) (m : Nat) (hf : F.fn 110) (hro : F.round = none) (hm : 1 ≤ m) (l Bn n : Nat) (hn : n ≤ 65536) (J Jx : List (Fin n × Fin n) → World → Prop)
    (hY : ∀ pre (x : Fin n × Fin n) W, J pre W → pre.length < n * n → YieldAt F (m - 1) Tryz.prog l (encP x) W fun e W' =>
      (e = .returned (.bool true) ∧ J (pre ++ [x]) W' ∧ KpC Bn W W') ∨ (e = .returned (.bool false) ∧ Jx (pre ++ [x]) W'))
    (W : World) (hBn : W.cell? ⟨Bn, 0, none⟩ = some (.int .i64 (n : Int))) (h0 : J [] W) :
    CallsIn F m Tryz.prog 110 #[.func (.yield l) #[] #[], .pointer (some ⟨Bn, 0, none⟩)] W fun e W' => (∃ v, e = .returned v) ∧
      ((∃ ys, ys = pairsF n ∧ J ys W') ∨ (∃ pre, True ∧ Jx pre W')) := by
  refine callsIn_of_wp Tryz.func110 rfl hf ?_ hro
  simp only [Tryz.ntmps110, List.size_toArray, List.length_cons, List.length_nil, Nat.reduceAdd, Nat.reduceSub, Array.replicate_succ, Array.replicate_zero, List.push_toArray, List.append_toArray, List.nil_append, List.cons_append]
  gi_wp2
  have HB := Lib.hid hBn
  clear hBn
  gi_loopw [6] (fun p wr => ∃ i : Nat, i ≤ n ∧ p = .int .i64 (i : Int) ∧ Hid (wr.cell? ⟨Bn, 0, none⟩ = some (.int .i64 (n : Int))) ∧ J (preF n i) wr)
    (fun p _ => n - (intOf p).toNat)
  case atStart => exact ⟨0, by omega, rfl, HB, h0⟩
  case round =>
    clear HB h0
    obtain ⟨i, hi, rfl, hc, hJi⟩ := hrel
    by_cases hlt : i < n
    · obtain ⟨W1, hW1⟩ : ∃ W1 : World, W1 = wr := ⟨wr, rfl⟩
      subst hW1
      have hcb := hc.out
      gi_wp2
      gi_loopw [10] (fun q wr => ∃ k : Nat, k ≤ n ∧ q = .int .i64 (k : Int) ∧ Hid (wr.cell? ⟨Bn, 0, none⟩ = some (.int .i64 (n : Int))) ∧ J (midF n i k hlt) wr)
        (fun q _ => n - (intOf q).toNat)
      case atStart => exact ⟨0, by omega, rfl, hc, by rw [midF_zero]; exact hJi⟩
      case round =>
        clear hc hcb hJi
        obtain ⟨k, hk, rfl, hc, hJk⟩ := hrel
        by_cases hlk : k < n
        · obtain ⟨fn, tmps, assign, body, hy, hR⟩ := hY (midF n i k hlt) (⟨i, hlt⟩, ⟨k, hlk⟩) wr hJk (midF_len hlt hlk)
          dsimp only [encP] at hy
          gi_wp2
          refine hR.mono ?_
          rintro e W3 (⟨rfl, hJ3, hk3⟩ | ⟨rfl, hJx3⟩)
          · have hc3 := Lib.hid (hk3 _ hc.out)
            rw [← midF_snoc] at hJ3
            clear hk3 hR hJk
            gi_wp2
            go_roundw
            case rel => exact ⟨k + 1, by omega, by go_num, hc3, hJ3⟩
            case measure => simp [intOf]; omega
          · gi_wp2
            refine bodyPost_ret (results_none rfl _ _ _) rfl ?_
            exact ⟨⟨_, rfl⟩, .inr ⟨_, trivial, hJx3⟩⟩
        · obtain rfl : k = n := by omega
          rw [midF_all] at hJk
          gi_wp2
          go_roundw
          case rel => exact ⟨i + 1, by omega, by go_num, hc, hJk⟩
          case measure => simp [intOf]; omega
    · obtain rfl : i = n := by omega
      rw [preF_all] at hJi
      gi_wp2
      go_end0
      exact ⟨⟨_, rfl⟩, .inl ⟨_, rfl, hJi⟩⟩
theorem pairs_in (F : Fence) (m : Nat) (hf : F.fn 81) (hro : F.round = none) (x : Int) (w : World) :
    CallsIn F m Tryz.prog 81 #[.int .i64 x] w fun e w' => e = .returned (.func (.func 110) #[] #[.pointer (some ⟨w.heap.size, 0, none⟩)]) ∧ w' = w.alloc (.cells #[.int .i64 x] 3) := by
  refine callsIn_of_wp Tryz.func81 rfl hf ?_ hro
  simp only [Tryz.ntmps81, List.size_toArray, List.length_cons, List.length_nil, Nat.reduceAdd, Nat.reduceSub, Array.replicate_succ, Array.replicate_zero, List.push_toArray, List.append_toArray, List.nil_append, List.cons_append]
  gi_wp2
  go_ret
  exact ⟨rfl, rfl⟩
theorem pairs_stops (F : Fence) (m : Nat) (hf : F.fn 110) (hro : F.round = none) (hm : 1 ≤ m) (Bn n : Nat) (hn : n ≤ 65536) (w : World) (hBn : Bn < w.heap.size) (hc : w.cell? ⟨Bn, 0, none⟩ = some (.int .i64 (n : Int))) :
    SeqStopsK F m Tryz.prog 110 #[.pointer (some ⟨Bn, 0, none⟩)] (encP (n := n)) (KpC Bn) (fun ys => ys = pairsF n) (fun _ => True) (n * n) w := fun l J Jx W hW _ _ hY h0 =>
  pairs1_in F m hf hro hm l Bn n hn J Jx hY W ((hW.cell (p := ⟨Bn, 0, none⟩) hBn).trans hc) h0

theorem infoU : (Tryz.prog.info? 23).map (fun i => (i.zero, i.size, i.bytes)) = some (some (.int .u32 0), 1, 4) := by kernel_rfl
def u32s (L : List Nat) : List Value := L.map fun (x : Nat) => Value.int .u32 (x : Int)
/-- what is gathered so far -/
def accL (l : List Tx) {n : Nat} (pre : List (Fin n × Fin n)) : List Nat := (List.range n).map fun i => accF (bfrAt l) i pre
theorem accL_get (l : List Tx) {n : Nat} (pre : List (Fin n × Fin n)) {i : Nat} (hi : i < n) : (u32s (accL l pre)).toArray[i]? = some (.int .u32 (accF (bfrAt l) i pre : Nat)) := by
  simp [u32s, accL, hi]
theorem accL_start (l : List Tx) (n : Nat) : madeCells #[.int .u32 0] n = (u32s (accL l (n := n) [])).toArray := by
  have h1 : u32s (accL l (n := n) []) = List.replicate n (.int .u32 0) := by
    refine List.ext_getElem (by simp [u32s, accL]) fun i h1 h2 => ?_
    simp [u32s, accL, accF]
  rw [h1]
  apply Array.ext'
  refine List.ext_getElem (by simp [madeCells]) fun i h1 h2 => ?_
  simp [madeCells, Nat.mod_one]
theorem accL_all {l : List Tx} {n : Nat} (hn : l.length = n) : accL l (pairsF n) = afterS l := by
  subst hn
  refine List.ext_getElem (by simp [accL, afterS]) fun i h1 h2 => ?_
  have hi : i < l.length := by simpa [accL] using h1
  simp only [accL, afterS, List.getElem_map, List.getElem_range]
  exact accF_after l hi
theorem accL_skip {l : List Tx} {n : Nat} (pre : List (Fin n × Fin n)) (x : Fin n × Fin n) (hb : bfrAt l x.1.val x.2.val = false) : accL l (pre ++ [x]) = accL l pre := by
  unfold accL
  refine List.map_congr_left fun i _ => ?_
  rw [accF_snoc, if_neg (by rw [hb]; simp)]
theorem accL_set {l : List Tx} {n : Nat} (pre : List (Fin n × Fin n)) (x : Fin n × Fin n) (hb : bfrAt l x.1.val x.2.val = true) :
    (u32s (accL l pre)).toArray.setIfInBounds x.1.val (.int .u32 ((accF (bfrAt l) x.1.val pre ||| 2 ^ x.2.val : Nat) : Int)) = (u32s (accL l (pre ++ [x]))).toArray := by
  apply Array.ext'
  rw [Array.toList_setIfInBounds]
  refine List.ext_getElem (by simp [u32s, accL]) fun i h1 h2 => ?_
  have hi : i < n := by simpa [u32s, accL] using h2
  rw [List.getElem_set]
  simp only [u32s, accL, List.getElem_map, List.getElem_range]
  rw [accF_snoc]
  by_cases hx : x.1.val = i
  · rw [if_pos hx, if_pos ⟨hx, hb⟩, hx]
  · rw [if_neg hx, if_neg (fun hc => hx hc.1)]
theorem bfrAt_get {l : List Tx} {i k : Nat} (hi : i < l.length) (hk : k < l.length) : bfrAt l i k = bfr l[i] l[k] := by
  unfold bfrAt
  rw [List.getElem?_eq_getElem hi, List.getElem?_eq_getElem hk]
theorem Rd.of_at {w : World} {b : Nat} {L : List Value} {t : TypeId} (c : Nat) (h : At w b L.toArray t) : Rd w (.slice (some ⟨b, 0, none⟩) L.length c) L := by
  by_cases h0 : 0 < L.length
  · refine .inr ⟨h0, b, 0, c, rfl, fun j u hu => ?_⟩
    rw [Nat.zero_add]
    exact h.cell (by simpa using hu)
  · have : L = [] := List.length_eq_zero_iff.1 (by omega)
    subst this
    exact .inl ⟨rfl, _, _, rfl⟩
/-- what holds between two rounds -/
def Aft (w1 : World) (a1 : Option Addr) (n c1 : Nat) (l : List Tx) (pre : List (Fin n × Fin n)) (W : World) : Prop :=
  At W w1.heap.size #[.slice a1 n c1] 34 ∧ At W (w1.heap.size + 1) (u32s (accL l pre)).toArray 23 ∧ At W (w1.heap.size + 1 + 1) #[.slice (some ⟨w1.heap.size + 1, 0, none⟩) n n] 41 ∧
    At W (w1.heap.size + 1 + 1 + 1) #[.int .i64 (n : Int)] 3 ∧ Below w1.heap.size w1 W
theorem At.ownK {X Y : World} {row : Option Nat} {b : Nat} {cs : Array Value} {t : TypeId} {B : Nat} (h : At X b cs t) (hg : X.grownBy Y row) (hr : ∀ r, row = some r → B ≤ r ∧ ∃ o : Obj, X.heap[r]? = some o ∧ o.isCells = false) : At Y b cs t :=
  h.grown hg (fun e => by obtain ⟨_, o, ho, hc⟩ := hr _ e.symm; rw [show X.heap[b]? = _ from h] at ho; cases ho; cases hc)
theorem Aft.own (w1 : World) (a1 : Option Addr) (n c1 : Nat) (l : List Tx) {B : Nat} (hB : w1.heap.size ≤ B) : OwnFrom B (Aft w1 a1 n c1 l) := fun _ _ _ _ hs hg hr =>
  ⟨hs.1.ownK hg hr, hs.2.1.ownK hg hr, hs.2.2.1.ownK hg hr, hs.2.2.2.1.ownK hg hr, hs.2.2.2.2.grown hg hs.2.2.2.2.size (fun k e => Nat.le_trans hB (hr k e).1)⟩
/-- what a round reads: the table's box, and two transactions -/
def LdS (N b o n c i k : Nat) (xn xf xl xs : Int) (xv : Value) (yn yf yl ys : Int) (yv : Value) (w' : World) : Prop :=
  w'.cell? ⟨N, 0, none⟩ = some (.slice (some ⟨b, o, none⟩) n c) ∧
    (w'.cell? ⟨b, o + i * 5, none⟩ = some (.int .i64 xn) ∧ w'.cell? ⟨b, o + i * 5 + 1, none⟩ = some (.int .i64 xf) ∧ w'.cell? ⟨b, o + i * 5 + 2, none⟩ = some (.int .i64 xl) ∧ w'.cell? ⟨b, o + i * 5 + 3, none⟩ = some (.int .i64 xs) ∧ w'.cell? ⟨b, o + i * 5 + 4, none⟩ = some xv) ∧
    (w'.cell? ⟨b, o + k * 5, none⟩ = some (.int .i64 yn) ∧ w'.cell? ⟨b, o + k * 5 + 1, none⟩ = some (.int .i64 yf) ∧ w'.cell? ⟨b, o + k * 5 + 2, none⟩ = some (.int .i64 yl) ∧ w'.cell? ⟨b, o + k * 5 + 3, none⟩ = some (.int .i64 ys) ∧ w'.cell? ⟨b, o + k * 5 + 4, none⟩ = some yv)
theorem cell_on {w w' : World} (hb : Below w.heap.size w w') {p : Addr} {v : Value} (h : w.cell? p = some v) : w'.cell? p = some v := (hb.cell (World.block_lt_of_cell? w _ h)).trans h
theorem LdS.later {N b o n c i k : Nat} {xn xf xl xs : Int} {xv : Value} {yn yf yl ys : Int} {yv : Value} {w w' : World} (h : LdS N b o n c i k xn xf xl xs xv yn yf yl ys yv w) (hb : Below w.heap.size w w') : LdS N b o n c i k xn xf xl xs xv yn yf yl ys yv w' := by
  obtain ⟨h0, ⟨a0, a1, a2, a3, a4⟩, ⟨b0, b1, b2, b3, b4⟩⟩ := h
  exact ⟨cell_on hb h0, ⟨cell_on hb a0, cell_on hb a1, cell_on hb a2, cell_on hb a3, cell_on hb a4⟩, ⟨cell_on hb b0, cell_on hb b1, cell_on hb b2, cell_on hb b3, cell_on hb b4⟩⟩
theorem Aft.later {w1 : World} {a1 : Option Addr} {n c1 : Nat} {l : List Tx} {pre : List (Fin n × Fin n)} {W W' : World} (h : Aft w1 a1 n c1 l pre W) (hb : Below W.heap.size W W') : Aft w1 a1 n c1 l pre W' :=
  ⟨h.1.below hb h.1.lt, h.2.1.below hb h.2.1.lt, h.2.2.1.below hb h.2.2.1.lt, h.2.2.2.1.below hb h.2.2.2.1.lt, h.2.2.2.2.trans (hb.mono h.2.2.2.2.size)⟩
theorem keeps_below {B : Nat} {W W' : World} (hb : Below W.heap.size W W') : KeepsFrom B W W' := ⟨hb.size, fun k _ _ hk _ => (hb.block k (Array.getElem?_eq_some_iff.1 hk).1).trans hk⟩
theorem kp_below {b : Nat} {W W' : World} (hb : Below W.heap.size W W') : KpC b W W' := fun _ hv => cell_on hb hv
theorem kp_stored {b : Nat} {W W' : World} (hb : Below W.heap.size W W') {p : Addr} (hp : p.block ≠ b) {u : Value} : KpC b W (W'.setCell p u).drew := fun v hv => by
  show (W'.setCell p u).cell? ⟨b, 0, none⟩ = some v
  rw [World.cell?_setCell_far _ _ _ _ hp]
  exact cell_on hb hv
theorem Aft.stored {w1 : World} {a1 : Option Addr} {n c1 : Nat} {l : List Tx} {pre pre' : List (Fin n × Fin n)} {W : World} (h : Aft w1 a1 n c1 l pre W) {i : Nat} {u : Value} (he : (u32s (accL l pre)).toArray.setIfInBounds i u = (u32s (accL l pre')).toArray) :
    Aft w1 a1 n c1 l pre' (W.setCell ⟨w1.heap.size + 1, i, none⟩ u).drew := by
  refine ⟨h.1.other (by dsimp only; omega) u, ?_, h.2.2.1.other (by dsimp only; omega) u, h.2.2.2.1.other (by dsimp only; omega) u, (h.2.2.2.2.setCell (p := ⟨w1.heap.size + 1, i, none⟩) (by simp) u).drew⟩
  rw [← he]
  exact h.2.1.set i u
set_option maxRecDepth 100000 in
set_option maxHeartbeats 4000000 in
theorem after_own (v : Value) (h : List Ev) (w : World) (hK : HasK w) (hv : Evs w v h) (hl : h.length ≤ 65536) (h0 : (checkS h).2 = 0) :
    Calls Tryz.prog 43 #[v] w fun e w' => ∃ M : Nat, e = .returned (.tuple #[.slice (some ⟨M, 0, none⟩) (tableS h).length (tableS h).length, .int .i64 0]) ∧ At w' M (u32s (afterS (tableS h))).toArray 23 ∧ w.heap.size ≤ M ∧ Below w.heap.size w w' := by
  have HT := Lib.hid (table_any v h w hK hv hl)
  rw [h0, if_pos rfl] at HT
  have hsix := table_six h0
  generalize tableS h = l at *
  obtain ⟨n, hn⟩ : ∃ n, l.length = n := ⟨_, rfl⟩
  rw [hn]
  have HN := Lib.hid hn
  have hmk := run_make_row' (P := Tryz.prog) 41 23 (.int .u32 0) 4 Tryz.underlying41 infoU rfl .i64 .i64 n (by omega) (by omega)
  clear h0 hv hK hl
  refine (callsIn_wide (n := 5)).1 ?_
  refine callsIn_of_wp_marks Tryz.func43 rfl trivial ?_ rfl
  simp only [Tryz.ntmps43, List.size_toArray, List.length_cons, List.length_nil, Nat.reduceAdd, Nat.reduceSub, Array.replicate_succ, Array.replicate_zero, List.push_toArray, List.append_toArray, List.nil_append, List.cons_append]
  gi_wp2_with (first | (refine ⟨trivial, ?_⟩; gi_at_call 76; refine (callsIn_wide.2 HT.out).mono ?_; clear HT; rintro e w1 ⟨v1, rfl, hv1, hb1⟩; obtain ⟨a1, c1, rfl⟩ := hv1.len; rw [hn] at hv1 ⊢) | (refine ⟨trivial, ?_⟩; gi_at_call 81; refine (pairs_in _ _ trivial rfl _ _).mono ?_; rintro e w' ⟨rfl, rfl⟩))
  have HV1 := Lib.hid hv1
  have HB1 := Lib.hid hb1
  have hI0 : Aft w1 a1 n c1 l [] ((((w1.alloc (.cells #[.slice a1 n c1] 34)).alloc (.cells (madeCells #[.int .u32 0] n) 23)).alloc (.cells #[.slice (some ⟨w1.heap.size + 1, 0, none⟩) n n] 41)).alloc (.cells #[.int .i64 (n : Int)] 3)) := by
    refine ⟨((((At.new w1 _ _).alloc _).alloc _).alloc _), ?_, ?_, ?_, ((((Below.refl w1.heap.size w1).alloc (Nat.le_refl _) _).alloc (by simp) _).alloc (by simp; omega) _).alloc (by simp; omega) _⟩
    · rw [accL_start l n]
      exact ((At.new (w1.alloc (.cells #[.slice a1 n c1] 34)) _ _).alloc _).alloc _ |> fun h => by simpa using h
    · have h := (At.new ((w1.alloc (.cells #[.slice a1 n c1] 34)).alloc (.cells (madeCells #[.int .u32 0] n) 23)) #[.slice (some ⟨w1.heap.size + 1, 0, none⟩) n n] 41).alloc (.cells #[.int .i64 (n : Int)] 3)
      simpa using h
    · have h := At.new (((w1.alloc (.cells #[.slice a1 n c1] 34)).alloc (.cells (madeCells #[.int .u32 0] n) 23)).alloc (.cells #[.slice (some ⟨w1.heap.size + 1, 0, none⟩) n n] 41)) #[.int .i64 (n : Int)] 3
      simpa using h
  have hsz : ((((w1.alloc (.cells #[.slice a1 n c1] 34)).alloc (.cells (madeCells #[.int .u32 0] n) 23)).alloc (.cells #[.slice (some ⟨w1.heap.size + 1, 0, none⟩) n n] 41)).alloc (.cells #[.int .i64 (n : Int)] 3)).heap.size = w1.heap.size + 4 := by simp
  generalize ((((w1.alloc (.cells #[.slice a1 n c1] 34)).alloc (.cells (madeCells #[.int .u32 0] n) 23)).alloc (.cells #[.slice (some ⟨w1.heap.size + 1, 0, none⟩) n n] 41)).alloc (.cells #[.int .i64 (n : Int)] 3)) = W0 at *
  refine wpIn_rangeFunc_ownG rfl (by decide) (gf := 110) (lb := #[.pointer (some ⟨w1.heap.size + 1 + 1 + 1, 0, none⟩)]) rfl trivial (enters_of Tryz.func110 (by kernel_rfl) rfl)
    (pairs_stops Fence.wide _ trivial rfl (by decide) (w1.heap.size + 1 + 1 + 1) n (by omega) W0 (by omega) (hI0.2.2.2.1.cell rfl)) (fun hx hy v hv => hy v (hx v hv))
    (fun W l o o' hl h h1 h2 v hv => ((belowK_b (Nat.le_refl _) W l o o' hl h h1 h2).cell (p := ⟨_, 0, none⟩) (by simp; omega)).trans hv) (Below.refl _ _) (fun _ => rfl)
    (Aft w1 a1 n c1 l) (fun _ _ _ => False) (Aft.own w1 a1 n c1 l (by omega)) (fun _ _ _ _ _ hs _ _ => hs) hI0
    (fun x => { tmps := #[v, undef, .slice none 0 0, .int .i64 0, .pointer (some ⟨w1.heap.size, 0, none⟩), .int .i64 0, .pointer (some ⟨w1.heap.size + 1 + 1, 0, none⟩), .int .i64 (x.1.val : Int), .int .i64 (x.2.val : Int), .tuple #[.slice a1 n c1, .int .i64 0], v, .tuple #[.slice a1 n c1, .int .i64 0], .slice a1 n c1, .int .i64 0, .int .i64 0, .bool false, undef, .slice a1 n c1, .int .i64 n, .slice (some ⟨w1.heap.size + 1, 0, none⟩) n n, .slice a1 n c1, .int .i64 n, .func (.func 110) #[] #[.pointer (some ⟨w1.heap.size + 1 + 1 + 1, 0, none⟩)], .int .i64 (x.1.val : Int), .int .i64 (x.2.val : Int), undef, undef, undef, undef, undef, undef, undef, undef, undef, undef, undef, undef, undef, undef, undef, undef, undef, undef], defers := [] }) ?assign ?body ?done ?stop
  case assign =>
    intro l c W K hK
    gi_wp2
    exact hK
  case body =>
    rintro l' pre ⟨⟨i, hin⟩, ⟨k, hkn⟩⟩ W ⟨g1, g2, g3, g4, g5⟩ hlt
    dsimp only
    gi_wp2
    have hT := HV1.out.below g5 (Nat.le_refl _)
    have hi : i < l.length := by omega
    have hk : k < l.length := by omega
    have hbx := bfrAt_get hi hk
    obtain ⟨b, o, c', he⟩ := hT.opened (by omega)
    simp only [Value.slice.injEq] at he
    obtain ⟨rfl, -, rfl⟩ := he
    obtain ⟨u, x0, x1, x2, x3, x4, q⟩ := hT.get i hi
    obtain ⟨u', y0, y1, y2, y3, y4, q'⟩ := hT.get k hk
    obtain ⟨ua, uc, rfl, -⟩ := q.len
    obtain ⟨va, vc, rfl, -⟩ := q'.len
    have hcx := g1.cell (i := 0) rfl
    generalize l[i] = X at *
    generalize l[k] = Y at *
    refine region_round (LdS w1.heap.size b o n c1 i k X.n X.f X.l X.s (.slice ua X.o.length uc) Y.n Y.f Y.l Y.s (.slice va Y.o.length vc)) (by kernel_rfl) (by kernel_rfl) (by rintro ⟨_, _, hh⟩; exact hh) ?_
    have hS : LdS w1.heap.size b o n c1 i k X.n X.f X.l X.s (.slice ua X.o.length uc) Y.n Y.f Y.l Y.s (.slice va Y.o.length vc) W.drew := ⟨hcx, ⟨x0, x1, x2, x3, x4⟩, ⟨y0, y1, y2, y3, y4⟩⟩
    have hbw := isBefore_any X Y ua va X.o.length Y.o.length uc vc W.drew
    refine wpAnyH_take (i := 0) (v := .slice (some ⟨b, o, none⟩) n c1) rfl (by kernel_rfl) (by kernel_rfl) (by kernel_rfl) (fun _ _ _ h => h) (Or.inl ⟨by rfl, fun w' hw' => by obtain ⟨z, -, -⟩ := hw'; go_simp⟩) hS ?_
    simp only [Act.put, List.setIfInBounds_toArray]
    refine wpAnyH_take (i := 1) (v := .int .i64 (i : Int)) rfl (by kernel_rfl) (by kernel_rfl) (by kernel_rfl) (fun _ _ _ h => h) (Or.inl ⟨by rfl, fun w' hw' => by go_simp⟩) hS ?_
    simp only [Act.put]
    refine wpAnyH_take (i := 2) (v := .pointer (some ⟨b, o + i * 5, none⟩)) rfl (by kernel_rfl) (by kernel_rfl) (by kernel_rfl) (fun _ _ _ h => h) (Or.inl ⟨by rfl, fun w' hw' => by go_simp⟩) hS ?_
    simp only [Act.put]
    refine wpAnyH_take (i := 3) (v := .agg #[.int .i64 X.n, .int .i64 X.f, .int .i64 X.l, .int .i64 X.s, .slice ua X.o.length uc]) rfl (by kernel_rfl) (by kernel_rfl) (by kernel_rfl) (fun _ _ _ h => h) (Or.inl ⟨by rfl, fun w' hw' => by obtain ⟨-, ⟨z0, z1, z2, z3, z4⟩, -⟩ := hw'; go_simp⟩) hS ?_
    simp only [Act.put]
    refine wpAnyH_take (i := 4) (v := .slice (some ⟨b, o, none⟩) n c1) rfl (by kernel_rfl) (by kernel_rfl) (by kernel_rfl) (fun _ _ _ h => h) (Or.inl ⟨by rfl, fun w' hw' => by obtain ⟨z, -, -⟩ := hw'; go_simp⟩) hS ?_
    simp only [Act.put]
    refine wpAnyH_take (i := 5) (v := .int .i64 (k : Int)) rfl (by kernel_rfl) (by kernel_rfl) (by kernel_rfl) (fun _ _ _ h => h) (Or.inl ⟨by rfl, fun w' hw' => by go_simp⟩) hS ?_
    simp only [Act.put]
    refine wpAnyH_take (i := 6) (v := .pointer (some ⟨b, o + k * 5, none⟩)) rfl (by kernel_rfl) (by kernel_rfl) (by kernel_rfl) (fun _ _ _ h => h) (Or.inl ⟨by rfl, fun w' hw' => by go_simp⟩) hS ?_
    simp only [Act.put]
    refine wpAnyH_take (i := 7) (v := .agg #[.int .i64 Y.n, .int .i64 Y.f, .int .i64 Y.l, .int .i64 Y.s, .slice va Y.o.length vc]) rfl (by kernel_rfl) (by kernel_rfl) (by kernel_rfl) (fun _ _ _ h => h) (Or.inl ⟨by rfl, fun w' hw' => by obtain ⟨-, -, ⟨z0, z1, z2, z3, z4⟩⟩ := hw'; go_simp⟩) hS ?_
    simp only [Act.put]
    refine wpAnyH_ready (rs := [8]) (by kernel_rfl) (by simp) (AllReadyH.cons rfl (fun K hK => ?_) AllReadyH.nil)
    go_simp
    refine hbw.mono ?_
    rintro e w2 ⟨rfl, hb2⟩
    refine hK.out _ _ (hS.later hb2) (fun _ => wpAnyH_done (by kernel_rfl) ?_ _)
    clear hbw hS hK
    have HBW : Hid (Below W.heap.size W w2) := ((Below.refl W.heap.size W).drew).trans hb2
    have HG := Lib.hid (Aft.later (l := l) (pre := pre) (W := W) (W' := w2) ⟨g1, g2, g3, g4, g5⟩ HBW.out)
    clear g1 g2 g3 g4 hb2 x0 x1 x2 x3 x4 y0 y1 y2 y3 y4 q q' hT hcx
    cases hbf : bfr X Y with
    | false =>
      rw [hbf] at hbx
      gi_wp2
      refine ⟨keeps_below HBW.out, kp_below HBW.out, ?_⟩
      unfold Aft
      rw [accL_skip pre (⟨i, hin⟩, ⟨k, hkn⟩) hbx]
      exact HG.out
    | true =>
      rw [hbf] at hbx
      have hcb := HG.out.2.2.1.cell (i := 0) rfl
      have hca := HG.out.2.1.cell (accL_get l pre hin)
      have hkb := bit_any k (by omega)
      have hlt2 : accF (bfrAt l) i pre < 4294967296 := Nat.lt_of_lt_of_le (accF_lt (bfrAt l) i pre) (Nat.pow_le_pow_right (n := 2) (i := n) (j := 32) (by decide) (by omega))
      have hlt3 : 2 ^ k < 4294967296 := Nat.pow_lt_pow_right (a := 2) (m := k) (n := 32) (by decide) (by omega)
      have hor := u32_or_nat _ _ hlt2 hlt3
      have hfin := accL_set pre (⟨i, hin⟩, ⟨k, hkn⟩) hbx
      dsimp only at hfin
      obtain ⟨pw, hpw⟩ : ∃ pw, 2 ^ k = pw := ⟨_, rfl⟩
      rw [hpw] at hkb hlt3 hor hfin
      have HFIN := Lib.hid hfin
      clear hpw hfin hbx
      gi_wp2
      refine region_round (fun w' => w'.cell? ⟨w1.heap.size + 1 + 1, 0, none⟩ = some (.slice (some ⟨w1.heap.size + 1, 0, none⟩) n n)) (by kernel_rfl) (by kernel_rfl) (by rintro ⟨_, _, hh⟩; exact hh) ?_
      have hS : w2.drew.cell? ⟨w1.heap.size + 1 + 1, 0, none⟩ = some (.slice (some ⟨w1.heap.size + 1, 0, none⟩) n n) := hcb
      have hca2 : w2.drew.cell? ⟨w1.heap.size + 1, i, none⟩ = some (.int .u32 (accF (bfrAt l) i pre : Nat)) := hca
      have hst : w2.drew.frozen? ⟨w1.heap.size + 1, i, none⟩ = false := HG.out.2.1.free i
      have HSS : Hid (((w2.drew.setCell ⟨w1.heap.size + 1, i, none⟩ (.int .u32 ((accF (bfrAt l) i pre ||| pw : Nat) : Int))).cell? ⟨w1.heap.size + 1 + 1, 0, none⟩ = some (.slice (some ⟨w1.heap.size + 1, 0, none⟩) n n))) := by
        unfold Hid
        rw [World.cell?_setCell_far _ _ _ _ (by simp)]
        exact hcb
      generalize accF (bfrAt l) i pre = ac at *
      refine wpAnyH_take (i := 0) (v := .slice (some ⟨w1.heap.size + 1, 0, none⟩) n n) rfl (by kernel_rfl) (by kernel_rfl) (by kernel_rfl) (fun _ _ _ h => h) (Or.inl ⟨by rfl, fun w' hw' => by go_simp⟩) hS ?_
      simp only [Act.put, List.setIfInBounds_toArray]
      refine wpAnyH_take (i := 1) (v := .int .i64 (i : Int)) rfl (by kernel_rfl) (by kernel_rfl) (by kernel_rfl) (fun _ _ _ h => h) (Or.inl ⟨by rfl, fun w' hw' => by go_simp⟩) hS ?_
      simp only [Act.put]
      refine wpAnyH_take (i := 2) (v := .pointer (some ⟨w1.heap.size + 1, i, none⟩)) rfl (by kernel_rfl) (by kernel_rfl) (by kernel_rfl) (fun _ _ _ h => h) (Or.inl ⟨by rfl, fun w' hw' => by go_simp⟩) hS ?_
      simp only [Act.put]
      refine wpAnyH_take (i := 4) (v := .int .i64 (k : Int)) rfl (by kernel_rfl) (by kernel_rfl) (by kernel_rfl) (fun _ _ _ h => h) (Or.inl ⟨by rfl, fun w' hw' => by go_simp⟩) hS ?_
      simp only [Act.put]
      refine wpAnyH_ready (rs := [3, 5]) (by kernel_rfl) (by simp) (AllReadyH.cons rfl (fun K hK => ?_) (AllReadyH.cons rfl (fun K hK => ?_) AllReadyH.nil))
      · go_simp
        refine hK.out _ _ hS (fun _ => ?_)
        clear hK K
        refine wpAnyH_ready (rs := [5]) (by kernel_rfl) (by simp) (AllReadyH.cons rfl (fun K hK => ?_) AllReadyH.nil)
        go_simp
        refine (hkb _).mono ?_
        rintro e w3 ⟨rfl, rfl⟩
        refine hK.out _ _ hS (fun _ => ?_)
        clear hK K
        refine wpAnyH_take (i := 6) (v := .int .u32 ((ac ||| pw : Nat) : Int)) rfl (by kernel_rfl) (by kernel_rfl) (by kernel_rfl) (fun _ _ _ h => h) (Or.inl ⟨by rfl, fun w' hw' => by go_simp⟩) hS ?_
        simp only [Act.put]
        refine wpAnyH_take (i := 7) (v := .pointer (some ⟨w1.heap.size + 1, i, none⟩)) rfl (by kernel_rfl) (by kernel_rfl) (by kernel_rfl) (fun _ _ _ h => h) (Or.inl ⟨by rfl, fun w' hw' => by go_simp⟩) hS ?_
        simp only [Act.put]
        refine wpAnyH_ready (rs := [8]) (by kernel_rfl) (by simp) (AllReadyH.cons rfl (fun K hK => ?_) AllReadyH.nil)
        go_simp
        refine hK.out _ _ HSS.out (fun _ => wpAnyH_done (by kernel_rfl) ?_ _)
        clear hK K
        gi_wp2
        exact ⟨(keeps_below HBW.out).trans (((KeepsOthers.setCell _ _ _).from _).trans ((KeepsOthers.drew _).from _)), kp_stored HBW.out (by simp), HG.out.stored HFIN.out⟩
      · go_simp
        refine (hkb _).mono ?_
        rintro e w3 ⟨rfl, rfl⟩
        refine hK.out _ _ hS (fun _ => ?_)
        clear hK K
        refine wpAnyH_ready (rs := [3]) (by kernel_rfl) (by simp) (AllReadyH.cons rfl (fun K hK => ?_) AllReadyH.nil)
        go_simp
        refine hK.out _ _ hS (fun _ => ?_)
        clear hK K
        refine wpAnyH_take (i := 6) (v := .int .u32 ((ac ||| pw : Nat) : Int)) rfl (by kernel_rfl) (by kernel_rfl) (by kernel_rfl) (fun _ _ _ h => h) (Or.inl ⟨by rfl, fun w' hw' => by go_simp⟩) hS ?_
        simp only [Act.put]
        refine wpAnyH_take (i := 7) (v := .pointer (some ⟨w1.heap.size + 1, i, none⟩)) rfl (by kernel_rfl) (by kernel_rfl) (by kernel_rfl) (fun _ _ _ h => h) (Or.inl ⟨by rfl, fun w' hw' => by go_simp⟩) hS ?_
        simp only [Act.put]
        refine wpAnyH_ready (rs := [8]) (by kernel_rfl) (by simp) (AllReadyH.cons rfl (fun K hK => ?_) AllReadyH.nil)
        go_simp
        refine hK.out _ _ HSS.out (fun _ => wpAnyH_done (by kernel_rfl) ?_ _)
        clear hK K
        gi_wp2
        exact ⟨(keeps_below HBW.out).trans (((KeepsOthers.setCell _ _ _).from _).trans ((KeepsOthers.drew _).from _)), kp_stored HBW.out (by simp), HG.out.stored HFIN.out⟩
  case done =>
    rintro D ys W hD rfl ⟨g1, g2, g3, g4, g5⟩ hK
    have hc := g3.cell (i := 0) rfl
    gi_wp2
    refine ⟨by simp, .inl ⟨_, _, rfl, run_takeDeferred hK, ?_⟩⟩
    refine ⟨.tuple #[.slice (some ⟨w1.heap.size + 1, 0, none⟩) n n, .int .i64 0], by simp [results, Tryz.results43, go_sem], _, rfl, ?_, ?_, ?_⟩
    · rw [accL_all hn] at g2
      exact At.ownK g2 (grownBy_putObj' W D (.deferred none)) (fun r e => by cases e; exact ⟨hD, _, hK, rfl⟩)
    · have := HB1.out.size
      omega
    · exact (HB1.out.trans (g5.mono HB1.out.size)).trans (belowK_b (w := w) (Nat.le_refl _) W D _ _ (by have := HB1.out.size; omega) hK rfl rfl)
  case stop =>
    rintro D c pre W _ _ h _
    exact h.elim
theorem after_ok (v : Value) (h : List Ev) (w : World) (hK : HasK w) (hv : Evs w v h) (hl : h.length ≤ 65536) (h0 : (checkS h).2 = 0) :
    Calls Tryz.prog 43 #[v] w fun e w' => ∃ v', e = .returned (.tuple #[v', .int .i64 0]) ∧ Rd w' v' (u32s (afterS (tableS h))) ∧ Below w.heap.size w w' := by
  refine (after_own v h w hK hv hl h0).mono ?_
  rintro e w' ⟨M, rfl, hA, -, hb⟩
  have hr := Rd.of_at (tableS h).length hA
  rw [show (u32s (afterS (tableS h))).length = (tableS h).length from by simp [u32s, afterS]] at hr
  exact ⟨_, rfl, hr, hb⟩
set_option maxRecDepth 100000 in
theorem after_any (v : Value) (h : List Ev) (w : World) (hK : HasK w) (hv : Evs w v h) (hl : h.length ≤ 65536) :
    Calls Tryz.prog 43 #[v] w fun e w' => ∃ v', e = .returned (.tuple #[v', .int .i64 ((checkS h).2 : Nat)]) ∧ Rd w' v' (if (checkS h).2 = 0 then u32s (afterS (tableS h)) else []) ∧ Below w.heap.size w w' := by
  by_cases h0 : (checkS h).2 = 0
  · rw [if_pos h0]
    refine (after_ok v h w hK hv hl h0).mono ?_
    rintro e w' ⟨v', rfl, hr⟩
    exact ⟨v', by rw [h0]; rfl, hr⟩
  · have HT := Lib.hid (table_any v h w hK hv hl)
    rw [if_neg h0] at HT ⊢
    obtain ⟨er, her⟩ : ∃ er, (checkS h).2 = er := ⟨_, rfl⟩
    rw [her] at HT h0 ⊢
    have te : ((er : Int) != 0) = true := by simp; omega
    clear her h0 hK hv hl
    go_enter Tryz.func43, Tryz.ntmps43
    go_wp2_with fail
    refine HT.out.mono ?_
    rintro e w1 ⟨v1, rfl, hv1, hb1⟩
    obtain ⟨a1, c1, rfl⟩ := hv1.len
    go_wp2
    refine bodyPost_ret (v := .tuple #[.slice none 0 0, .int .i64 er]) (by simp [results, Tryz.results43, go_sem]) rfl ⟨_, rfl, .inl ⟨rfl, _, _, rfl⟩, hb1.alloc hb1.size _⟩
end Go.Proofs.YtmnblljenobofaaGreatDoor
