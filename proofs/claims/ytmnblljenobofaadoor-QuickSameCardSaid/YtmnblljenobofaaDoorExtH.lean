/- The walks of package extend's rowsFrom, and of the iterator that it makes: it ranges over iterators of its own kind. -/
import Derived.Test.YtmnblljenobofaaDoorMg18
import Derived.Shelf.Abstract
import Derived.WalkKit
import Derived.OwnWalkIn
import Derived.TacticsInMore
import Derived.LoopNIn
import Derived.LoopIn
import Derived.RangeFuncLeaves
import Derived.Deep.RegionHeld
namespace Go.Proofs.YtmnblljenobofaaDoor.RPlain
end Go.Proofs.YtmnblljenobofaaDoor.RPlain
namespace Go.Proofs.YtmnblljenobofaaDoor
open Go.RowKit Go.Shelf RPlain

attribute [local go_sem] Oper.semAt_some

/-- the mark of a loop over a function among the deferred calls -/
def markD (D : Nat) : Deferred := { target := .collected D, args := #[] }
/-- at a function's return each mark's block is shut, one by one -/
theorem leaves_marks {P : Program} {n : Nat} {fn : Func} {tmps : Array Value} {R : Ending → World → Prop} (Good : World → Prop)
    (hend : ∀ W, Good W → ∃ v, (results fn tmps).run P W = .ok v W ∧ R (.returned v) W) :
    ∀ (Ds : List Nat) (W : World), Ds.Nodup → (∀ D ∈ Ds, W.heap[D]? = some (.deferred (some []))) →
      (∀ W D, Good W → D ∈ Ds → W.heap[D]? = some (.deferred (some [])) → Good (W.putObj D (.deferred none))) → Good W → LeavesInM Fence.wide n P fn tmps R (Ds.map markD) .returning W := by
  intro Ds
  induction Ds with
  | nil => intro W _ _ _ hg; exact hend W hg
  | cons D r ih =>
    intro W hd hm hs hg
    have hD := hm D (List.mem_cons_self ..)
    obtain ⟨hd1, hd2⟩ := List.nodup_cons.1 hd
    refine ⟨by simp, .inl ⟨D, _, rfl, run_takeDeferred hD, ?_⟩⟩
    refine ih _ hd2 (fun x hx => ?_) (fun W' x hg' hx => hs W' x hg' (List.mem_cons_of_mem _ hx)) (hs W D hg (List.mem_cons_self ..) hD)
    exact (World.putObj_heap_other (fun e => by subst e; exact hd1 hx)).trans (hm x (List.mem_cons_of_mem _ hx))
theorem round_in {m : Nat} {P : Program} {l : Nat} {f : FuncId} {tmps : Array Value} {assign body : Code} {w : World} {R : Ending → World → Prop} (l' : Nat) (h : RoundIn Fence.wide m P l f tmps assign body w R) : RoundIn (Fence.wide.inRound l') m P l f tmps assign body w R := h
theorem wp_normal {P : Program} {c : Code} {Q : Exit → Act → World → Prop} {a : Act} {w : World} (h : c.wp P (fun e a w => e = .normal ∧ Q .normal a w) a w) : c.wp P Q a w :=
  wp_mono h fun e _ _ hq => by obtain ⟨rfl, hq⟩ := hq; exact hq
/-- what the iterator has captured: the places left, the row so far, the order -/
structure Cap (A row : List Nat) (L R T : Nat) (X : Nat → Prop) (W : World) : Prop where
  left : At W L #[.int .u32 (leftA A.length row : Nat)] 23
  row : ∃ rv, At W R #[rv] 24 ∧ RdX X W rv (nats row) ∧ SrcN rv
  after : ∃ av, At W T #[av] 31 ∧ RdX X W av (u32s A)
  off : ¬ X L ∧ ¬ X R ∧ ¬ X T
theorem Cap.kept {A row : List Nat} {L R T : Nat} {X X' : Nat → Prop} {W W' : World} (h : Cap A row L R T X W) (hk : Kept X X' W W') : Cap A row L R T X' W' := by
  obtain ⟨h1, ⟨rv, h2, h3, h4⟩, ⟨av, h5, h6⟩, h7, h8, h9⟩ := h
  exact ⟨hk.at h1 h7, ⟨rv, hk.at h2 h8, hk.rd h3, h4⟩, ⟨av, hk.at h5 h9, hk.rd h6⟩, hk.not h1.lt h7, hk.not h2.lt h8, hk.not h5.lt h9⟩
theorem Cap.below {A row : List Nat} {L R T : Nat} {X : Nat → Prop} {W W' : World} (h : Cap A row L R T X W) (hb : Below W.heap.size W W') : Cap A row L R T X W' := h.kept (Kept.below X hb)
theorem Cap.own {A row : List Nat} {L R T : Nat} {X : Nat → Prop} {W W' : World} {r : Option Nat} (h : Cap A row L R T X W) (hg : W.grownBy W' r) (hr : ∀ k, r = some k → ∃ o : Obj, W.heap[k]? = some o ∧ o.isCells = false) : Cap A row L R T X W' := by
  obtain ⟨h1, ⟨rv, h2, h3, h4⟩, ⟨av, h5, h6⟩, h7⟩ := h
  exact ⟨at_own h1 hg hr, ⟨rv, at_own h2 hg hr, rd_own h3 hg hr, h4⟩, ⟨av, at_own h5 hg hr, rd_own h6 hg hr⟩, h7⟩
theorem rowsFrom_any (aa ra : Option Addr) (an ac rn rc : Nat) (z : Int) (w : World) :
    Calls Tryd.prog 72 #[.slice aa an ac, .slice ra rn rc, .int .u32 z] w fun e w' => e = .returned (.func (.func 88) #[] #[.pointer (some ⟨w.heap.size + 2, 0, none⟩), .pointer (some ⟨w.heap.size + 1, 0, none⟩), .pointer (some ⟨w.heap.size, 0, none⟩)]) ∧
      w' = ((w.alloc (.cells #[.slice aa an ac] 31)).alloc (.cells #[.slice ra rn rc] 24)).alloc (.cells #[.int .u32 z] 23) := by
  go_enter Tryd.func72, Tryd.ntmps72
  go_wp2
  go_ret
  exact ⟨rfl, rfl⟩
theorem rdx_of_row {X : Nat → Prop} {w : World} {B : Nat} {e : TypeId} {v : Value} {n : Nat} {xs : List Value} (h : w.ownsRow B e 1 v n xs) (hX : ∀ k, X k → k < B) : RdX X w v xs := by
  have hr := Rd.of_row h
  rcases hr with h0 | ⟨h0, b, o, c, rfl, hc⟩
  · exact .inl h0
  · refine .inr ⟨h0, b, o, c, rfl, fun hb => ?_, hc⟩
    have h1 := (h.lt b rfl).1
    have h2 := hX b hb
    omega
/-- the marks of the rounds that are over -/
def Marks (Ds : List Nat) (X : Nat → Prop) (W : World) : Prop := ∀ D ∈ Ds, W.heap[D]? = some (.deferred (some [])) ∧ ¬ X D
theorem Marks.kept {Ds : List Nat} {X X' : Nat → Prop} {W W' : World} (h : Marks Ds X W) (hk : Kept X X' W W') : Marks Ds X' W' := fun D hD => by
  obtain ⟨h1, h2⟩ := h D hD
  have hlt : D < W.heap.size := (Array.getElem?_eq_some_iff.1 h1).1
  exact ⟨(hk.same D hlt h2).trans h1, hk.not hlt h2⟩
theorem Marks.own {Ds : List Nat} {X : Nat → Prop} {W W' : World} {r : Option Nat} {B : Nat} (h : Marks Ds X W) (hB : ∀ D ∈ Ds, D < B) (hg : W.grownBy W' r) (hr : ∀ k, r = some k → B ≤ k) : Marks Ds X W' := fun D hD => by
  obtain ⟨h1, h2⟩ := h D hD
  refine ⟨(hg.block D (Array.getElem?_eq_some_iff.1 h1).1 fun e => ?_).trans h1, h2⟩
  have h3 := hr D e.symm
  have h4 := hB D hD
  omega
set_option maxRecDepth 100000 in
set_option maxHeartbeats 4000000 in
theorem rows1_zero (A : List Nat) (hn : A.length ≤ 6) (T : List (List Nat)) (row : List Nat) (hd : row.Nodup) (hlt : ∀ k ∈ row, k < A.length) (hl : row.length = A.length) (L R Tb : Nat) (pre0 : List (List Nat)) (hT : (pre0 ++ [row]) <+: T) :
    Gives Tryd.prog 88 #[.pointer (some ⟨L, 0, none⟩), .pointer (some ⟨R, 0, none⟩), .pointer (some ⟨Tb, 0, none⟩)] (Cap A row L R Tb) pre0 T [row] := by
  intro l J Jx X W hC hJ hJx htop hY h0
  have h00 : leftA A.length row = 0 := (leftA_zero hn hd hlt).2 hl
  obtain ⟨h1, ⟨rv, h2, h3, h4⟩, ⟨av, h5, h6⟩, h7, h8, h9⟩ := hC.below ((Below.refl W.heap.size W).alloc (Nat.le_refl _) (.cells #[.func (.yield l) #[] #[]] 109))
  rw [h00] at h1
  have c1 := h1.cell (i := 0) rfl
  have c2 := h2.cell (i := 0) rfl
  have c3 := (At.new W #[.func (.yield l) #[] #[]] 109).cell (i := 0) rfl
  obtain ⟨fn, tmps, assign, body, hy, hR⟩ := hY pre0 row rv X _ (hJ.alloc (.cells #[.func (.yield l) #[] #[]] 109) h0) hT h3
  obtain ⟨ra, rc, rfl⟩ := h3.rd.len
  have HJ := Lib.hid hJ
  have HY := Lib.hid hY
  have HTOP := Lib.hid htop
  have HT := Lib.hid hT
  clear h1 h2 h3 h4 h5 h6 hC hJ hJx hY htop hT h0
  refine (callsIn_wide (n := 6)).1 ?_
  refine callsIn_of_wp Tryd.func88 rfl trivial ?_ rfl
  simp only [Tryd.ntmps88, List.size_toArray, List.length_cons, List.length_nil, Nat.reduceAdd, Nat.reduceSub, Array.replicate_succ, Array.replicate_zero, List.push_toArray, List.append_toArray, List.nil_append, List.cons_append]
  gi_wp2
  refine (round_depth hR).mono ?_
  rintro e W2 (⟨rfl, X', hJ', hk⟩ | ⟨rfl, X', hJx', hk⟩)
  · gi_wp2
    refine bodyPost_ret (results_none rfl _ _ _) rfl ?_
    exact ⟨⟨_, rfl⟩, .inl ⟨X', hJ'⟩⟩
  · gi_wp2
    refine bodyPost_ret (results_none rfl _ _ _) rfl ?_
    exact ⟨⟨_, rfl⟩, .inr ⟨[row], X', List.prefix_refl _, hJx'⟩⟩
/-- what holds between two rounds of the loop over the places -/
structure Lev (A row : List Nat) (L R Tb Y l B : Nat) (Ds : List Nat) (X : Nat → Prop) (W : World) : Prop where
  cap : Cap A row L R Tb X W
  box : At W Y #[.func (.yield l) #[] #[]] 109
  off : ¬ X Y
  marks : Marks Ds X W
  low : ∀ D ∈ Ds, B ≤ D
  nodup : Ds.Nodup
theorem Lev.kept {A row : List Nat} {L R Tb Y l B : Nat} {Ds : List Nat} {X X' : Nat → Prop} {W W' : World} (h : Lev A row L R Tb Y l B Ds X W) (hk : Kept X X' W W') : Lev A row L R Tb Y l B Ds X' W' :=
  ⟨h.cap.kept hk, hk.at h.box h.off, hk.not h.box.lt h.off, h.marks.kept hk, h.low, h.nodup⟩
theorem Lev.below {A row : List Nat} {L R Tb Y l B : Nat} {Ds : List Nat} {X : Nat → Prop} {W W' : World} (h : Lev A row L R Tb Y l B Ds X W) (hb : Below W.heap.size W W') : Lev A row L R Tb Y l B Ds X W' := h.kept (Kept.below X hb)
theorem Lev.top {A row : List Nat} {L R Tb Y l B : Nat} {Ds : List Nat} {X : Nat → Prop} {W : World} (h : Lev A row L R Tb Y l B Ds X W) : ∀ D ∈ Ds, D < W.heap.size := fun D hD => (Array.getElem?_eq_some_iff.1 (h.marks D hD).1).1
theorem Lev.own {A row : List Nat} {L R Tb Y l B B' : Nat} {Ds : List Nat} {X : Nat → Prop} {W W' : World} {r : Option Nat} (h : Lev A row L R Tb Y l B Ds X W) (hB : ∀ D ∈ Ds, D < B') (hg : W.grownBy W' r)
    (hr : ∀ k, r = some k → B' ≤ k ∧ ∃ o : Obj, W.heap[k]? = some o ∧ o.isCells = false) : Lev A row L R Tb Y l B Ds X W' :=
  ⟨h.cap.own hg (fun k e => (hr k e).2), at_own h.box hg (fun k e => (hr k e).2), h.off, h.marks.own hB hg (fun k e => (hr k e).1), h.low, h.nodup⟩
/-- the rows that have come when k places are over -/
def doneR (A row : List Nat) (s k : Nat) : List (List Nat) := (List.range k).flatMap fun i => if nxR A row i = true then extP A.length (nxR A) s (row ++ [i]) else []
theorem doneR_yes {A row : List Nat} {s k : Nat} (h : nxR A row k = true) : doneR A row s (k + 1) = doneR A row s k ++ extP A.length (nxR A) s (row ++ [k]) := by
  unfold doneR
  rw [List.range_succ, List.flatMap_append]
  simp [h]
theorem doneR_no {A row : List Nat} {s k : Nat} (h : nxR A row k = false) : doneR A row s (k + 1) = doneR A row s k := by
  unfold doneR
  rw [List.range_succ, List.flatMap_append]
  simp [h]
theorem doneR_all (A row : List Nat) (s : Nat) : doneR A row s A.length = extP A.length (nxR A) (s + 1) row := rfl
theorem doneR_pre {A row : List Nat} {s k m : Nat} (h : k ≤ m) : doneR A row s k <+: doneR A row s m := by
  obtain ⟨d, rfl⟩ := Nat.le.dest h
  unfold doneR
  rw [List.range_add, List.flatMap_append]
  exact List.prefix_append _ _
set_option maxRecDepth 100000 in
set_option maxHeartbeats 4000000 in
theorem rows1_succ (A : List Nat) (hn : A.length ≤ 6) (hA : ∀ a ∈ A, a < 4294967296) (T : List (List Nat)) (s : Nat) (row : List Nat) (hd : row.Nodup) (hlt : ∀ k ∈ row, k < A.length) (hl : row.length + (s + 1) = A.length) (L R Tb : Nat) (pre0 : List (List Nat))
    (hT : (pre0 ++ extP A.length (nxR A) (s + 1) row) <+: T)
    (IH : ∀ (k : Nat) (L R Tb : Nat) (pre0 : List (List Nat)), nxR A row k = true → k < A.length → (pre0 ++ extP A.length (nxR A) s (row ++ [k])) <+: T →
      Gives Tryd.prog 88 #[.pointer (some ⟨L, 0, none⟩), .pointer (some ⟨R, 0, none⟩), .pointer (some ⟨Tb, 0, none⟩)] (Cap A (row ++ [k]) L R Tb) pre0 T (extP A.length (nxR A) s (row ++ [k]))) :
    Gives Tryd.prog 88 #[.pointer (some ⟨L, 0, none⟩), .pointer (some ⟨R, 0, none⟩), .pointer (some ⟨Tb, 0, none⟩)] (Cap A row L R Tb) pre0 T (extP A.length (nxR A) (s + 1) row) := by
  intro l J Jx X W hC hJ hJx htop hY h0
  have h00 : leftA A.length row ≠ 0 := fun h => by have := (leftA_zero hn hd hlt).1 h; omega
  have h64 := leftA_lt hn row
  have hC1 := hC.below ((Below.refl W.heap.size W).alloc (Nat.le_refl _) (.cells #[.func (.yield l) #[] #[]] 109))
  obtain ⟨av, h5, h6⟩ := hC1.after
  have HNX := Lib.hid (nextOf_any av A (leftA A.length row) _ h6.rd hn hA (by omega))
  have HNT : Hid (∀ k, k < A.length → (nextS A (leftA A.length row) A.length).testBit k = nxR A row k) := fun k hk => next_test hn hA hlt hk
  have HNL : Hid (nextS A (leftA A.length row) A.length ≤ leftA A.length row) := nextS_le _ _ _
  have c1 := hC1.left.cell (i := 0) rfl
  have c3 := h5.cell (i := 0) rfl
  have HL0 : Hid (Lev A row L R Tb W.heap.size l W.heap.size [] X (W.alloc (.cells #[.func (.yield l) #[] #[]] 109))) :=
    ⟨hC1, At.new _ _ _, fun h => (by have := htop _ _ _ h0 _ h; omega), fun D hD => (by cases hD), fun D hD => (by cases hD), List.nodup_nil⟩
  have HJ0 := Lib.hid (hJ.alloc (.cells #[.func (.yield l) #[] #[]] 109) h0)
  obtain ⟨aa, ac, rfl⟩ := h6.rd.len
  rw [u32s_len] at c3 HNX h6
  have HJ := Lib.hid hJ
  have HJX := Lib.hid hJx
  have HY := Lib.hid hY
  have HTOP := Lib.hid htop
  have HT := Lib.hid hT
  have HIH := Lib.hid IH
  have HH6 := Lib.hid h6
  obtain ⟨lf, hlf⟩ : ∃ z, leftA A.length row = z := ⟨_, rfl⟩
  rw [hlf] at h00 h64 c1 HNX HNT HNL
  have HLF := Lib.hid hlf
  obtain ⟨nx, hnx⟩ : ∃ z, nextS A lf A.length = z := ⟨_, rfl⟩
  rw [hnx] at HNX HNT HNL
  have hnx64 : nx < 64 := by have := HNL.out; omega
  have tq : ((lf : Int) == 0) = false := by simp; omega
  clear h5 h6 hC hC1 hJ hJx hY htop hT h0 IH hlf hnx HNL
  refine (callsIn_wide (n := 6)).1 ?_
  refine callsIn_of_wp_marks Tryd.func88 rfl trivial ?_ rfl
  simp only [Tryd.ntmps88, List.size_toArray, List.length_cons, List.length_nil, Nat.reduceAdd, Nat.reduceSub, Array.replicate_succ, Array.replicate_zero, List.push_toArray, List.append_toArray, List.nil_append, List.cons_append]
  gi_wp2_with (refine ⟨trivial, ?_⟩; gi_at_call 87; refine (callsIn_wide.2 HNX.out).mono ?_; rintro e w1 ⟨rfl, rfl⟩)
  refine wpIn_loop (fun a' w' => ∃ u6 u7 u8 u20 u21 u22 u23 u24 u25 u26 u27 u28 u29 u30 u31 u32 u33 u34 u35 u36 u37 u38 u39 u40 u41 u42 u43 u44 : Value, ∃ (u19 : Value) (k : Nat) (Ds : List Nat) (X' : Nat → Prop), k ≤ A.length ∧ u19 = .int .i64 (k : Int) ∧ Hid (J (pre0 ++ doneR A row s k) X' w') ∧ Hid (Lev A row L R Tb W.heap.size l W.heap.size Ds X' w') ∧ a' = { tmps := #[.func (.yield l) #[] #[], .pointer (some ⟨L, 0, none⟩), .pointer (some ⟨R, 0, none⟩), .pointer (some ⟨Tb, 0, none⟩), .pointer (some ⟨W.heap.size, 0, none⟩), .int .u32 (nx : Int), u6, u7, u8, .int .u32 (lf : Int), .bool false, undef, undef, undef, .slice aa A.length ac, .int .u32 (lf : Int), .int .u32 (nx : Int), .slice aa A.length ac, .int .i64 (A.length : Int), u19, u20, u21, u22, u23, u24, u25, u26, u27, u28, u29, u30, u31, u32, u33, u34, u35, u36, u37, u38, u39, u40, u41, u42, u43, u44], defers := Ds.map markD }) (fun a' _ => A.length - (intOf (a'.tmps.getD 19 undef)).toNat) ?_ ?_
  · refine ⟨_, _, _, _, _, _, _, _, _, _, _, _, _, _, _, _, _, _, _, _, _, _, _, _, _, _, _, _, _, 0, [], X, by omega, rfl, ?_, HL0, rfl⟩
    have : pre0 ++ doneR A row s 0 = pre0 := by simp [doneR]
    rw [this]
    exact HJ0
  clear HNX c1 c3 HL0 HJ0 HH6
  rintro a' w' ⟨u6, u7, u8, u20, u21, u22, u23, u24, u25, u26, u27, u28, u29, u30, u31, u32, u33, u34, u35, u36, u37, u38, u39, u40, u41, u42, u43, u44, u19, k, Ds, X', hk, rfl, HJk, HLk, rfl⟩
  by_cases hkl : k < A.length
  · have hkb := extBit_any k (by omega)
    have hlt3 : 2 ^ k < 4294967296 := Nat.pow_lt_pow_right (a := 2) (m := k) (n := 32) (by decide) (by omega)
    have hand := u32_and_nat nx (2 ^ k) (by omega) hlt3
    have hap := and_pow2 nx k
    have hpos : 0 < 2 ^ k := Nat.two_pow_pos k
    have hnt := HNT.out k hkl
    obtain ⟨pw, hpw⟩ : ∃ pw, 2 ^ k = pw := ⟨_, rfl⟩
    rw [hpw] at hkb hlt3 hand hap hpos
    cases hb : nxR A row k with
    | false =>
      rw [hnt, hb, if_neg (by decide)] at hap
      rw [hap] at hand
      have HD := Lib.hid (doneR_no (s := s) hb)
      clear hap hnt hb
      gi_wp2_with (refine ⟨trivial, ?_⟩; gi_at_call 85; refine (callsIn_wide.2 (hkb _)).mono ?_; rintro e w3 ⟨rfl, rfl⟩)
      refine ⟨⟨_, _, _, _, _, _, _, _, _, _, _, _, _, _, _, _, _, _, _, _, _, _, _, _, _, _, _, _, _, k + 1, Ds, X', by omega, by go_num, ?_, HLk, rfl⟩, ?_⟩
      · rw [HD.out]
        exact HJk
      · simp [intOf]; omega
    | true =>
      rw [hnt, hb, if_pos rfl] at hap
      rw [hap] at hand
      have tz : ((pw : Int) == 0) = false := by simp; omega
      obtain ⟨rv, hR1, hR2, hR3⟩ := HLk.out.cap.row
      obtain ⟨ra, rc, rfl⟩ := hR2.rd.len
      rw [nats_len] at hR1 hR2 hR3
      have cR := hR1.cell (i := 0) rfl
      obtain ⟨av, hT1, hT2⟩ := HLk.out.cap.after
      have hl1 : Hid (w'.cell? ⟨L, 0, none⟩ = some (.int .u32 (lf : Int))) := by
        have := HLk.out.cap.left.cell (i := 0) rfl
        rw [HLF.out] at this
        exact this
      obtain ⟨ab, bc, rfl⟩ := hT2.rd.len
      rw [u32s_len] at hT1 hT2
      have HT1 := Lib.hid (hT1.cell (i := 0) rfl)
      have HT2 := Lib.hid hT2
      have hrl : row.length ≤ 6 := by omega
      have hsA : (w'.alloc (.cells #[.int .i64 (k : Int)] 3)).heap.size = w'.heap.size + 1 := by simp
      have hatA := At.new w' #[.int .i64 (k : Int)] 3
      have hatB := At.new (w'.alloc (.cells #[.int .i64 (k : Int)] 3)) #[.slice ra row.length rc, .slice (some ⟨w'.heap.size, 0, none⟩) 1 1] 24
      rw [hsA] at hatB
      have hbB : Below w'.heap.size w' ((w'.alloc (.cells #[.int .i64 (k : Int)] 3)).alloc (.cells #[.slice ra row.length rc, .slice (some ⟨w'.heap.size, 0, none⟩) 1 1] 24)) := ((Below.refl w'.heap.size w').alloc (Nat.le_refl _) _).alloc (by simp) _
      have HCC := Lib.hid (concatI_any (w'.heap.size + 1) (.slice ra row.length rc) (.slice (some ⟨w'.heap.size, 0, none⟩) 1 1) row [k] ((w'.alloc (.cells #[.int .i64 (k : Int)] 3)).alloc (.cells #[.slice ra row.length rc, .slice (some ⟨w'.heap.size, 0, none⟩) 1 1] 24))
        (hatB.cell (i := 0) rfl) (hatB.cell (i := 1) rfl) (hR2.rd.below hbB (Nat.le_refl _)) (Rd.of_at (L := nats [k]) 1 (hatA.alloc _)) hR3 (.inr ⟨_, _, _, rfl⟩) (by omega) (by simp) (by simp))
      have HBB := Lib.hid hbB
      have HK := Lib.hid (doneR_yes (s := s) hb)
      have HNR := Lib.hid (nxR_not hb)
      have HNB := Lib.hid hb
      clear hatA hatB hbB hap hnt hR1 hR2 hR3 hT1 hT2 hb hsA
      gi_wp2_with (first
        | (refine ⟨trivial, ?_⟩; gi_at_call 85; refine (callsIn_wide.2 (hkb _)).mono ?_; rintro e w3 ⟨rfl, hw3⟩; have hw3 := hw3.symm; subst hw3)
        | (refine ⟨trivial, ?_⟩; gi_at_call 56; refine (callsIn_wide.2 HCC.out).mono ?_; rintro e w2 ⟨v2, rfl, ho2, hb2⟩; obtain ⟨g2, c2, rfl⟩ := row_slice ho2))
      have HB2 : Hid (Below w'.heap.size w' w2) := HBB.out.trans (hb2.mono HBB.out.size)
      have HS : Hid (∀ W4, Below w2.heap.size w2 W4 → W4.cell? ⟨Tb, 0, none⟩ = some (.slice ab A.length bc) ∧ W4.cell? ⟨L, 0, none⟩ = some (.int .u32 (lf : Int))) := fun W4 hb4 =>
        ⟨cell_on hb4 (cell_on HB2.out HT1.out), cell_on hb4 (cell_on HB2.out hl1.out)⟩
      have hano := u32_andNot_nat lf pw (by omega) hlt3
      have hln : lf &&& (4294967295 - pw) = lessN lf pw := rfl
      rw [hln] at hano
      have HLS : Hid (leftA A.length (row ++ [k]) = lessN lf pw) := by unfold Hid; rw [leftA_snoc, HLF.out, hpw]
      have HRO := Lib.hid ho2
      have HBO := Lib.hid hb2
      clear hln ho2 hb2 hand HCC hpw
      generalize lessN lf pw = lq at *
      refine wpIn_wide.2 (wp_normal (wp_region_held_drew (S := fun W4 => W4.cell? ⟨Tb, 0, none⟩ = some (.slice ab A.length bc) ∧ W4.cell? ⟨L, 0, none⟩ = some (.int .u32 (lf : Int))) (by kernel_rfl) (HS.out _ ((Below.refl _ w2).drew)) (fun hS => ?_)))
      refine wpAnyH_take (i := 0) (v := .slice ab A.length bc) rfl (by kernel_rfl) (by kernel_rfl) (by kernel_rfl) (fun _ _ _ h => (by cases h.1)) (Or.inl ⟨by rfl, fun W5 hw5 => by obtain ⟨z, -⟩ := hw5; go_simp⟩) hS ?_
      simp only [Act.put, List.setIfInBounds_toArray]
      refine wpAnyH_take (i := 1) (v := .slice g2 (row.length + 1) c2) rfl (by kernel_rfl) (by kernel_rfl) (by kernel_rfl) (fun _ _ _ h => (by cases h.1)) (Or.inl ⟨by rfl, fun W5 hw5 => by go_simp⟩) hS ?_
      simp only [Act.put]
      refine wpAnyH_take (i := 2) (v := .int .u32 (lf : Int)) rfl (by kernel_rfl) (by kernel_rfl) (by kernel_rfl) (fun _ _ _ h => (by cases h.1)) (Or.inl ⟨by rfl, fun W5 hw5 => by obtain ⟨-, z⟩ := hw5; go_simp⟩) hS ?_
      simp only [Act.put]
      refine wpAnyH_take (i := 3) (v := .int .i64 (k : Int)) rfl (by kernel_rfl) (by kernel_rfl) (by kernel_rfl) (fun _ _ _ h => (by cases h.1)) (Or.inl ⟨by rfl, fun W5 hw5 => by go_simp⟩) hS ?_
      simp only [Act.put]
      refine wpAnyH_ready (rs := [4]) (by kernel_rfl) (by simp) (AllReadyH.cons rfl (fun K5 hK5 => ?_) AllReadyH.nil)
      go_simp
      refine (hkb _).mono ?_
      rintro e w4 ⟨rfl, hw4⟩
      rw [hw4]
      clear hw4
      refine hK5.out _ _ hS (fun _ => ?_)
      clear hK5 K5
      refine wpAnyH_take (i := 5) (v := .int .u32 (lq : Int)) rfl (by kernel_rfl) (by kernel_rfl) (by kernel_rfl) (fun _ _ _ h => (by cases h.1)) (Or.inl ⟨by rfl, fun W5 hw5 => by go_simp⟩) hS ?_
      simp only [Act.put]
      refine wpAnyH_ready (rs := [6]) (by kernel_rfl) (by simp) (AllReadyH.cons rfl (fun K5 hK5 => ?_) AllReadyH.nil)
      go_simp
      refine (rowsFrom_any ab g2 A.length bc (row.length + 1) c2 (lq : Int) _).mono ?_
      rintro e w4 ⟨rfl, hw4⟩
      rw [hw4]
      clear hw4
      refine hK5.out _ _ (HS.out _ (((((Below.refl _ w2).drew).alloc (Nat.le_refl _) _).alloc (by simp) _).alloc (by simp; omega) _)) (fun _ => wpAnyH_done (by kernel_rfl) ⟨rfl, ?_⟩ _)
      clear hK5 K5
      gi_wp2
      have hXw : ∀ x, X' x → x < w'.heap.size := HTOP.out _ _ _ HJk.out
      have hln1 : (row ++ [k]).length = row.length + 1 := by simp
      have hrow2 := HRO.out
      rw [hln1] at hrow2
      have hRX : RdX X' w2 (.slice g2 (row.length + 1) c2) (nats (row ++ [k])) := rdx_of_row hrow2 (fun x hx => by have := hXw x hx; simp; omega)
      have hSN : SrcN (.slice g2 (row.length + 1) c2) := SrcN.of_row hrow2
      clear hln1 hrow2
      have hsz : w2.drew.heap.size = w2.heap.size := rfl
      have hs2 := HB2.out.size
      have hB4 : Below w2.heap.size w2 (((w2.drew.alloc (.cells #[.slice ab A.length bc] 31)).alloc (.cells #[.slice g2 (row.length + 1) c2] 24)).alloc (.cells #[.int .u32 (lq : Int)] 23)) :=
        ((((Below.refl _ w2).drew).alloc (Nat.le_refl _) _).alloc (by simp) _).alloc (by simp; omega) _
      have hT4 : At (((w2.drew.alloc (.cells #[.slice ab A.length bc] 31)).alloc (.cells #[.slice g2 (row.length + 1) c2] 24)).alloc (.cells #[.int .u32 (lq : Int)] 23)) w2.heap.size #[.slice ab A.length bc] 31 := ((At.new w2.drew _ _).alloc _).alloc _
      have hR4 : At (((w2.drew.alloc (.cells #[.slice ab A.length bc] 31)).alloc (.cells #[.slice g2 (row.length + 1) c2] 24)).alloc (.cells #[.int .u32 (lq : Int)] 23)) (w2.heap.size + 1) #[.slice g2 (row.length + 1) c2] 24 := by
        have h := (At.new (w2.drew.alloc (.cells #[.slice ab A.length bc] 31)) #[.slice g2 (row.length + 1) c2] 24).alloc (.cells #[.int .u32 (lq : Int)] 23)
        rwa [World.size_alloc] at h
      have hL4 : At (((w2.drew.alloc (.cells #[.slice ab A.length bc] 31)).alloc (.cells #[.slice g2 (row.length + 1) c2] 24)).alloc (.cells #[.int .u32 (lq : Int)] 23)) (w2.heap.size + 2) #[.int .u32 (lq : Int)] 23 := by
        have h := At.new ((w2.drew.alloc (.cells #[.slice ab A.length bc] 31)).alloc (.cells #[.slice g2 (row.length + 1) c2] 24)) #[.int .u32 (lq : Int)] 23
        rwa [World.size_alloc, World.size_alloc] at h
      have hs4 : (((w2.drew.alloc (.cells #[.slice ab A.length bc] 31)).alloc (.cells #[.slice g2 (row.length + 1) c2] 24)).alloc (.cells #[.int .u32 (lq : Int)] 23)).heap.size = w2.heap.size + 3 := by simp [hsz]
      rw [hsz]
      generalize (((w2.drew.alloc (.cells #[.slice ab A.length bc] 31)).alloc (.cells #[.slice g2 (row.length + 1) c2] 24)).alloc (.cells #[.int .u32 (lq : Int)] 23)) = W4 at *
      have hB' : Below w'.heap.size w' W4 := HB2.out.trans (hB4.mono hs2)
      have hWs : W.heap.size < w'.heap.size := HLk.out.box.lt
      have hTk : (pre0 ++ doneR A row s k ++ extP A.length (nxR A) s (row ++ [k])) <+: T := by
        rw [List.append_assoc, ← HK.out]
        refine List.IsPrefix.trans ?_ HT.out
        rw [← doneR_all]
        exact (List.prefix_append_right_inj _).2 (doneR_pre (by omega))
      refine range_x (gf := 88) (lb := #[.pointer (some ⟨w2.heap.size + 2, 0, none⟩), .pointer (some ⟨w2.heap.size + 1, 0, none⟩), .pointer (some ⟨w2.heap.size, 0, none⟩)]) rfl (enters_of Tryd.func88 (by kernel_rfl) rfl) rfl
        (HIH.out k (w2.heap.size + 2) (w2.heap.size + 1) w2.heap.size (pre0 ++ doneR A row s k) HNB.out hkl hTk)
        (fun pre Z V => J pre Z V ∧ Lev A row L R Tb W.heap.size l W.heap.size Ds Z V) (fun c pre Z V => c = .ret ∧ Jx pre Z V ∧ Marks Ds Z V) X' ?hyp ?top ?ownI ?ownX ?start ?round ?done ?stop
      case hyp =>
        intro W1 hb1
        refine ⟨by rw [HLS.out]; exact hL4.below hb1 hL4.lt, ⟨_, hR4.below hb1 hR4.lt, ?_, hSN⟩, ⟨_, hT4.below hb1 hT4.lt, ?_⟩, ?_, ?_, ?_⟩
        · refine ((hRX.below hB4).more fun x hx hz => ?_).below hb1
          rcases hz with hz | rfl
          · exact hz
          · omega
        · refine ((HT2.out.below hB').more fun x hx hz => ?_).below hb1
          rcases hz with hz | rfl
          · exact hz
          · omega
        · rintro (hz | hz)
          · have := hXw _ hz; omega
          · omega
        · rintro (hz | hz)
          · have := hXw _ hz; omega
          · omega
        · rintro (hz | hz)
          · have := hXw _ hz; omega
          · omega
      case top => exact fun pre Z V h => HTOP.out _ _ _ h.1
      case ownI =>
        rintro q Z V V' r ⟨g1, g2⟩ hg hr
        exact ⟨HJ.out _ _ _ _ _ g1 hg (fun x e => ⟨by have := (hr x e).1; omega, (hr x e).2⟩), g2.own (fun D hD => by have := HLk.out.top D hD; omega) hg hr⟩
      case ownX =>
        rintro c q Z V V' r ⟨g0, g1, g2⟩ hg hr
        exact ⟨g0, HJX.out _ _ _ _ _ g1 hg (fun x e => ⟨by have := (hr x e).1; omega, (hr x e).2⟩), g2.own (B := W4.heap.size) (fun D hD => by have := HLk.out.top D hD; omega) hg (fun x e => (hr x e).1)⟩
      case start => exact ⟨HJ.out.below HJk.out hB', HLk.out.below hB'⟩
      case round =>
        rintro l' pre r v Z V hl1 hl2 hl3 ⟨g1, g2⟩ hTp hv
        obtain ⟨va, vc, rfl⟩ := hv.rd.len
        gi_wp2
        refine ⟨Kept.refl _ _, ?_⟩
        intro V2 hg hnc
        have hro : ∀ x, some l' = some x → W4.heap.size ≤ x ∧ ∃ o : Obj, V.heap[x]? = some o ∧ o.isCells = false := fun x e => by cases e; exact ⟨hl1, hnc⟩
        have g1' := HJ.out _ _ _ _ _ g1 hg (fun x e => ⟨by have := (hro x e).1; omega, (hro x e).2⟩)
        have g2' := g2.own (B' := W4.heap.size) (fun D hD => by have := HLk.out.top D hD; omega) hg hro
        have hv' := rd_own hv hg (fun x e => (hro x e).2)
        obtain ⟨fn, tmps, assign, body, hy, hRr⟩ := HY.out pre r _ Z V2 g1' hTp hv'
        have cY := g2'.box.cell (i := 0) rfl
        have hRw := fun m => round_in l' (round_depth (m' := m) hRr)
        gi_wp2
        refine (hRw _).mono ?_
        rintro e V3 (⟨rfl, Z', gJ, gk⟩ | ⟨rfl, Z', gJ, gk⟩)
        · gi_wp2
          exact ⟨Z', ⟨gJ, g2'.kept gk⟩, gk⟩
        · gi_wp2
          exact ⟨Z', ⟨rfl, gJ, g2'.marks.kept gk⟩, gk⟩
      case done =>
        rintro Z V ⟨g1, g2⟩ hD hdef
        gi_wp2
        refine ⟨⟨_, _, _, _, _, _, _, _, _, _, _, _, _, _, _, _, _, _, _, _, _, _, _, _, _, _, _, _, _, k + 1, W4.heap.size :: Ds, Z, by omega, by go_num, ?_, ?_, rfl⟩, ?_⟩
        · rw [HK.out, ← List.append_assoc]
          exact g1
        · refine ⟨g2.cap, g2.box, g2.off, fun D hDm => ?_, fun D hDm => ?_, List.nodup_cons.2 ⟨fun hc => ?_, g2.nodup⟩⟩
          · rcases List.mem_cons.1 hDm with rfl | hDm
            · exact ⟨hdef, hD⟩
            · exact g2.marks D hDm
          · rcases List.mem_cons.1 hDm with rfl | hDm
            · omega
            · exact g2.low D hDm
          · have := HLk.out.top _ hc; omega
        · simp [intOf]; omega
      case stop =>
        rintro c q Z V hq ⟨rfl, g1, g2⟩ hD hdef
        have hpre : doneR A row s k ++ q <+: extP A.length (nxR A) (s + 1) row := by
          have h1 : doneR A row s (k + 1) <+: extP A.length (nxR A) (s + 1) row := by
            rw [← doneR_all]
            exact doneR_pre (by omega)
          refine List.IsPrefix.trans ?_ h1
          rw [HK.out]
          exact (List.prefix_append_right_inj _).2 hq
        have HPRE := Lib.hid hpre
        have HDS : Hid (∀ D ∈ W4.heap.size :: Ds, V.heap[D]? = some (.deferred (some [])) ∧ W.heap.size ≤ D) := by
          intro D hDm
          rcases List.mem_cons.1 hDm with rfl | hDm
          · exact ⟨hdef, by omega⟩
          · exact ⟨(g2 D hDm).1, HLk.out.low D hDm⟩
        have HND : Hid ((W4.heap.size :: Ds).Nodup) := List.nodup_cons.2 ⟨fun hc => (by have := HLk.out.top _ hc; omega), HLk.out.nodup⟩
        clear hpre
        gi_wp2
        exact leaves_marks (fun V' => Jx (pre0 ++ doneR A row s k ++ q) Z V') (fun V' hg => ⟨_, results_none rfl _ _ _, ⟨_, rfl⟩, .inr ⟨doneR A row s k ++ q, Z, HPRE.out, by rw [← List.append_assoc]; exact hg⟩⟩) (W4.heap.size :: Ds) V HND.out (fun D hDm => (HDS.out D hDm).1)
          (fun V' D hg hDm hw => HJX.out.putObj _ hg (HDS.out D hDm).2 hw rfl) g1
  · obtain rfl : k = A.length := by omega
    have HLV := Lib.hid HLk
    gi_wp2
    refine leaves_marks (fun W' => J (pre0 ++ doneR A row s A.length) X' W') (fun W' hg => ⟨_, results_none rfl _ _ _, ⟨_, rfl⟩, .inl ⟨X', ?_⟩⟩) Ds w' HLk.out.nodup (fun D hD => (HLk.out.marks D hD).1) (fun W' D hg hD hw => HJ.out.putObj _ hg (HLk.out.low D hD) hw rfl) HJk.out
    rw [← doneR_all]
    exact hg
theorem rows1_gives (A : List Nat) (hn : A.length ≤ 6) (hA : ∀ a ∈ A, a < 4294967296) (T : List (List Nat)) : ∀ (s : Nat) (row : List Nat), row.Nodup → (∀ k ∈ row, k < A.length) → row.length + s = A.length → ∀ (L R Tb : Nat) (pre0 : List (List Nat)), (pre0 ++ extP A.length (nxR A) s row) <+: T →
    Gives Tryd.prog 88 #[.pointer (some ⟨L, 0, none⟩), .pointer (some ⟨R, 0, none⟩), .pointer (some ⟨Tb, 0, none⟩)] (Cap A row L R Tb) pre0 T (extP A.length (nxR A) s row) := by
  intro s
  induction s with
  | zero => exact fun row hd hlt hl L R Tb pre0 hT => rows1_zero A hn T row hd hlt hl L R Tb pre0 hT
  | succ s ih =>
    intro row hd hlt hl L R Tb pre0 hT
    refine rows1_succ A hn hA T s row hd hlt hl L R Tb pre0 hT fun k L R Tb pre0 hb hk hT => ih (row ++ [k]) ?_ ?_ ?_ L R Tb pre0 hT
    · have := nxR_not hb
      exact List.nodup_append.2 ⟨hd, by simp, fun a ha b hb e => this (by rw [List.mem_singleton] at hb; subst hb; exact e ▸ ha)⟩
    · intro x hx
      rcases List.mem_append.1 hx with hx | hx
      · exact hlt x hx
      · rw [List.mem_singleton.1 hx]; exact hk
    · simp; omega
end Go.Proofs.YtmnblljenobofaaDoor
