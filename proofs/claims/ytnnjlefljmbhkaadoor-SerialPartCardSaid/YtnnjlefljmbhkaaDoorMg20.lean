/- Merged: SerC, OpenFd, ExtW, SrlP. -/
import Derived.Test.YtnnjlefljmbhkaaDoorMg19
import Derived.Test.YtnnjlefljmbhkaaDoorMg15
import Derived.Test.YtnnjlefljmbhkaaDoorMg1
import Derived.Test.YtnnjlefljmbhkaaDoorMg17
import Derived.Test.YtnnjlefljmbhkaaDoorMg13
import Derived.Deep.QuietTactic
import Derived.Below
/- Plain words: the search, and all rows that keep the order; parts of what is explained. -/
namespace Go.Proofs.YtnnjlefljmbhkaaDoor.WPlain
end Go.Proofs.YtnnjlefljmbhkaaDoor.WPlain
namespace Go.Proofs.YtnnjlefljmbhkaaDoor.QPlain
end Go.Proofs.YtnnjlefljmbhkaaDoor.QPlain
namespace Go.Proofs.YtnnjlefljmbhkaaDoor.RPlain
open WPlain QPlain

theorem self_table (h : List Ev) : ∀ i, i < (tableS h).length → bfrAt (tableS h) i i = false := fun _ hi => bfrAt_self hi
theorem bad_nat (l : List Tx) (a b : Nat) : badP l (a : Int) (b : Int) = (decide (a = b) || bfrAt l a b) := by
  unfold badP bfrAt
  rw [Int.toNat_natCast, Int.toNat_natCast]
  congr 1
  by_cases h : a = b
  · subst h; simp
  · rw [decide_eq_false h, decide_eq_false (fun hc => h (by omega))]
theorem keeps_nat (l : List Tx) (row : List Nat) : keepsS l (row.map fun x : Nat => (x : Int)) = true ↔ row.Pairwise fun b a => a ≠ b ∧ bfrAt l a b = false := by
  rw [keepsS_iff, List.pairwise_iff_getElem]
  constructor
  · intro h i j hi hj hij
    have h1 := h j (by simpa using hj) i hij
    rw [List.getElem_map, List.getElem_map, bad_nat] at h1
    simpa using h1
  · intro h i hi j hj
    have hi' : i < row.length := by simpa using hi
    have h1 := h j i (by omega) hi' hj
    rw [List.getElem_map, List.getElem_map, bad_nat]
    simpa using h1
theorem bfrAt_lt {l : List Tx} {a b : Nat} (h : bfrAt l a b = true) : a < l.length ∧ b < l.length := by
  unfold bfrAt at h
  cases ha : l[a]? with
  | none => rw [ha] at h; cases h
  | some X =>
    cases hb : l[b]? with
    | none => rw [ha, hb] at h; cases h
    | some Y => exact ⟨(List.getElem?_eq_some_iff.1 ha).1, (List.getElem?_eq_some_iff.1 hb).1⟩
theorem aft_after (l : List Tx) (a b : Nat) : aft (afterS l) a b = bfrAt l a b := by
  unfold aft
  by_cases ha : a < l.length
  · rw [List.getD_eq_getElem?_getD, List.getElem?_eq_getElem (by rw [afterS_len]; exact ha), Option.getD_some]
    unfold afterS
    rw [List.getElem_map]
    by_cases hb : b < l.length
    · rw [afterN_test l _ hb, bfrAt_at ha hb]
    · rw [Nat.testBit_lt_two_pow (Nat.lt_of_lt_of_le (afterN_lt l _) (Nat.pow_le_pow_right (by decide) (by omega)))]
      cases hc : bfrAt l a b with
      | false => rfl
      | true => exact absurd (bfrAt_lt hc).2 hb
  · rw [List.getD_eq_getElem?_getD, List.getElem?_eq_none (by rw [afterS_len]; omega)]
    cases hc : bfrAt l a b with
    | false => exact Nat.zero_testBit b
    | true => exact absurd (bfrAt_lt hc).1 ha
theorem free_after (h : List Ev) : Free (afterS (tableS h)) := by
  have hE : ∀ a b, Edge (afterS (tableS h)) a b → a < (tableS h).length ∧ b < (tableS h).length ∧ bfrAt (tableS h) a b = true := fun a b he => by
    have := he.2.2
    rw [aft_after] at this
    exact ⟨(bfrAt_lt this).1, (bfrAt_lt this).2, this⟩
  have hT : ∀ a b, Relation.TransGen (Edge (afterS (tableS h))) a b → a < (tableS h).length ∧ b < (tableS h).length ∧ bfrAt (tableS h) a b = true := by
    intro a b hb
    induction hb with
    | single h => exact hE _ _ h
    | tail _ h ih =>
      have h1 := hE _ _ h
      exact ⟨ih.1, h1.2.1, bfrAt_trans ih.1 h1.1 h1.2.1 ih.2.2 h1.2.2⟩
  intro a ha
  have h1 := hT a a ha
  rw [bfrAt_self h1.1] at h1
  cases h1.2.2
theorem may_after {h : List Ev} (h0 : (checkS h).2 = 0) : mayE (afterS (tableS h)) = 0 := by
  rw [mayE_zero, afterS_len]
  refine ⟨table_six h0, fun a ha => ?_, free_after h⟩
  obtain ⟨X, _, rfl⟩ := List.mem_map.1 ha
  exact afterN_lt _ _
theorem two_bits (n k : Nat) : (2 ^ n - 1).testBit k = decide (k < n) := Nat.testBit_two_pow_sub_one ..
/-- to explain all: a row that keeps the order, and is legal -/
theorem expl_all {l : List Tx} {c : Nat} {row : List Nat} : Expl l (2 ^ l.length - 1) c row ↔ row ∈ allS (afterS l) ∧ legalS l c row = row.length := by
  rw [allS_mem, afterS_len]
  have hg : ∀ b a, goes (afterS l) b a ↔ a ≠ b ∧ bfrAt l a b = false := fun b a => by unfold goes; rw [aft_after]
  constructor
  · intro h
    have hlt : ∀ k ∈ row, k < l.length := fun k hk => ((h.mem k).1 hk).1
    have hfull : ∀ k, k < l.length → k ∈ row := fun k hk => (h.mem k).2 ⟨hk, by rw [two_bits]; simpa using hk⟩
    have h1 := nodup_le row (List.range l.length) h.nodup (fun x hx => List.mem_range.2 (hlt x hx))
    have h2 := nodup_le (List.range l.length) row List.nodup_range (fun x hx => hfull x (List.mem_range.1 hx))
    rw [List.length_range] at h1 h2
    refine ⟨⟨by omega, hlt, ?_⟩, h.legal⟩
    have := List.pairwise_and_iff.2 ⟨h.nodup, h.keeps⟩
    exact this.imp fun {b a} hab => (hg b a).2 ⟨fun hc => hab.1 hc.symm, hab.2⟩
  · rintro ⟨⟨h1, h2, h3⟩, h4⟩
    have hn := goes_nodup h3
    refine ⟨hn, fun k => ⟨fun hk => ⟨h2 k hk, by rw [two_bits]; simpa using h2 k hk⟩, fun hk => nodup_full row l.length hn h2 h1 k hk.1⟩, h3.imp fun {b a} hab => ((hg b a).1 hab).2, h4⟩
/-- the memory is made by those that are committed alone -/
theorem legal_filter (l : List Tx) (c : Nat) (p : Nat → Bool) : ∀ (row : List Nat) (M : Int → Int), (∀ i ∈ row, c.testBit i = true → p i = true) → legalG l c M row = row.length → legalG l c M (row.filter p) = (row.filter p).length := by
  intro row
  induction row with
  | nil => intro M _ _; rfl
  | cons i r ih =>
    intro M hp h
    have h1 := (legal_all l c i r M).1 h
    have h2 := ih (stepM l c M i) (fun x hx => hp x (List.mem_cons_of_mem _ hx)) h1.2
    rw [List.filter_cons]
    by_cases hpi : p i = true
    · rw [if_pos hpi]; exact (legal_all l c i _ M).2 ⟨h1.1, h2⟩
    · rw [if_neg hpi]
      have hc : ¬ c.testBit i = true := fun hc => hpi (hp i (List.mem_cons_self ..) hc)
      unfold stepM at h2
      rw [if_neg hc] at h2
      exact h2
theorem legal_commits (l : List Tx) {c c' : Nat} : ∀ (row : List Nat) (M : Int → Int), (∀ i ∈ row, c.testBit i = c'.testBit i) → legalG l c M row = legalG l c' M row := by
  intro row
  induction row with
  | nil => intro M _; rfl
  | cons i r ih =>
    intro M h
    have hs : stepM l c M i = stepM l c' M i := by unfold stepM; rw [h i (List.mem_cons_self ..)]
    rw [legalG, legalG, ih _ (fun x hx => h x (List.mem_cons_of_mem _ hx)), hs]
/-- of what is explained, those that commit are -/
theorem part_commits {l : List Tx} {c : Nat} {row : List Nat} (h : Expl l (2 ^ l.length - 1) c row) : Expl l c c (row.filter c.testBit) := by
  refine ⟨h.nodup.filter _, fun k => ?_, h.keeps.filter _, legal_filter l c _ row zeroM (fun i _ hc => hc) h.legal⟩
  rw [List.mem_filter, h.mem, two_bits]
  constructor
  · rintro ⟨⟨h1, _⟩, h2⟩; exact ⟨h1, h2⟩
  · rintro ⟨h1, h2⟩; exact ⟨⟨h1, by simpa using h1⟩, h2⟩
/-- .. and those ahead of any one, with that one at the end -/
theorem part_ahead {l : List Tx} {c who : Nat} {row : List Nat} (h : Expl l (2 ^ l.length - 1) c row) {t : Nat} (ht : t < row.length)
    (hw : ∀ k, who.testBit k = true ↔ (k = row[t] ∨ (c.testBit k = true ∧ k ∈ row.take t))) : Expl l who (c &&& who) ((row.take t).filter c.testBit ++ [row[t]]) := by
  have htk : row.take (t + 1) = row.take t ++ [row[t]] := List.take_succ_eq_append_getElem ht
  have hsub : ((row.take t).filter c.testBit ++ [row[t]]).Sublist row := by
    have h1 : ((row.take t).filter c.testBit ++ [row[t]]).Sublist (row.take t ++ [row[t]]) := List.Sublist.append List.filter_sublist (List.Sublist.refl _)
    rw [← htk] at h1
    exact h1.trans (List.take_sublist _ _)
  have hmem : ∀ k, k ∈ (row.take t).filter c.testBit ++ [row[t]] ↔ who.testBit k = true := fun k => by
    rw [hw, List.mem_append, List.mem_filter, List.mem_singleton]
    constructor
    · rintro (⟨h1, h2⟩ | h1)
      · exact .inr ⟨h2, h1⟩
      · exact .inl h1
    · rintro (h1 | ⟨h1, h2⟩)
      · exact .inr h1
      · exact .inl ⟨h2, h1⟩
  refine ⟨h.nodup.sublist hsub, fun k => ?_, h.keeps.sublist hsub, ?_⟩
  · rw [hmem]
    constructor
    · intro hk
      exact ⟨((h.mem k).1 (hsub.subset ((hmem k).2 hk))).1, hk⟩
    · exact fun hk => hk.2
  · unfold legalS
    rw [legal_commits l (c' := c) _ _ (fun i hi => by rw [Nat.testBit_and, (hmem i).1 hi, Bool.and_true])]
    have h1 := legal_take l c row (t + 1) zeroM
    have h2 : legalG l c zeroM row = row.length := h.legal
    rw [h2, htk, Nat.min_eq_right (by omega)] at h1
    rw [legal_app] at h1 ⊢
    have hl1 : (row.take t).length = t := by rw [List.length_take]; omega
    have hone : ∀ M, legalG l c M [row[t]] ≤ 1 := fun M => legal_le l c [row[t]] M
    have hle := legal_le l c (row.take t) zeroM
    by_cases hp : legalG l c zeroM (row.take t) = (row.take t).length
    · rw [if_pos hp] at h1
      have h3 := legal_filter l c c.testBit (row.take t) zeroM (fun _ _ hc => hc) hp
      rw [if_pos h3, behind_filter, List.length_append, List.length_singleton]
      omega
    · rw [if_neg hp] at h1; omega
end Go.Proofs.YtnnjlefljmbhkaaDoor.RPlain
/- A finding among the arguments, by value, its row cut to its first N. -/
namespace Go.Proofs.YtnnjlefljmbhkaaDoor.WPlain
end Go.Proofs.YtnnjlefljmbhkaaDoor.WPlain
namespace Go.Proofs.YtnnjlefljmbhkaaDoor.RPlain
end Go.Proofs.YtnnjlefljmbhkaaDoor.RPlain
namespace Go.Proofs.YtnnjlefljmbhkaaDoor
open Go.ChangeShapes Go.WideShapes Go.ChangeAt Go.RowKit
open Go.Deep WPlain RPlain

set_option maxRecDepth 100000 in
theorem ints_trod (N : Nat) {H : Type} {enc : TypeId × Value → H} {w : World} {base : Nat} {sp : Nat → Bool} {held : Bool} {fuel : Nat} {u : Value} {y : DataW H × List MemPlace} (hf : DataW.trod enc Tryd.prog w base sp held fuel 24 [u] = some y) :
    ∃ (a : Option Addr) (n c : Nat) (row : List Int), u = .slice a n c ∧ n ≤ c ∧ Rd w (.slice a (min (n : Int) N).toNat c) (ints row) := by
  rcases open_ints Tryd.underlying24 Tryd.underlying3 cells_int hf with ⟨hc, _⟩ | ⟨a', len', cap', zs, hc, _, hle, _, hzl, _, hat, _⟩
  · simp only [List.cons.injEq, and_true] at hc
    subst hc
    exact ⟨none, 0, 0, [], rfl, Nat.le_refl _, .inl ⟨rfl, none, 0, by rw [show (min ((0 : Nat) : Int) N).toNat = 0 from by omega]⟩⟩
  · simp only [List.cons.injEq, and_true] at hc
    subst hc
    have hml : len' ≤ zs.length := by rw [hzl]; split <;> omega
    obtain ⟨k, hk⟩ : ∃ k, k = (min (len' : Int) N).toNat := ⟨_, rfl⟩
    have hkl : k ≤ len' := by omega
    refine ⟨some a', len', cap', zs.take k, rfl, hle, ?_⟩
    rw [← hk]
    by_cases h0 : 0 < k
    · obtain ⟨b, o, spot⟩ := a'
      have hspot : spot = none := by
        have := hat 0 (by omega)
        simpa [Addr.add] using World.cell?_spot this
      subst hspot
      refine .inr ⟨by rw [ints_len, List.length_take]; omega, b, o, cap', by rw [ints_len, List.length_take, Nat.min_eq_left (by omega)], fun i u hu => ?_⟩
      unfold ints at hu
      rw [List.getElem?_map, List.getElem?_take] at hu
      have hik : i < k := by
        by_cases hh : i < k
        · exact hh
        · rw [if_neg hh] at hu; cases hu
      rw [if_pos hik, List.getElem?_eq_getElem (by omega)] at hu
      have h1 := hat i (by omega)
      have hadd : (⟨b, o, none⟩ : Addr).add i = ⟨b, o + i, none⟩ := by unfold Addr.add; split <;> simp_all
      rw [hadd, List.getD_eq_getElem?_getD, List.getElem?_eq_getElem (by omega)] at h1
      rw [h1]
      simpa using hu
    · have : k = 0 := by omega
      subst this
      exact .inl ⟨by simp [ints], _, _, rfl⟩
theorem cells_fdT : Tryd.prog.cellsOf 26 = 4 := by kernel_rfl
theorem cells_u32T : Tryd.prog.cellsOf 23 = 1 := by kernel_rfl
theorem cells_intsT : Tryd.prog.cellsOf 24 = 1 := by kernel_rfl
theorem open_fd (N : Nat) {H : Type} {enc : TypeId × Value → H} {w : World} {base : Nat} {sp : Nat → Bool} {held : Bool} (fuel : Nat) (cs : List Value) (y : DataW H × List MemPlace)
    (h : DataW.trod enc Tryd.prog w base sp held fuel 26 cs = some y) : ∃ (x c s : Int) (a : Option Addr) (n cap : Nat) (row : List Int), cs = [.int .i64 x, .int .u32 c, .slice a n cap, .int .i64 s] ∧ n ≤ cap ∧ Rd w (.slice a (min (n : Int) N).toNat cap) (ints row) := by
  obtain ⟨ys, n, _, rfl, hcl, hl, hf⟩ := DataW.trod_struct Tryd.underlying26 h
  rw [cells_fdT] at hcl
  have hl4 : ys.length = 4 := hl
  have h0 : DataW.trod enc Tryd.prog w base sp held n 3 ((cs.drop 0).take (Tryd.prog.cellsOf 3)) = ys[0]? := hf 0 _ rfl
  have h1 : DataW.trod enc Tryd.prog w base sp held n 23 ((cs.drop 1).take (Tryd.prog.cellsOf 23)) = ys[1]? := hf 1 _ rfl
  have h2 : DataW.trod enc Tryd.prog w base sp held n 24 ((cs.drop 2).take (Tryd.prog.cellsOf 24)) = ys[2]? := hf 2 _ rfl
  have h3 : DataW.trod enc Tryd.prog w base sp held n 3 ((cs.drop 3).take (Tryd.prog.cellsOf 3)) = ys[3]? := hf 3 _ rfl
  rw [cells_int] at h0 h3
  rw [cells_u32T] at h1
  rw [cells_intsT] at h2
  rw [List.getElem?_eq_getElem (by omega)] at h0 h1 h2 h3
  obtain ⟨z0, c0, _, _⟩ := DataW.trod_int Tryd.underlying3 h0
  obtain ⟨z1, c1, _, _⟩ := DataW.trod_int Tryd.underlying23 h1
  obtain ⟨z3, c3, _, _⟩ := DataW.trod_int Tryd.underlying3 h3
  obtain ⟨u, hu⟩ : ∃ u, (cs.drop 2).take 1 = [u] := ⟨cs[2]'(by omega), by rw [List.drop_eq_getElem_cons (by omega)]; rfl⟩
  rw [hu] at h2
  obtain ⟨a, m, c, row, rfl, hmc, hr⟩ := ints_trod N h2
  refine ⟨z0, z1, z3, a, m, c, row, ?_, hmc, hr⟩
  have a0 := at_one _ _ _ c0
  have a1 := at_one _ _ _ c1
  have a2 := at_one _ _ _ hu
  have a3 := at_one _ _ _ c3
  apply List.ext_getElem?
  intro i
  by_cases hi : i < 4
  · have hc : i = 0 ∨ i = 1 ∨ i = 2 ∨ i = 3 := by omega
    rcases hc with rfl | rfl | rfl | rfl
    · rw [a0]; rfl
    · rw [a1]; rfl
    · rw [a2]; rfl
    · rw [a3]; rfl
  · rw [List.getElem?_eq_none (by omega), List.getElem?_eq_none (by simp; omega)]
set_option maxRecDepth 100000 in
/-- a finding among the arguments, by value -/
theorem open_found (N : Nat) {H : Type} {enc : TypeId × Value → H} {W w : World} {r : Reach} {b0 base : Nat} {sp : Nat → Bool} {held : Bool} {v : Value} {d : DataW H} {p : List MemPlace} (hv : Value.okWide Tryd.prog W r b0 26 v) (h : DataW.Trod enc Tryd.prog w base sp held 26 v d p) :
    ∃ (x c s : Int) (a : Option Addr) (n cap : Nat) (row : List Int), v = .agg #[.int .i64 x, .int .u32 c, .slice a n cap, .int .i64 s] ∧ n ≤ cap ∧ Rd w (.slice a (min (n : Int) N).toNat cap) (ints row) := by
  obtain ⟨cs, rfl, hsz⟩ := okWide_struct Tryd.underlying26 hv
  obtain ⟨fuel, hf⟩ := h
  obtain ⟨x, c, s, a, n, cap, row, hq, hn, hr⟩ := open_fd N _ _ _ hf
  refine ⟨x, c, s, a, n, cap, row, ?_, hn, hr⟩
  congr 1
  cases cs
  simpa [Value.cells] using hq
end Go.Proofs.YtnnjlefljmbhkaaDoor
/- A region that draws its order, whose operations only read and whose callees lay blocks of their own: walked once, in the order of the text, at the class of the worlds that lie over one. -/
namespace Go.Proofs.YtnnjlefljmbhkaaDoor
open Go.RowKit

/-- a world that lies over w: what lay in w lies as it lay -/
structure Ext (w : World) where
  wld : World
  below : Below w.heap.size w wld
instance (w : World) : Inhabited (Ext w) := ⟨⟨w, Below.refl _ w⟩⟩
theorem wp_region_ext {P : Program} {id : Nat} {Q : Exit → Act → World → Prop} {a : Act} {w : World} {l : List Oper} (hm : P.follows .mixedOrders = true) (hB : Region.lexB .any l.toArray = true)
    (h : wpQuiet P l.toArray (fun w' => ∃ p : Ext w, w' = p.wld) (fun a' => ∀ w', (∃ p : Ext w, w' = p.wld) → Q .normal a' w') l a) : (Code.region id l.toArray true).wp P Q a w :=
  wp_region_quiet (C := fun w' => ∃ p : Ext w, w' = p.wld) hm hB ⟨⟨w.drew, (Below.refl _ w).drew⟩, rfl⟩ (by simpa using h)
theorem calls_ext {P : Program} {f : FuncId} {args : Array Value} {w : World} {p : Ext w} {v : Value}
    (h : ∀ W, Below w.heap.size w W → Calls P f args W fun e w' => e = .returned v ∧ Below W.heap.size W w') : Calls P f args p.wld fun e w'' => e = .returned v ∧ ∃ q : Ext w, w'' = q.wld :=
  (h p.wld p.below).mono fun _ w' ⟨he, hb⟩ => ⟨he, ⟨w', p.below.trans (hb.mono p.below.size)⟩, rfl⟩
/-- a load in such a region, its run laid as an equation -/
theorem quiet_load {P : Program} {ops : Array Oper} {w : World} {Q : Act → Prop} {op : Oper} {rest : List Oper} {a : Act} (hw : Region.wanted op (yielded ops a.tmps) = true) (ty : TypeId) (x : Operand) (ho : op.op = .load ty x) {y v : Value} (hx : a.eval x = y)
    (he : ∀ p : Ext w, (Instr.loadAt ty y).run P p.wld = .ok v p.wld) (h : wpQuiet P ops (fun w' => ∃ p : Ext w, w' = p.wld) Q rest (a.put op.dst v)) : wpQuiet P ops (fun w' => ∃ p : Ext w, w' = p.wld) Q (op :: rest) a := by
  unfold wpQuiet
  rw [if_pos hw]
  refine ⟨v, ?_, h⟩
  rintro W ⟨p, rfl⟩
  unfold Oper.quietAt execOp
  simp only [ho, hx, Sem.run_bind, he p]
  exact ⟨rfl, rfl⟩
end Go.Proofs.YtnnjlefljmbhkaaDoor
/- Plain words: the places left as bits; a loop over all places, of which some are left. -/
namespace Go.Proofs.YtnnjlefljmbhkaaDoor.WPlain
end Go.Proofs.YtnnjlefljmbhkaaDoor.WPlain
namespace Go.Proofs.YtnnjlefljmbhkaaDoor.QPlain
end Go.Proofs.YtnnjlefljmbhkaaDoor.QPlain
namespace Go.Proofs.YtnnjlefljmbhkaaDoor.RPlain
open WPlain QPlain

/-- those of who that are not in a row, as bits -/
def leftW (who : Nat) (row : List Nat) : Nat := row.foldl (fun acc k => lessN acc (2 ^ k)) who
theorem leftW_snoc (who : Nat) (row : List Nat) (k : Nat) : leftW who (row ++ [k]) = lessN (leftW who row) (2 ^ k) := by simp [leftW]
theorem leftW_lt {who : Nat} (h : who < 64) (row : List Nat) : leftW who row < 64 := by
  have : ∀ (r : List Nat) (x : Nat), x < 64 → r.foldl (fun acc k => lessN acc (2 ^ k)) x < 64 := by
    intro r
    induction r with
    | nil => intro x h; exact h
    | cons k t ih => intro x h; exact ih _ (Nat.lt_of_le_of_lt (lessN_le _ _) h)
  exact this row _ h
theorem pow_le_64 {n : Nat} (h : n ≤ 6) : 2 ^ n ≤ 64 := Nat.pow_le_pow_right (n := 2) (i := n) (j := 6) (by decide) h
theorem leftW_test {l : List Tx} {who : Nat} {row : List Nat} (h6 : l.length ≤ 6) (hw : who < 2 ^ l.length) (hr : ∀ k ∈ row, k < l.length) (j : Nat) : (leftW who row).testBit j = decide (j ∈ leftS l who row) := by
  have hw64 := Nat.lt_of_lt_of_le hw (pow_le_64 h6)
  unfold leftW
  rw [left_fold j row who hw64 (fun k hk => by have := hr k hk; omega), Bool.eq_iff_iff, decide_eq_true_eq, left_mem, Bool.and_eq_true]
  constructor
  · rintro ⟨h1, h2⟩
    refine ⟨?_, h1, by simpa using h2⟩
    rcases Nat.lt_or_ge j l.length with h | h
    · exact h
    · rw [Nat.testBit_lt_two_pow (Nat.lt_of_lt_of_le hw (Nat.pow_le_pow_right (by decide) h))] at h1
      cases h1
  · rintro ⟨_, h2, h3⟩
    exact ⟨h2, by simpa using h3⟩
theorem leftW_zero {l : List Tx} {who : Nat} {row : List Nat} (h6 : l.length ≤ 6) (hw : who < 2 ^ l.length) (hr : ∀ k ∈ row, k < l.length) : leftW who row = 0 ↔ leftS l who row = [] := by
  constructor
  · intro h
    refine List.eq_nil_iff_forall_not_mem.2 fun k hk => ?_
    have h1 := leftW_test h6 hw hr k
    rw [h, Nat.zero_testBit, decide_eq_true hk] at h1
    cases h1
  · intro h
    refine Nat.eq_of_testBit_eq fun j => ?_
    rw [leftW_test h6 hw hr, h, Nat.zero_testBit]
    simp
theorem after_lt (l : List Tx) (h6 : l.length ≤ 6) : ∀ a ∈ afterS l, a < 64 := fun a ha => by
  obtain ⟨X, _, rfl⟩ := List.mem_map.1 ha
  exact Nat.lt_of_lt_of_le (afterN_lt _ _) (pow_le_64 h6)
/-- may a place come next? -/
theorem next_free {l : List Tx} {who : Nat} {row : List Nat} (h6 : l.length ≤ 6) (hw : who < 2 ^ l.length) (hr : ∀ k ∈ row, k < l.length) (k : Nat) :
    (nextS (afterS l) (leftW who row) (afterS l).length).testBit k = (decide (k ∈ leftS l who row) && freeS l (leftS l who row) k) := by
  have h64 := leftW_lt (Nat.lt_of_lt_of_le hw (pow_le_64 h6)) row
  rw [nextS_test (fun a ha => by have := after_lt l h6 a ha; omega) (by omega), leftW_test h6 hw hr, afterS_len]
  congr 1
  rw [Bool.eq_iff_iff, List.all_eq_true, free_iff']
  constructor
  · intro h i hi
    have hi2 := (left_mem.1 hi).1
    have h1 := h i (List.mem_range.2 hi2)
    rw [leftW_test h6 hw hr, decide_eq_true hi, aft_after] at h1
    simpa using h1
  · intro h i hi
    rw [leftW_test h6 hw hr, aft_after]
    by_cases hm : i ∈ leftS l who row
    · rw [h i hm]; simp
    · simp [hm]
/-- those left from a place on -/
def restS (l : List Tx) (who : Nat) (row : List Nat) (p : Nat) : List Nat := ((List.range l.length).drop p).filter fun k => who.testBit k && !row.contains k
theorem rest_zero (l : List Tx) (who : Nat) (row : List Nat) : restS l who row 0 = leftS l who row := rfl
theorem rest_end (l : List Tx) (who : Nat) (row : List Nat) : restS l who row l.length = [] := by
  unfold restS
  rw [List.drop_eq_nil_of_le (by simp)]; rfl
theorem rest_next {l : List Tx} {who : Nat} {row : List Nat} {p : Nat} (hp : p < l.length) : restS l who row p = if p ∈ leftS l who row then p :: restS l who row (p + 1) else restS l who row (p + 1) := by
  unfold restS
  rw [List.drop_eq_getElem_cons (by simpa using hp), List.getElem_range, List.filter_cons]
  by_cases h : p ∈ leftS l who row
  · rw [if_pos h, if_pos]
    have := left_mem.1 h
    simp [this.2.1, this.2.2]
  · rw [if_neg h, if_neg]
    intro hc
    refine h (left_mem.2 ⟨hp, ?_⟩)
    simpa using hc
/-- a round of the loop: a place that may not come, and one that may -/
theorem rest_skip {B : Nat} {rec : List Nat → Nat → Nat × List Nat × Nat} {l : List Tx} {who c : Nat} {row : List Nat} {p s : Nat} (hp : p < l.length)
    (h : (decide (p ∈ leftS l who row) && freeS l (leftS l who row) p) = false) :
    loopS B rec l c (leftS l who row) row (restS l who row p) s = loopS B rec l c (leftS l who row) row (restS l who row (p + 1)) s := by
  rw [rest_next hp]
  by_cases hm : p ∈ leftS l who row
  · rw [if_pos hm, loopS, if_pos (by simpa [hm] using h)]
  · rw [if_neg hm]
theorem rest_step {B : Nat} {rec : List Nat → Nat → Nat × List Nat × Nat} {l : List Tx} {who c : Nat} {row : List Nat} {p s : Nat} (hp : p < l.length)
    (h : (decide (p ∈ leftS l who row) && freeS l (leftS l who row) p) = true) :
    loopS B rec l c (leftS l who row) row (restS l who row p) s = if s = B then (2, [], s)
    else if okL l c (row ++ [p]) = true then (if (rec (row ++ [p]) (s + 1)).1 = 1 then loopS B rec l c (leftS l who row) row (restS l who row (p + 1)) (rec (row ++ [p]) (s + 1)).2.2 else rec (row ++ [p]) (s + 1))
      else loopS B rec l c (leftS l who row) row (restS l who row (p + 1)) (s + 1) := by
  rw [Bool.and_eq_true, decide_eq_true_eq] at h
  rw [rest_next hp, if_pos h.1, loopS, if_neg (by rw [h.2]; decide)]
end Go.Proofs.YtnnjlefljmbhkaaDoor.RPlain
