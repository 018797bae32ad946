/- Merged: CycE, KitQ. -/
import Derived.Test.YtmnblljenobofaaGreatDoorMg33
import Derived.Test.YtmnblljenobofaaGreatDoorMg21
import Derived.Test.YtmnblljenobofaaGreatDoorMg2
import Derived.Deep.DeepMust
import Derived.BigQuiet
import Derived.Deep.AppendLies
import Derived.ArgAppend
import Derived.Laws.IdiomCopy
import Derived.Maps.AppendAt
/- The walks of package cycle's mayBe and Walk. -/
namespace Go.Proofs.YtmnblljenobofaaGreatDoor.RPlain
end Go.Proofs.YtmnblljenobofaaGreatDoor.RPlain
namespace Go.Proofs.YtmnblljenobofaaGreatDoor.RPlain

/-- may edges be? -/
def mayCy (A : List Nat) : Bool := decide (A.length ≤ 6) && !A.any fun a => decide (2 ^ A.length ≤ a)
end Go.Proofs.YtmnblljenobofaaGreatDoor.RPlain
namespace Go.Proofs.YtmnblljenobofaaGreatDoor
open Go.RowKit RPlain

/-- has a number a bit that is no place's? -/
def overB (n x : Nat) : Bool := decide (2 ^ n ≤ x)
theorem isOver_any (x n P : Nat) (a : Option Addr) (c : Nat) (hn : n < 32) (w : World) (hc : w.cell? ⟨P, 0, none⟩ = some (.slice a n c)) :
    Calls Tryz.prog 98 #[.int .u32 (x : Int), .pointer (some ⟨P, 0, none⟩)] w fun e w' => e = .returned (.bool (overB n x)) ∧ w' = w := by
  have HBT := bitCy_all n hn
  have HF : Hid (overB n x = decide (2 ^ n ≤ x)) := rfl
  obtain ⟨pw, hpw⟩ : ∃ pw, 2 ^ n = pw := ⟨_, rfl⟩
  rw [hpw] at HBT HF
  clear hpw
  go_enter Tryz.func98, Tryz.ntmps98
  go_wp2_with (go_at_call 99; refine (HBT.out _).mono ?_; rintro e w3 ⟨rfl, hw3⟩; rw [hw3]; clear hw3)
  go_ret
  exact ⟨ret_bool (by rw [HF.out, Bool.eq_iff_iff]), rfl⟩
set_option maxRecDepth 100000 in
set_option maxHeartbeats 1000000 in
theorem indexOv_any (v : Value) (A : List Nat) (n P : Nat) (a : Option Addr) (c : Nat) (hn : n < 32) (w : World) (hv : Rd w v (u32s A)) (hl : A.length ≤ 65536) (hc : w.cell? ⟨P, 0, none⟩ = some (.slice a n c)) :
    Calls Tryz.prog 124 #[v, .func (.func 98) #[] #[.pointer (some ⟨P, 0, none⟩)]] w fun e w' => (∃ z : Int, e = .returned (.int .i64 z) ∧ decide (0 ≤ z) = A.any (overB n)) ∧ w' = w := by
  have HV := Lib.hid hv
  have HCL := Lib.hid (fun x => isOver_any x n P a c hn w hc)
  obtain ⟨va, vc, rfl⟩ := hv.len
  rw [u32s_len] at HV ⊢
  clear hv hc
  go_enter Tryz.func124, Tryz.ntmps124
  go_wp2_with fail
  go_loopw [8] (fun x wr => ∃ k : Nat, k ≤ A.length ∧ x = .int .i64 k ∧ Hid ((A.take k).any (overB n) = false) ∧ wr = w) (fun x _ => A.length - (intOf x).toNat)
  case atStart => exact ⟨0, by omega, rfl, rfl, rfl⟩
  case round =>
    obtain ⟨k, hk, rfl, HT0, rfl⟩ := hrel
    by_cases hlt : k < A.length
    · have HT : Hid (A.take (k + 1) = A.take k ++ [A[k]]) := List.take_succ_eq_append_getElem hlt
      have HM : Hid (A[k] ∈ A) := List.getElem_mem hlt
      obtain ⟨b, o, c', he, hbl, hcs⟩ := HV.out.opened (by rw [u32s_len]; omega)
      simp only [Value.slice.injEq] at he
      obtain ⟨rfl, -, rfl⟩ := he
      have hck := hcs k _ (u32s_get hlt)
      have HC2 := Lib.hid (HCL.out A[k])
      clear hcs
      generalize A[k] = y at *
      cases hnb : overB n y with
      | false =>
        rw [hnb] at HC2
        have HA2 : Hid ((A.take (k + 1)).any (overB n) = false) := by
          unfold Hid
          rw [HT.out, List.any_append, HT0.out]
          simp [hnb]
        clear hnb HT HM HT0
        go_wp2_with (go_at_call 98; refine HC2.out.mono ?_; rintro e w3 ⟨rfl, rfl⟩)
        go_roundw
        case rel => exact ⟨k + 1, by omega, by go_num, HA2, trivial⟩
        case measure => simp [intOf]; omega
      | true =>
        rw [hnb] at HC2
        have HA2 : Hid (A.any (overB n) = true) := List.any_eq_true.2 ⟨y, HM.out, hnb⟩
        clear hnb HT HM HT0
        go_wp2_with (go_at_call 98; refine HC2.out.mono ?_; rintro e w3 ⟨rfl, rfl⟩)
        go_ret
        exact ⟨⟨_, rfl, by rw [HA2.out]; exact decide_eq_true (by omega)⟩, rfl⟩
    · obtain rfl : k = A.length := by omega
      have HA2 : Hid (A.any (overB n) = false) := by have := HT0.out; rwa [List.take_length] at this
      clear HT0
      go_wp2
      go_ret
      exact ⟨⟨_, rfl, by rw [HA2.out]; rfl⟩, rfl⟩
theorem containsOv_any (v : Value) (A : List Nat) (n P : Nat) (a : Option Addr) (c : Nat) (hn : n < 32) (w : World) (hv : Rd w v (u32s A)) (hl : A.length ≤ 65536) (hc : w.cell? ⟨P, 0, none⟩ = some (.slice a n c)) :
    Calls Tryz.prog 100 #[v, .func (.func 98) #[] #[.pointer (some ⟨P, 0, none⟩)]] w fun e w' => e = .returned (.bool (A.any (overB n))) ∧ w' = w := by
  have HI := Lib.hid (indexOv_any v A n P a c hn w hv hl hc)
  clear hv hl hc hn
  go_enter Tryz.func100, Tryz.ntmps100
  go_wp2_with fail
  refine HI.out.mono ?_
  rintro e w1 ⟨⟨z, rfl, hz⟩, rfl⟩
  go_wp2
  all_goals go_ret
  all_goals exact ⟨ret_bool (by rw [← hz]), rfl⟩
theorem mayBeCy_any (v : Value) (A : List Nat) (w : World) (hv : Rd w v (u32s A)) (hl : A.length ≤ 65536) :
    Calls Tryz.prog 67 #[v] w fun e w' => e = .returned (.bool (mayCy A)) ∧ Below w.heap.size w w' := by
  obtain ⟨va, vc, rfl⟩ := hv.len
  rw [u32s_len] at hv ⊢
  have HB := Lib.hid ((Below.refl w.heap.size w).alloc (Nat.le_refl _) (.cells #[.slice va A.length vc] 41))
  have HM : Hid (mayCy A = (decide (A.length ≤ 6) && !A.any (overB A.length))) := rfl
  by_cases h6 : A.length ≤ 6
  · have HC := Lib.hid (containsOv_any (.slice va A.length vc) A A.length w.heap.size va vc (by omega) (w.alloc (.cells #[.slice va A.length vc] 41)) (hv.below HB.out (Nat.le_refl _)) hl ((At.new w _ _).cell (i := 0) rfl))
    rw [decide_eq_true h6, Bool.true_and] at HM
    generalize A.any (overB A.length) = b at *
    generalize mayCy A = m at *
    clear hv
    go_enter Tryz.func67, Tryz.ntmps67
    go_wp2_with (go_at_call 100; refine HC.out.mono ?_; rintro e w3 ⟨rfl, rfl⟩)
    go_ret
    exact ⟨ret_bool HM.out.symm, HB.out⟩
  · rw [decide_eq_false h6, Bool.false_and] at HM
    generalize mayCy A = m at *
    clear hv
    go_enter Tryz.func67, Tryz.ntmps67
    go_wp2
    go_ret
    exact ⟨ret_bool HM.out.symm, HB.out⟩
end Go.Proofs.YtmnblljenobofaaGreatDoor
/- Small laws of memory, of no program: a queue of the call's own: what is left of a row cut at its head; append to it; its head cut off. -/
namespace Go.Proofs.YtmnblljenobofaaGreatDoor
open Go.RowKit

theorem grownBy_setCellA (W : World) (b o : Nat) (v : Value) : W.grownBy (W.setCell ⟨b, o, none⟩ v) (some b) :=
  ⟨rfl, rfl, rfl, by simp, fun k _ hne => Below.heap_setCell W ⟨b, o, none⟩ v k (fun e => hne (congrArg some e))⟩
theorem grownBy_setCells (b : Nat) : ∀ (vs : List Value) (o : Nat) (w : World), w.grownBy (w.setCells b o vs) (some b)
  | [], _, _ => ⟨rfl, rfl, rfl, Nat.le_refl _, fun _ _ _ => rfl⟩
  | v :: r, o, w => (grownBy_setCellA w b o v).trans (grownBy_setCells b r (o + 1) _)
/-- a queue of n elements of k cells each, the cells xs, in a block at or behind B -/
def Que (w : World) (B k : Nat) (v : Value) (n : Nat) (xs : List Value) : Prop :=
  xs.length = n * k ∧ ∃ g off cap, v = .slice (some ⟨g, off, none⟩) n cap ∧ B ≤ g ∧ g < w.heap.size ∧ n ≤ cap ∧ cap ≤ maxLen ∧
    (∀ j u, xs[j]? = some u → w.cell? ⟨g, off + j, none⟩ = some u) ∧ ∀ j, j < cap * k → (w.cell? ⟨g, off + j, none⟩).isSome = true ∧ w.frozen? ⟨g, off + j, none⟩ = false
section
variable {w w' : World} {B k : Nat} {v : Value} {n : Nat} {xs : List Value}
theorem Que.below {S : Nat} (h : Que w B k v n xs) (hb : Below S w w') (hs : w.heap.size ≤ S) : Que w' B k v n xs := by
  obtain ⟨h0, g, off, cap, rfl, h1, h2, h3, h4, h5, h6⟩ := h
  have hbb : w'.heap[g]? = w.heap[g]? := hb.block g (by omega)
  exact ⟨h0, g, off, cap, rfl, h1, Nat.lt_of_lt_of_le h2 hb.size, h3, h4, fun j u hu => (World.cell?_of_block (a := ⟨g, off + j, none⟩) hbb).trans (h5 j u hu),
    fun j hj => ⟨by rw [World.cell?_of_block (a := ⟨g, off + j, none⟩) hbb]; exact (h6 j hj).1, (World.frozen?_of_block (a := ⟨g, off + j, none⟩) hbb).trans (h6 j hj).2⟩⟩
theorem Que.lt (h : Que w B k v n xs) : ∀ g, v.ownBlock = some g → B ≤ g ∧ g < w.heap.size := by
  obtain ⟨h0, g, off, cap, rfl, h1, h2, _⟩ := h
  intro g' he
  simp only [Value.ownBlock, Option.some.injEq] at he
  subst he
  exact ⟨h1, h2⟩
theorem Que.of_row {e : TypeId} (h : w.ownsRow B e k v n xs) (hn : 0 < n) : Que w B k v n xs := by
  refine ⟨h.1, ?_⟩
  rcases h.2 with ⟨_, h0⟩ | ⟨g, cap, cur, rfl, hb, hg, h3, h4, h5, h6⟩
  · omega
  · refine ⟨g, 0, cap, rfl, hb, (Array.getElem?_eq_some_iff.1 hg).1, h3, h4, fun j u hu => ?_, fun j hj => ?_⟩
    · have := h.cells (g := g) rfl j u hu
      have hadd : (⟨g, 0, none⟩ : Addr).add j = ⟨g, 0 + j, none⟩ := by unfold Addr.add; split <;> simp_all
      rw [hadd] at this
      exact this
    · rw [Nat.zero_add]
      refine ⟨?_, by simp [World.frozen?, hg]⟩
      rw [cell_of_row w g j cur e (0, 0) hg, Array.getElem?_eq_getElem (by omega)]
      rfl
/-- its head cut off -/
theorem Que.tail {g off cap m : Nat} {ys zs : List Value} (h : Que w B k (.slice (some ⟨g, off, none⟩) (m + 1) cap) (m + 1) (ys ++ zs)) (hy : ys.length = k) :
    Que w B k (.slice (if cap = 1 then some ⟨g, off, none⟩ else some ⟨g, off + k, none⟩) m (cap - 1)) m zs := by
  obtain ⟨h0, g', off', cap', he, h1, h2, h3, h4, h5, h6⟩ := h
  simp only [Value.slice.injEq, Option.some.injEq, Addr.mk.injEq, and_true] at he
  obtain ⟨⟨rfl, rfl⟩, -, rfl⟩ := he
  rw [List.length_append, hy, Nat.add_mul, Nat.one_mul] at h0
  have hz : zs.length = m * k := by omega
  have hmul : (cap - 1) * k + k = cap * k := by rw [← Nat.succ_mul]; congr 1; omega
  by_cases hc : cap = 1
  · rw [if_pos hc]
    subst hc
    obtain rfl : m = 0 := by omega
    have hz0 : zs = [] := List.length_eq_zero_iff.1 (by omega)
    subst hz0
    exact ⟨by simp, g, off, 0, rfl, h1, h2, Nat.le_refl _, Nat.zero_le _, fun j u hu => (by simp at hu), fun j hj => by omega⟩
  · rw [if_neg hc]
    refine ⟨hz, g, off + k, cap - 1, rfl, h1, h2, by omega, by omega, fun j u hu => ?_, fun j hj => ?_⟩
    · have := h5 (k + j) u (by rw [List.getElem?_append_right (by omega), hy, Nat.add_sub_cancel_left]; exact hu)
      rw [Nat.add_assoc]
      exact this
    · have := h6 (k + j) (by omega)
      rw [Nat.add_assoc]
      exact this
end
section
variable {P : Program}
theorem run_append_que (w : World) (B : Nat) (t ty e : TypeId) (i : TypeInfo) (z : Value) (size bytes : Nat) (ht : P.underlying t = some (.slice e)) (hi : P.info? e = some i) (hz : i.zero = some z)
    (hsize : i.size = size) (hby : i.bytes = bytes) (hzs : z.cells.size = size) (hsz : 0 < size) (v : Value) (n : Nat) (xs : List Value) (hq : Que w B size v n xs)
    (a : Addr) (m c : Nat) (news : List Value) (hl : news.length = m * size) (hnews : ∀ j u, news[j]? = some u → w.cell? (a.add j) = some u) (h1 : ∀ u ∈ news, u.oneCell' = true) (hm : 0 < m)
    (h63 : n + m ≤ maxLen) (hbytes : (n + m) * bytes ≤ 140737488355328) (hbase : B ≤ w.heap.size) :
    ∃ v' w', (Builtin.append_ #[t, t] ty #[v, .slice (some a) m c]).run P w = .ok v' w' ∧ Que w' B size v' (n + m) (xs ++ news) ∧ w.grownBy w' v.ownBlock ∧ Lies w v v' := by
  subst hsize
  obtain ⟨h0, g, off, cap, rfl, hB, hg, hnc, hcm, hx, hth⟩ := hq
  by_cases hroom : n + m ≤ cap
  · have hmul : (n + m) * i.size ≤ cap * i.size := Nat.mul_le_mul_right _ hroom
    rw [Nat.add_mul] at hmul
    have hsome : ∀ j, j < news.length → (w.cell? ⟨g, off + n * i.size + j, none⟩).isSome = true := fun j hj => by rw [Nat.add_assoc]; exact (hth (n * i.size + j) (by omega)).1
    have hr := run_append_room_cells (P := P) w t ty e i ht hi g off n cap a m c news hl hnews h1 hroom hsome (fun j hj => by rw [Nat.add_assoc]; exact (hth (n * i.size + j) (by omega)).2)
    refine ⟨_, _, hr, ⟨by rw [List.length_append, h0, hl, Nat.add_mul], g, off, cap, rfl, hB, ?_, hroom, hcm, fun j u hu => ?_, fun j hj => ⟨?_, ?_⟩⟩, grownBy_setCells g news _ w, .inl rfl⟩
    · exact Nat.lt_of_lt_of_le hg (grownBy_setCells g news _ w).size
    · by_cases hj : j < xs.length
      · rw [List.getElem?_append_left hj] at hu
        rw [World.cell?_setCells_out g _ _ _ _ (fun _ _ => Or.inl (by show off + j < off + n * i.size; omega))]
        exact hx j u hu
      · rw [List.getElem?_append_right (by omega)] at hu
        have hlt := (List.getElem?_eq_some_iff.1 hu).1
        have := World.cell?_setCells_in g news (off + n * i.size) w hsome (j - xs.length) hlt
        rw [show off + n * i.size + (j - xs.length) = off + j from by omega] at this
        rw [this, ← List.getElem?_eq_getElem hlt]
        exact hu
    · by_cases hin : n * i.size ≤ j ∧ j < n * i.size + news.length
      · have := World.cell?_setCells_in g news (off + n * i.size) w hsome (j - n * i.size) (by omega)
        rw [show off + n * i.size + (j - n * i.size) = off + j from by omega] at this
        rw [this]; rfl
      · rw [World.cell?_setCells_out g _ _ _ _ (fun _ _ => by show off + j < off + n * i.size ∨ off + n * i.size + news.length ≤ off + j; omega)]
        exact (hth j hj).1
    · exact (World.frozen?_setCells g _ _ _ _).trans (hth j hj).2
  · obtain ⟨v', w', hr, h2, h3⟩ := run_append_arg_grows (P := P) w t ty e i z i.size bytes ht hi hz rfl hby hzs hsz ⟨g, off, none⟩ n cap xs h0
      (fun j u hu => by rw [show (⟨g, off, none⟩ : Addr).add j = ⟨g, off + j, none⟩ from by unfold Addr.add; split <;> simp_all]; exact hx j u hu) a m c news hl hnews (by omega) h63 hbytes
    have h4 := Que.of_row h2 (by omega)
    obtain ⟨q0, g', q1, q2, q3, q4, q5, q6, q7, q8, q9⟩ := h4
    exact ⟨v', w', hr, ⟨q0, g', q1, q2, q3, Nat.le_trans hbase q4, q5, q6, q7, q8, q9⟩, ⟨h3.os, h3.tape, h3.output, h3.size, fun k hk _ => h3.block k hk (by simp)⟩, .inr fun k hk => (h2.lt k hk).1⟩
theorem wpList_append_que (w : World) {ops : Array Oper} {rest : List Oper} {o : Oper} {a : Act} {Q : Exit → Act → World → Prop} (hgd : o.guard = none) (s x : Operand) (t : TypeId)
    (ho : o.op = .call { callee := .builtin .append, args := #[s, x], argTypes := #[t, t] })
    (B : Nat) (e : TypeId) (i : TypeInfo) (z : Value) (size bytes : Nat) (ht : P.underlying t = some (.slice e)) (hi : P.info? e = some i) (hz : i.zero = some z)
    (hsize : i.size = size) (hby : i.bytes = bytes) (hzs : z.cells.size = size) (hsz : 0 < size)
    (v : Value) (n : Nat) (xs : List Value) (hs : a.eval s = v) (hq : Que w B size v n xs)
    (ad : Addr) (m c : Nat) (news : List Value) (hx : a.eval x = .slice (some ad) m c) (hl : news.length = m * size) (hnews : ∀ j u, news[j]? = some u → w.cell? (ad.add j) = some u) (h1 : ∀ u ∈ news, u.oneCell' = true) (hm : 0 < m)
    (h63 : n + m ≤ maxLen) (hbytes : (n + m) * bytes ≤ 140737488355328) (hbase : B ≤ w.heap.size)
    (h : ∀ v' w', Que w' B size v' (n + m) (xs ++ news) → w.grownBy w' v.ownBlock → Lies w v v' → wpList P ops Q rest (a.put o.dst v') w') : wpList P ops Q (o :: rest) a w := by
  refine wpList_plain hgd fun K hK => ?_
  obtain ⟨v', w', hr, h2, h3, h4⟩ := run_append_que (P := P) w B t o.type e i z size bytes ht hi hz hsize hby hzs hsz v n xs hq ad m c news hl hnews h1 hm h63 hbytes hbase
  unfold Oper.wp execOp
  simp only [ho, resolve, invoke, builtin, Sem.run_bind, Sem.run_pure, Result.andThen_ok, List.map_toArray, List.map_cons, List.map_nil, hs, hx, hr]
  exact hK _ _ (h v' w' h2 h3 h4)
/-- q = q[1:] -/
theorem run_tail (w : World) (t e : TypeId) (k g off n cap : Nat) (ht : P.underlying t = some (.slice e)) (hi : (P.info? e).map (·.size) = some k) (hn : 0 < n) (hc : n ≤ cap) :
    (Instr.sliceAt t (.slice (some ⟨g, off, none⟩) n cap) (some (.int .i64 1)) none none).run P w = .ok (.slice (if cap = 1 then some ⟨g, off, none⟩ else some ⟨g, off + k, none⟩) (n - 1) (cap - 1)) w := by
  have hadd : (⟨g, off, none⟩ : Addr).add k = ⟨g, off + k, none⟩ := by unfold Addr.add; split <;> simp_all
  have h1 : (1 : Int) ≤ (n : Int) := by omega
  cases hq : P.info? e with
  | none => simp [hq] at hi
  | some i =>
    have hs : i.size = k := by simpa [hq] using hi
    by_cases hcap : cap = 1
    · subst hcap
      simp [Instr.sliceAt, Instr.slice, Instr.sliceBounds, Instr.sliceBound, asIntOf, Sem.run_bind, run_underlying ht, sizeOf, typeInfo, hq, h1]
    · simp [Instr.sliceAt, Instr.slice, Instr.sliceBounds, Instr.sliceBound, asIntOf, Sem.run_bind, run_underlying ht, sizeOf, typeInfo, hq, hs, h1, hcap, hadd]
theorem wpList_tail (w : World) {ops : Array Oper} {rest : List Oper} {o : Oper} {a : Act} {Q : Exit → Act → World → Prop} (hgd : o.guard = none) (s : Operand) (t : TypeId) (ho : o.op = .slice t s (some (.const (.int .i64 1))) none none)
    (e : TypeId) (k g off n cap : Nat) (ht : P.underlying t = some (.slice e)) (hi : (P.info? e).map (·.size) = some k) (hn : 0 < n) (hc : n ≤ cap) (hs : a.eval s = .slice (some ⟨g, off, none⟩) n cap)
    (h : ∀ v', v' = .slice (if cap = 1 then some ⟨g, off, none⟩ else some ⟨g, off + k, none⟩) (n - 1) (cap - 1) → wpList P ops Q rest (a.put o.dst v') w) : wpList P ops Q (o :: rest) a w := by
  refine wpList_plain hgd fun K hK => ?_
  have hr := run_tail (P := P) w t e k g off n cap ht hi hn hc
  have hk1 : a.eval (.const (.int .i64 1)) = .int .i64 1 := rfl
  unfold Oper.wp execOp
  simp only [ho, hs, hk1, Option.map_some, Option.map_none, Sem.run_bind, hr]
  exact hK _ _ (h _ rfl)
end
end Go.Proofs.YtmnblljenobofaaGreatDoor
