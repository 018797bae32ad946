/- Merged: RegK, OpqC. -/
import Derived.Test.YtjefmfbncjdofaaDoorRows
import Derived.Test.YtjefmfbncjdofaaDoorSrlD
import Derived.Test.YtjefmfbncjdofaaDoorMg21
import Derived.Test.YtjefmfbncjdofaaDoorMg9
import Derived.Test.YtjefmfbncjdofaaDoorOrdE
import Derived.Test.YtjefmfbncjdofaaDoorMg22
import Derived.Deep.RegionHeld
import Derived.RangeFuncBox
import Derived.RangeFuncLeaves
import Derived.Shelf.Abstract
import Derived.WalkKit
import Derived.OwnWalkIn
import Derived.TacticsInMore
import Derived.LoopNIn
import Derived.LoopIn
import Derived.Deep.OwnRows
/- A region that draws its order, whose loads lie ahead of the stores that turn what they read: a load is taken first where what it reads stands until the store that waits for it. -/
namespace Go.Proofs.YtjefmfbncjdofaaDoor

section
variable {P : Program} {ops : Array Oper} {Q : Exit → Act → World → Prop} {md : Region.Mode} {T : Nat → World → Prop}

/-- whatever order is picked from here on; and behind each operation T k holds of each number k that is still to come -/
def wpAnyK (P : Program) (md : Region.Mode) (ops : Array Oper) (Q : Exit → Act → World → Prop) (T : Nat → World → Prop) : Nat → Array Bool → Act → World → Prop
  | 0, listed, a, w => Region.ready md ops listed = [] ∧ Q .normal a w
  | fuel + 1, listed, a, w =>
    (Region.ready md ops listed = [] → Q .normal a w) ∧
    ∀ i ∈ Region.ready md ops listed, wpOp P ops Q i (fun a' w' => (∀ k, (listed.setIfInBounds i true).getD k true = false → T k w') ∧ wpAnyK P md ops Q T fuel (listed.setIfInBounds i true) a' w') a w
theorem wpAny_of_upto : ∀ (fuel : Nat) (listed : Array Bool) (a : Act) (w : World), wpAnyK P md ops Q T fuel listed a w → wpAny P md ops Q fuel listed a w
  | 0, _, _, _, h => h
  | fuel + 1, _, _, _, h => ⟨h.1, fun i hi => wpOp_mono (fun a' w' h' => wpAny_of_upto fuel _ a' w' h'.2) (h.2 i hi)⟩
/-- does number k wait for number i? -/
def waitsB (md : Region.Mode) (ops : Array Oper) (k i : Nat) : Bool := match ops[k]? with
  | some o => o.after.any fun e => Region.binds md e && e.on == i
  | none => false
theorem waits_spec {k i : Nat} (h : waitsB md ops k i = true) : ∃ o e, ops[k]? = some o ∧ e ∈ o.after ∧ Region.binds md e = true ∧ e.on = i := by
  unfold waitsB at h
  cases ho : ops[k]? with
  | none => rw [ho] at h; cases h
  | some o =>
    rw [ho] at h
    dsimp only at h
    obtain ⟨e, he, hb⟩ := Array.any_eq_true'.1 h
    simp only [Bool.and_eq_true, beq_iff_eq] at hb
    exact ⟨o, e, rfl, he, hb.1, hb.2⟩
theorem wpAnyK_first {i : Nat} {oi : Oper} {v : Value} (k : Nat) (hTi : ∀ w, T i w) (hi : ops[i]? = some oi) (hik : i ≠ k) (hw : waitsB md ops k i = true) (hsel : ∀ (j : Nat) (o : Oper) cs b, ops[j]? = some o → o.op ≠ .select cs b)
    (hQ : ∀ c a w, Q (.panic c) (a.put oi.dst v) w → Q (.panic c) a w) :
    ∀ (fuel : Nat) (listed : Array Bool) (a : Act) (w : World),
      (∀ j oj, ops[j]? = some oj → j ≠ i → listed.getD j true = false → (∀ e ∈ oj.after, Region.binds md e = true → e.on ≠ i) → oi.apart ops oj = true) →
      i ∈ Region.ready md ops listed → listed.getD k true = false → YieldsIf P ops (T k) oi v a → (∀ k, listed.getD k true = false → T k w) →
      wpAnyK P md ops Q T fuel (listed.setIfInBounds i true) (a.put oi.dst v) w → wpAnyK P md ops Q T (fuel + 1) listed a w := by
  intro fuel
  induction fuel with
  | zero =>
    intro listed a w _ hr hku hy hS H
    have hun' : ∀ {k' : Nat}, (listed.setIfInBounds i true).getD k' true = false → listed.getD k' true = false := fun {k'} h' => by
      by_cases e : i = k'
      · subst e; exact (mem_ready.1 hr).1
      · rw [getD_set_ne true e] at h'; exact h'
    refine ⟨fun h => (by rw [h] at hr; cases hr), fun j hj => ?_⟩
    by_cases hji : j = i
    · subst hji; exact hy.wpOp hi (hS k hku) ⟨fun k' hk' => hS k' (hun' hk'), H⟩
    · have := ready_mono hj hji
      rw [H.1] at this
      cases this
  | succ fuel ih =>
    intro listed a w hfree hr hku hy hS H
    have hun' : ∀ {k' : Nat}, (listed.setIfInBounds i true).getD k' true = false → listed.getD k' true = false := fun {k'} h' => by
      by_cases e : i = k'
      · subst e; exact (mem_ready.1 hr).1
      · rw [getD_set_ne true e] at h'; exact h'
    refine ⟨fun h => (by rw [h] at hr; cases hr), fun j hj => ?_⟩
    by_cases hji : j = i
    · subst hji; exact hy.wpOp hi (hS k hku) ⟨fun k' hk' => hS k' (hun' hk'), H⟩
    · have h1 := H.2 j (ready_mono hj hji)
      obtain ⟨hjun, oj, hoj, hall⟩ := mem_ready.1 hj
      have h0 := (mem_ready.1 hr).1
      have hun : listed.getD i false ≠ true := fun h1 => by
        rcases Nat.lt_or_ge i listed.size with h' | h'
        · simp [h'] at h0 h1; rw [h0] at h1; cases h1
        · simp [Array.getElem?_eq_none h'] at h1
      have hnot : ∀ e ∈ oj.after, Region.binds md e = true → e.on ≠ i := fun e he hb heq => by
        have h1 := hall e he hb
        rw [heq] at h1
        exact hun h1
      have hjk : j ≠ k := fun e => by
        subst e
        obtain ⟨o, e, ho, he, hb, hon⟩ := waits_spec hw
        rw [hoj] at ho
        cases ho
        exact hnot e he hb hon
      have hk2 : (listed.setIfInBounds j true).getD k true = false := by rw [getD_set_ne true hjk]; exact hku
      have h2 := wpOp_putIf hoj (hfree j oj hoj hji hjun hnot) (fun cs b => hsel i oi cs b hi) (fun cs b => hsel j oj cs b hoj) hQ hy h1
      have hfree' : ∀ k ok, ops[k]? = some ok → k ≠ i → (listed.setIfInBounds j true).getD k true = false →
          (∀ e ∈ ok.after, Region.binds md e = true → e.on ≠ i) → oi.apart ops ok = true := fun k ok hk hki hun hno => by
        refine hfree k ok hk hki ?_ hno
        by_cases hjk : j = k
        · subst hjk; exact hjun
        · rw [getD_set_ne true hjk] at hun; exact hun
      refine wpOp_mono (fun a' w' h3 => ?_) h2
      have hT : ∀ k', (listed.setIfInBounds j true).getD k' true = false → T k' w' := fun k' hk' => by
        by_cases e : i = k'
        · subst e; exact hTi w'
        · refine h3.2.1 k' ?_
          rw [← Array.setIfInBounds_comm _ _ hji, getD_set_ne true e]
          exact hk'
      refine ⟨hT, ih (listed.setIfInBounds j true) a' w' hfree' (ready_mono hr (Ne.symm hji)) hk2 h3.1 hT ?_⟩
      rw [Array.setIfInBounds_comm _ _ hji]
      exact h3.2.2
/-- number i may be taken first -/
theorem wpAnyK_take {i : Nat} {oi : Oper} {v : Value} {fuel : Nat} {listed : Array Bool} {a : Act} {w : World} (k : Nat) (hi : ops[i]? = some oi)
    (hs : Region.noSelect ops = true) (hf : Region.free md ops listed i = true) (hr : (Region.ready md ops listed).contains i = true) (hw : (waitsB md ops k i && (i != k) && !(listed.getD k true)) = true)
    (hQ : ∀ c a w, Q (.panic c) (a.put oi.dst v) w → Q (.panic c) a w) (hTi : ∀ w, T i w) (hy : YieldsIf P ops (T k) oi v a) (hS : ∀ k, listed.getD k true = false → T k w)
    (h : wpAnyK P md ops Q T fuel (listed.setIfInBounds i true) (a.put oi.dst v) w) : wpAnyK P md ops Q T (fuel + 1) listed a w := by
  simp only [Bool.and_eq_true, bne_iff_ne, Bool.not_eq_true'] at hw
  exact wpAnyK_first k hTi hi hw.1.2 hw.1.1 (Region.noSelect_spec hs) hQ fuel listed a w (Region.free_spec hi hf) (by simpa using hr) hw.2 hy hS h
/-- each of some numbers comes up next -/
def AllReadyK (P : Program) (md : Region.Mode) (ops : Array Oper) (Q : Exit → Act → World → Prop) (T : Nat → World → Prop) (fuel : Nat) (listed : Array Bool) (a : Act) (w : World) (rs : List Nat) : Prop :=
  ∀ i ∈ rs, wpOp P ops Q i (fun a' w' => (∀ k, (listed.setIfInBounds i true).getD k true = false → T k w') ∧ wpAnyK P md ops Q T fuel (listed.setIfInBounds i true) a' w') a w
theorem AllReadyK.nil {fuel : Nat} {listed : Array Bool} {a : Act} {w : World} : AllReadyK P md ops Q T fuel listed a w [] := fun _ h => by cases h
theorem AllReadyK.cons {fuel : Nat} {listed : Array Bool} {a : Act} {w : World} {i : Nat} {o : Oper} {rs : List Nat} (ho : ops[i]? = some o)
    (h : ∀ K' : Act → World → Prop, Shut (∀ a w, (∀ k, (listed.setIfInBounds i true).getD k true = false → T k w) → wpAnyK P md ops Q T fuel (listed.setIfInBounds i true) a w → K' a w) → if Region.wanted o (yielded ops a.tmps) = true then Oper.wp P o a w K' Q else K' (a.put o.dst undef) w)
    (hs : AllReadyK P md ops Q T fuel listed a w rs) : AllReadyK P md ops Q T fuel listed a w (i :: rs) := fun j hj => by
  rcases List.mem_cons.1 hj with rfl | hj
  · exact wpOp_step ho (fun K' hK => h K' (fun a w hT hW => hK a w ⟨hT, hW⟩))
  · exact hs j hj
theorem wpAnyK_ready {rs : List Nat} {fuel : Nat} {listed : Array Bool} {a : Act} {w : World} (hr : Region.ready md ops listed = rs) (hne : rs ≠ [])
    (h : AllReadyK P md ops Q T fuel listed a w rs) : wpAnyK P md ops Q T (fuel + 1) listed a w :=
  ⟨fun h0 => absurd (hr ▸ h0) hne, hr ▸ h⟩
theorem wpAnyK_done {listed : Array Bool} {a : Act} {w : World} (hr : Region.ready md ops listed = []) (h : Q .normal a w) : ∀ fuel, wpAnyK P md ops Q T fuel listed a w
  | 0 => ⟨hr, h⟩
  | _ + 1 => ⟨fun _ => h, by rw [hr]; simp⟩
theorem wp_region_upto {id : Nat} {a : Act} {w : World} (T : Nat → World → Prop) (hm : P.follows .mixedOrders = true)
    (h : wpAnyK P .any ops Q T ops.size (Array.replicate ops.size false) a w.drew) : (Code.region id ops true).wp P Q a w :=
  wp_region_any hm (wpAny_of_upto _ _ _ _ h)
/-- what a store turns is asked of no one behind it -/
theorem upto_all {listed : Array Bool} {w : World} (h : ∀ k, T k w) : ∀ k, listed.getD k true = false → T k w := fun k _ => h k
end
end Go.Proofs.YtjefmfbncjdofaaDoor
/- The walks of package opaque's prefixes and Check: a loop over a function that ends ahead of its time. -/
namespace Go.Proofs.YtjefmfbncjdofaaDoor.WPlain
end Go.Proofs.YtjefmfbncjdofaaDoor.WPlain
namespace Go.Proofs.YtjefmfbncjdofaaDoor.QPlain
end Go.Proofs.YtjefmfbncjdofaaDoor.QPlain
namespace Go.Proofs.YtjefmfbncjdofaaDoor.RPlain
end Go.Proofs.YtjefmfbncjdofaaDoor.RPlain
namespace Go.Proofs.YtjefmfbncjdofaaDoor
open Go.RowKit Go.Shelf WPlain QPlain RPlain

attribute [local go_sem] Oper.semAt_some

/-- the first x events' slice -/
abbrev encX (a : Option Addr) (c : Nat) {n : Nat} (x : Fin n) : Array Value := #[.slice a x.val c]
theorem fins_snoc (n k : Nat) (hk : k < n) : (List.finRange n).take k ++ [⟨k, hk⟩] = (List.finRange n).take (k + 1) := by
  rw [List.take_succ_eq_append_getElem (by simpa using hk)]
  simp
set_option maxRecDepth 100000 in
set_option maxHeartbeats 1000000 in
theorem prefixes1_in (F : Fence) (m : Nat) (hf : F.fn 33) (hro : F.round = none) (hm : 1 ≤ m) (l Bn : Nat) (a : Option Addr) (n c : Nat) (hn : n ≤ 65536) (hnc : n ≤ c) (J Jx : List (Fin (n + 1)) → World → Prop)
    (hY : ∀ pre (x : Fin (n + 1)) W, J pre W → pre.length < n + 1 → YieldAt F (m - 1) Tryd.prog l (encX a c x) W fun e W' =>
      (e = .returned (.bool true) ∧ J (pre ++ [x]) W' ∧ KpC Bn W W') ∨ (e = .returned (.bool false) ∧ Jx (pre ++ [x]) W'))
    (W : World) (hBn : W.cell? ⟨Bn, 0, none⟩ = some (.slice a n c)) (h0 : J [] W) :
    CallsIn F m Tryd.prog 33 #[.func (.yield l) #[] #[], .pointer (some ⟨Bn, 0, none⟩)] W fun e W' => (∃ v, e = .returned v) ∧
      ((∃ ys, ys = List.finRange (n + 1) ∧ J ys W') ∨ (∃ pre, pre <+: List.finRange (n + 1) ∧ Jx pre W')) := by
  refine callsIn_of_wp Tryd.func33 rfl hf ?_ hro
  simp only [Tryd.ntmps33, List.size_toArray, List.length_cons, List.length_nil, Nat.reduceAdd, Nat.reduceSub, Array.replicate_succ, Array.replicate_zero, List.push_toArray, List.append_toArray, List.nil_append, List.cons_append]
  gi_wp2
  have HB := Lib.hid hBn
  clear hBn
  gi_loopw [7] (fun p wr => ∃ i : Nat, i ≤ n + 1 ∧ p = .int .i64 (i : Int) ∧ Hid (wr.cell? ⟨Bn, 0, none⟩ = some (.slice a n c)) ∧ J ((List.finRange (n + 1)).take i) wr)
    (fun p _ => n + 1 - (intOf p).toNat)
  case atStart => exact ⟨0, by omega, rfl, HB, h0⟩
  case round =>
    clear HB h0
    obtain ⟨i, hi, rfl, hc, hJi⟩ := hrel
    by_cases hlt : i < n + 1
    · obtain ⟨fn, tmps, assign, body, hy, hR⟩ := hY _ ⟨i, hlt⟩ wr hJi (by simp; omega)
      dsimp only [encX] at hy
      have hcb := hc.out
      gi_wp2
      refine hR.mono ?_
      rintro e W3 (⟨rfl, hJ3, hk3⟩ | ⟨rfl, hJx3⟩)
      · have hc3 := Lib.hid (hk3 _ hc.out)
        rw [fins_snoc] at hJ3
        clear hk3 hR hJi
        gi_wp2
        go_roundw
        case rel => exact ⟨i + 1, by omega, by go_num, hc3, hJ3⟩
        case measure => simp [intOf]; omega
      · rw [fins_snoc] at hJx3
        gi_wp2
        refine bodyPost_ret (results_none rfl _ _ _) rfl ?_
        exact ⟨⟨_, rfl⟩, .inr ⟨_, List.take_prefix _ _, hJx3⟩⟩
    · obtain rfl : i = n + 1 := by omega
      rw [List.take_of_length_le (by simp)] at hJi
      gi_wp2
      go_end0
      exact ⟨⟨_, rfl⟩, .inl ⟨_, rfl, hJi⟩⟩
theorem prefixes_in (F : Fence) (m : Nat) (hf : F.fn 18) (hro : F.round = none) (a : Option Addr) (n c : Nat) (w : World) :
    CallsIn F m Tryd.prog 18 #[.slice a n c] w fun e w' => e = .returned (.func (.func 33) #[] #[.pointer (some ⟨w.heap.size, 0, none⟩)]) ∧ w' = w.alloc (.cells #[.slice a n c] 22) := by
  refine callsIn_of_wp Tryd.func18 rfl hf ?_ hro
  simp only [Tryd.ntmps18, List.size_toArray, List.length_cons, List.length_nil, Nat.reduceAdd, Nat.reduceSub, Array.replicate_succ, Array.replicate_zero, List.push_toArray, List.append_toArray, List.nil_append, List.cons_append]
  gi_wp2
  go_ret
  exact ⟨rfl, rfl⟩
theorem prefixes_stops (F : Fence) (m : Nat) (hf : F.fn 33) (hro : F.round = none) (hm : 1 ≤ m) (Bn : Nat) (a : Option Addr) (n c : Nat) (hn : n ≤ 65536) (hnc : n ≤ c) (w : World) (hBn : Bn < w.heap.size) (hc : w.cell? ⟨Bn, 0, none⟩ = some (.slice a n c)) :
    SeqStopsK F m Tryd.prog 33 #[.pointer (some ⟨Bn, 0, none⟩)] (encX a c (n := n + 1)) (KpC Bn) (fun ys => ys = List.finRange (n + 1)) (fun pre => pre <+: List.finRange (n + 1)) (n + 1) w := fun l J Jx W hW _ _ hY h0 =>
  prefixes1_in F m hf hro hm l Bn a n c hn hnc J Jx hY W ((hW.cell (p := ⟨Bn, 0, none⟩) hBn).trans hc) h0
end Go.Proofs.YtjefmfbncjdofaaDoor
