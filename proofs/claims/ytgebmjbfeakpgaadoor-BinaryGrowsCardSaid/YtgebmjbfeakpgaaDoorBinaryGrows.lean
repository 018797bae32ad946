/- For every row of events and every event: with one event more the bytes behind how many there are begin as they did, and there are more of them, or the events may not be (BinaryGrows returns true); what was in memory stays as it was. The listed table holds what the program's text lays in it. -/
import Derived.Test.YtgebmjbfeakpgaaDoorCards
import Derived.Test.YtgebmjbfeakpgaaDoorTie
import Derived.Test.YtgebmjbfeakpgaaDoorBinR
import Derived.Test.YtgebmjbfeakpgaaDoorLaidK
import Derived.Test.YtgebmjbfeakpgaaDoorOpenEv
import Derived.Carry
import Derived.Deep.Slices
import Derived.Deep.Fields
import Derived.ChangeSame
import Derived.ProofKit
import Derived.ShutString
import Derived.LaidMore
import Derived.Lay
import Derived.Deep.DeepHandedRow
namespace Go.Proofs.YtgebmjbfeakpgaaDoor.binaryGrows
open Go.ChangeShapes Go.WideShapes Go.ChangeAt Go.RowKit
open Go.ChangeMaps (open_string shut_string)

section
open Go.Deep WPlain
set_option maxRecDepth 100000 in
/-- the argument, cut to its first 59 -/
theorem open_events59 {H : Type} {enc : TypeId × Value → H} {W w : World} {r : Reach} {b0 base : Nat} {sp : Nat → Bool} {held : Bool} {v : Value} {d : DataW H} {p : List MemPlace} (hv : Value.okWide Tryd.prog W r b0 23 v) (h : DataW.Trod enc Tryd.prog w base sp held 23 v d p) :
    ∃ (a : Option Addr) (n c : Nat) (E : List Ev), v = .slice a n c ∧ n ≤ c ∧ (a = none → c = 0) ∧ Evs w (.slice a (min (n : Int) 59).toNat c) E := by
  obtain ⟨a, len, cap, rfl⟩ := okWide_slice Tryd.underlying23 hv
  obtain ⟨fuel, hf⟩ := h
  refine ⟨a, len, cap, ?_⟩
  rcases open_slice Tryd.underlying23 hf with ⟨hc, _⟩ | ⟨a', len', cap', m, n, D, Pl, hc, _, hle, hcm, hm, _, hi⟩
  · simp only [Value.cells, List.cons.injEq, Value.slice.injEq, and_true] at hc
    obtain ⟨rfl, rfl, rfl⟩ := hc
    exact ⟨[], rfl, Nat.le_refl _, fun _ => rfl, .inl ⟨rfl, _, _, rfl⟩⟩
  · simp only [Value.cells, List.cons.injEq, Value.slice.injEq, and_true] at hc
    obtain ⟨rfl, rfl, rfl⟩ := hc
    have hml : len ≤ m := by rw [hm]; split <;> omega
    obtain ⟨k, hk⟩ : ∃ k, k = (min (len : Int) 59).toNat := ⟨_, rfl⟩
    have hkl : k ≤ len := by omega
    rw [← hk]
    by_cases h0 : 0 < k
    · have hev : ∀ i, i < k → ∃ e : Ev, ∀ j, j < 4 → w.cell? ((a'.add (i * 4)).add j) = (evCells e)[j]? := by
        intro i hik
        obtain ⟨cs', h1, h2⟩ := hi i (by omega)
        rw [cells_ev] at h1
        obtain ⟨e, rfl⟩ := open_event h2
        obtain ⟨_, _, hat⟩ := World.cells?_some h1
        refine ⟨e, fun j hj => ?_⟩
        have := hat j hj
        rw [this, List.getElem?_eq_getElem (by simp [evCells]; omega)]
      have hE : ∃ E : List Ev, E.length = k ∧ ∀ i (h : i < E.length) j, j < 4 → w.cell? ((a'.add (i * 4)).add j) = (evCells E[i])[j]? := by
        clear hk hkl h0
        induction k with
        | zero => exact ⟨[], rfl, fun i h => absurd h (Nat.not_lt_zero _)⟩
        | succ k ih =>
          obtain ⟨E, hEl, hE⟩ := ih (fun i hik => hev i (by omega))
          obtain ⟨e, he⟩ := hev k (by omega)
          refine ⟨E ++ [e], by simp [hEl], fun i h j hj => ?_⟩
          by_cases hik : i < E.length
          · rw [List.getElem_append_left hik]; exact hE i hik j hj
          · have : i = k := by simp at h; omega
            subst this
            rw [List.getElem_append_right (by omega)]
            simp only [hEl, Nat.sub_self, List.getElem_cons_zero]
            exact he j hj
      obtain ⟨E, hEl, hE⟩ := hE
      obtain ⟨b, o, spot⟩ := a'
      have hc00 := hE 0 (by omega) 0 (by omega)
      have hspot : spot = none := by
        have h1 : w.cell? ⟨b, o, spot⟩ = some (.int .i64 E[0].k) := by simpa [Addr.add, evCells] using hc00
        simpa using World.cell?_spot h1
      subst hspot
      refine ⟨E, rfl, hle, (fun hh => by cases hh), .inr ⟨by omega, b, o, cap, by rw [hEl], ?_, fun i hi => ?_⟩⟩
      · have h1 : w.cell? ⟨b, o, none⟩ = some (.int .i64 E[0].k) := by simpa [Addr.add, evCells] using hc00
        exact cell_lt h1
      · have q0 := hE i hi 0 (by omega)
        have q1 := hE i hi 1 (by omega)
        have q2 := hE i hi 2 (by omega)
        have q3 := hE i hi 3 (by omega)
        rw [addr_plus, addr_plus] at q0 q1 q2 q3
        exact ⟨q0, q1, q2, q3⟩
    · have : k = 0 := by omega
      exact ⟨[], rfl, hle, (fun hh => by cases hh), .inl ⟨rfl, _, _, by rw [this]⟩⟩
set_option maxRecDepth 100000 in
theorem open_one {H : Type} {enc : TypeId × Value → H} {W w : World} {r : Reach} {b0 base : Nat} {sp : Nat → Bool} {held : Bool} {v : Value} {d : DataW H} {p : List MemPlace} (hv : Value.okWide Tryd.prog W r b0 42 v) (h : DataW.Trod enc Tryd.prog w base sp held 42 v d p) :
    ∃ k t u x : Int, v = .agg #[.int .i64 k, .int .i64 t, .int .i64 u, .int .i64 x] := by
  obtain ⟨cs, rfl, hsz⟩ := okWide_struct Tryd.underlying42 hv
  obtain ⟨fuel, hf⟩ := h
  obtain ⟨e, he⟩ := open_event hf
  refine ⟨e.k, e.t, e.v, e.x, ?_⟩
  congr 1
  cases cs
  simpa [Value.cells, evCells] using he
end
theorem own : ownKnob Tryd.prog.godebug = none := by kernel_rfl
theorem gKindType : (Tryd.prog.globals[0]?).map (·.type) = some 92 := by kernel_rfl
theorem gKind : Tryd.prog.globalNamed "recant/text.kinds" = some 0 := by kernel_rfl

theorem laidOut : laidOutB Tryd.prog = true := by kernel_rfl

theorem kinds {W : World} (h : laidMetH Tryd.prog Rows.binaryGrowsRow.laid W) : HasK W := by
  rw [MakeChecks.laidMetH_plain _ _ _ (by kernel_rfl)] at h
  obtain ⟨ps, ⟨g1, t1, cs1, f1, p1, q1, hg1, ht1, hv1, hd1, _, _⟩, _⟩ := h
  obtain rfl := Option.some.inj (gKind.symm.trans hg1)
  obtain rfl := Option.some.inj (gKindType.symm.trans ht1)
  exact kinds_have hg1 hv1 hd1

set_option maxRecDepth 100000 in
theorem contract (H : Type) (enc : TypeId × Value → H) (W : World) (base : Nat) (args : Array Value) (ds gs : List (DataW H)) (before : List MemPlace)
    (hval : ∀ (j : Nat) t v, Tryd.f6.params[j]? = some t → args[j]? = some v → Value.okWide Tryd.prog W .any base t v)
    (hW : DataW.Whole enc Tryd.prog Tryd.f6.params.toList Rows.binaryGrowsSpec.vars false W args.toList ds gs before) (hL : laidMetH Tryd.prog Rows.binaryGrowsRow.laid W) :
    Calls Tryd.prog 6 args W fun e W' => ∃ v, e = .returned v ∧ Rows.binaryGrowsSpec.post enc Tryd.prog Tryd.f6 false true false false W args v W' := by
  have hW' := hW
  obtain ⟨p, q, hA0, hV, rfl, hfz, hnd⟩ := hW
  have hA : DataW.TrodAll enc Tryd.prog W 0 (fun _ => true) true Tryd.f6.params.toList args.toList ds p := hA0
  rw [Tryd.params6] at hA hval
  obtain ⟨v0, vs0, d0, ds0, p0, q0, hargs, rfl, rfl, h0, r0⟩ := trodAll_cons hA
  obtain ⟨v1, vs1, d1, ds1, p1, q1, rfl, rfl, rfl, h1, r1⟩ := trodAll_cons r0
  obtain ⟨rfl, rfl, rfl⟩ := trodAll_nil r1
  obtain rfl : args = #[v0, v1] := by cases args; simp_all
  obtain ⟨rfl, rfl⟩ := trodVars_none hV
  obtain ⟨sa, sn, sc, E, rfl, hnc, hnil, hE⟩ := open_events59 (hval 0 23 v0 rfl rfl) h0
  obtain ⟨ek, et, eu, ex, rfl⟩ := open_one (hval 1 42 v1 rfl rfl) h1
  have hlt0 : ∀ x ∈ p0, x.block < W.heap.size := fun x hx => hA0.lt x (List.mem_append_left _ hx)
  have hlt1 : ∀ x ∈ p1, x.block < W.heap.size := fun x hx => hA0.lt x (List.mem_append_right _ (List.mem_append_left _ hx))
  clear hA0
  refine (grows_any sa sn sc E ek et eu ex W (kinds hL) hnc hE hnil).mono fun e W' ⟨he, bel⟩ => ?_
  subst he
  exact ⟨_, rfl, _, _, _, [], _, [], hW', trodAll_mk1 (shut_bool Tryd.underlying4 _), (trodAll_cons_mk (bel.trod laidOut (by kernel_rfl) (of_decide_eq_true (by kernel_rfl)) h0 hlt0) (trodAll_cons_mk (bel.trod laidOut (by kernel_rfl) (of_decide_eq_true (by kernel_rfl)) h1 hlt1) trodAll_mk0)), rfl, bel.frame _, fun h => by cases h⟩

theorem reads (os : Os) {H : Type} (enc : TypeId × Value → H) : ∃ places, DataW.whole enc Tryd.prog ((World.laidAll Tryd.prog os Rows.binaryGrowsRow.laid).forCall (fun _ _ => 0) ⟨#[], #[.slice none 0 0, .agg #[.int .i64 0, .int .i64 0, .int .i64 0, .int .i64 0]], []⟩).memory Tryd.f6.params.toList Rows.binaryGrowsSpec.vars false #[Value.slice none 0 0, .agg #[.int .i64 0, .int .i64 0, .int .i64 0, .int .i64 0]].toList 8 = some ([.nil, .agg [.lit (.int .i64 0), .lit (.int .i64 0), .lit (.int .i64 0), .lit (.int .i64 0)]], [], places) :=
  ⟨[], by kernel_rfl⟩

set_option maxRecDepth 100000 in
theorem lifted (os : Os) (started : os.Started) (H : Type) (enc : TypeId × Value → H) (F : Stop.Interp) :
    ReturnsInHanded {} Tryd.checked os 6 .any ((OpenSpec.ofChange Rows.binaryGrowsSpec).preRow enc Tryd.prog Tryd.f6 Rows.binaryGrowsRow.domain false Rows.binaryGrowsRow.laid) (((OpenSpec.ofChange Rows.binaryGrowsSpec).at F).post enc Tryd.prog Tryd.f6 false true false false) := by
  obtain ⟨places, hx⟩ := reads os enc
  have hok : Input.okWideB Tryd.prog ((World.laidAll Tryd.prog os Rows.binaryGrowsRow.laid).forCall (fun _ _ => 0) ⟨#[], #[.slice none 0 0, .agg #[.int .i64 0, .int .i64 0, .int .i64 0, .int .i64 0]], []⟩) 6 ⟨#[], #[.slice none 0 0, .agg #[.int .i64 0, .int .i64 0, .int .i64 0, .int .i64 0]], []⟩ = true := by kernel_rfl
  refine returnsInHanded_of_row (C := Tryd.checked) (s := OpenSpec.ofChange Rows.binaryGrowsSpec) own started (by kernel_rfl) Tryd.func6
    ⟨World.laidAll Tryd.prog os Rows.binaryGrowsRow.laid, fun _ _ => 0, ⟨#[], #[.slice none 0 0, .agg #[.int .i64 0, .int .i64 0, .int .i64 0, .int .i64 0]], []⟩, World.laidAll_os _ _ _, World.shaped_of_ZipB (by kernel_rfl) (by kernel_rfl), (Input.okWide_of_okWideB (base := 0) hok).1, (Input.okWide_of_okWideB hok).2,
      OpenSpec.preRow_of_cond 8 hx (by kernel_rfl) (fun k hk => by cases hk) (by kernel_rfl) (by rw [MakeChecks.laidMetH_plain _ _ _ (by kernel_rfl)]; exact laidMet_laidAll _ (by kernel_rfl) (by kernel_rfl)),
      by simp only [Assume.holds]; exact ⟨by simp, by simp, by simp, by simp, by simp⟩⟩ ?_
  intro W base args ds gs before hval hW _ _ _ hL _ _
  exact contract H enc W base args ds gs before hval hW hL

theorem said : Rows.BinaryGrowsSaid :=
  OpenClaim.holds_of_cond 6 Tryd.f6 rfl rfl rfl rfl rfl rfl rfl ⟨rfl, rfl, rfl, rfl, rfl⟩ rfl rfl rfl rfl rfl (by kernel_rfl) Tryd.func6 (by kernel_rfl)
    (of_decide_eq_true (by kernel_rfl)) (by unfold Func.isWrapper; first | (rw [if_pos (by decide +kernel)]; kernel_rfl) | (rw [if_neg (by decide +kernel)]; exact ⟨rfl, rfl⟩))
    (fun os started H enc _ F => by rw [OpenClaim.pre_eq_preRow]; exact lifted os started H enc F)

theorem plain (f : FuncId) (fn : Func) (hf : Tryd.pinned.checked.prog.funcNamed "recant/recantlaw04.BinaryGrows" = some f) (hfn : Tryd.pinned.checked.prog.funcs[f]? = some fn) :
    false = Tryd.pinned.checked.prog.looks [] ∧ ∀ (j : Nat) t, fn.params[j]? = some t → Tryd.pinned.checked.prog.wantsStandIn t = false := by
  obtain rfl : f = 6 := Option.some.inj ((show Tryd.prog.funcNamed "recant/recantlaw04.BinaryGrows" = some 6 by kernel_rfl).symm.trans hf) |>.symm
  obtain rfl : fn = Tryd.f6 := (Option.some.inj (Tryd.func6.symm.trans hfn)).symm
  refine ⟨by kernel_rfl, fun j t ht => ?_⟩
  rw [Tryd.params6] at ht
  have hm : t ∈ [23, 42] := by simpa using Array.mem_of_getElem? ht
  have hall : ([23, 42].all fun u => !Tryd.prog.wantsStandIn u) = true := by kernel_rfl
  exact (show Tryd.prog.wantsStandIn t = false by simpa using List.all_eq_true.1 hall t hm)

theorem card : Rows.BinaryGrowsCardSaid :=
  Claim7.holds_tied_plain_at .later [] _ _ _ _ said (fun _ h => by cases h) (by kernel_rfl) (fun _ h => by cases h) binaryGrows_row_tie rfl ⟨rfl, rfl⟩ (by kernel_rfl) rfl plain (by kernel_rfl)
#print axioms card
end Go.Proofs.YtgebmjbfeakpgaaDoor.binaryGrows
