/- The walks of table's stateBehind and take. -/
import Derived.Test.YtmnblljenobofaaDoorMg3
import Derived.Test.YtmnblljenobofaaDoorMg4
import Derived.Test.YtmnblljenobofaaDoorMg1
import Derived.Deep.DeepCutAuto
import Derived.Deep.RegionHeldLaw
import Derived.Deep.RegionHeld
import Derived.Deep.DeepMust
namespace Go.Proofs.YtmnblljenobofaaDoor.WPlain
end Go.Proofs.YtmnblljenobofaaDoor.WPlain
namespace Go.Proofs.YtmnblljenobofaaDoor.QPlain
end Go.Proofs.YtmnblljenobofaaDoor.QPlain
namespace Go.Proofs.YtmnblljenobofaaDoor.RPlain
end Go.Proofs.YtmnblljenobofaaDoor.RPlain
namespace Go.Proofs.YtmnblljenobofaaDoor
open Go.RowKit WPlain QPlain RPlain

theorem infoOp : (Tryd.prog.info? 89).map (fun i => (i.zero, i.size, i.bytes)) = some (some (.agg #[.bool false, .int .i64 0, .int .i64 0]), 3, 24) := by kernel_rfl
theorem infoTx : (Tryd.prog.info? 65).map (fun i => (i.zero, i.size, i.bytes)) = some (some (.agg #[.int .i64 0, .int .i64 0, .int .i64 0, .int .i64 0, .slice none 0 0]), 5, 56) := by kernel_rfl
theorem behind_any (k : Int) (w : World) : Calls Tryd.prog 59 #[.int .i64 k] w fun e w' => e = .returned (.int .i64 (stateS k)) ∧ w = w' := by
  unfold stateS
  by_cases h7 : k = 7
  · subst h7
    go_enter Tryd.func59, Tryd.ntmps59
    go_wp2
    go_ret
    exact ⟨rfl, rfl⟩
  · by_cases h9 : k = 9
    · subst h9
      go_enter Tryd.func59, Tryd.ntmps59
      go_wp2
      go_ret
      exact ⟨rfl, rfl⟩
    · by_cases h6 : k = 6
      · subst h6
        go_enter Tryd.func59, Tryd.ntmps59
        go_wp2
        go_ret
        exact ⟨rfl, rfl⟩
      · rw [if_neg h7, if_neg h9, if_neg h6]
        have t7 : ((k : Int) == 7) = false := by simp [h7]
        have t9 : ((k : Int) == 9) = false := by simp [h9]
        have t6 : ((k : Int) == 6) = false := by simp [h6]
        clear h7 h9 h6
        go_enter Tryd.func59, Tryd.ntmps59
        go_wp2
        go_ret
        exact ⟨rfl, rfl⟩
theorem row_belowT {w w' : World} {B : Nat} {e : TypeId} {s : Nat} {v : Value} {n : Nat} {xs : List Value} (h : w.ownsRow B e s v n xs) (hb : Below w.heap.size w w') : w'.ownsRow B e s v n xs :=
  own_only h (Only.of_below (s := fun _ => False) hb) (fun _ _ hf => hf)
theorem cells_at {w : World} {b : Nat} {cs : Array Value} {t : TypeId} (h : At w b cs t) : ∀ j u, cs.toList[j]? = some u → w.cell? ((⟨b, 0, none⟩ : Addr).add j) = some u := by
  intro j u hu
  rw [addr_add, Nat.zero_add]
  exact h.cell (by simpa using hu)
theorem opC_one (o : Rwo) : ∀ u ∈ opC o, u.oneCell' = true := by
  intro u hu
  simp [opC] at hu
  rcases hu with rfl | rfl | rfl <;> rfl
/-- a transaction in memory, being built -/
structure Txm (B : Nat) (w : World) (g : Nat) (n f l s : Int) (V : Value) (o : List Rwo) : Prop where
  at_ : At w g #[.int .i64 n, .int .i64 f, .int .i64 l, .int .i64 s, V] 65
  row : w.ownsRow B 89 3 V o.length (o.flatMap opC)
/-- its blocks -/
def Mine (g : Nat) (V : Value) (b : Nat) : Prop := b = g ∨ V.ownBlock = some b
theorem Txm.only {B g : Nat} {w w' : World} {n f l s : Int} {V : Value} {o : List Rwo} {S : Nat → Prop} (h : Txm B w g n f l s V o) (ho : Only S w w') (hn : ∀ b, Mine g V b → ¬ S b) : Txm B w' g n f l s V o :=
  ⟨h.at_.only ho (hn g (.inl rfl)), own_only h.row ho fun k hk => hn k (.inr hk)⟩
theorem take_tail {B g : Nat} {w w5 : World} {n f l s s' i : Int} {V V5 : Value} {o : List Rwo} (hT : Txm B w5 g n f l s V5 o) (hO : Only (Mine g V) w w5) :
    Txm B ((w5.setCell ⟨g, 3, none⟩ (.int .i64 s')).setCell ⟨g, 2, none⟩ (.int .i64 i)) g n f i s' V5 o ∧ Only (Mine g V) w ((w5.setCell ⟨g, 3, none⟩ (.int .i64 s')).setCell ⟨g, 2, none⟩ (.int .i64 i)) := by
  have h3 := hT.at_.set 3 (.int .i64 s')
  have r3 := ownsRow_setCell_other hT.row (a := ⟨g, 3, none⟩) (row_not hT.row hT.at_ (by decide)) (.int .i64 s')
  have r2 := ownsRow_setCell_other r3 (a := ⟨g, 2, none⟩) (row_not r3 h3 (by decide)) (.int .i64 i)
  exact ⟨⟨h3.set 2 (.int .i64 i), r2⟩, (hO.setCell (p := ⟨g, 3, none⟩) (fun _ => .inl rfl) _).setCell (p := ⟨g, 2, none⟩) (fun _ => .inl rfl) _⟩
set_option maxRecDepth 100000 in
set_option maxHeartbeats 2000000 in
theorem take_any (B g i l : Nat) (n f s : Int) (V v : Value) (o : List Rwo) (h : List Ev) (w : World) (hT : Txm B w g n f l s V o) (hB : B ≤ w.heap.size) (hv : Evs w v h) (ho : o.length ≤ 65536) (hi : i < h.length) (hll : l < h.length) :
    Calls Tryd.prog 37 #[.pointer (some ⟨g, 0, none⟩), v, .int .i64 (i : Int)] w fun e w' => ∃ V', e = .returned (.tuple #[]) ∧ Txm B w' g n f i (stateS h[i].k) V' (o ++ opStep h[l] h[i]) ∧ Only (Mine g V) w w' ∧ Lies w V V' := by
  have HV := Lib.hid hv
  have HT := Lib.hid hT
  obtain ⟨a, c, rfl⟩ := hv.len
  rcases hv with ⟨e0, _⟩ | ⟨l0, b, oo, c', he, hbl, hc⟩
  · rw [e0] at hi; simp at hi
  obtain ⟨rfl, rfl⟩ : a = some ⟨b, oo, none⟩ ∧ c = c' := by simpa using he
  clear he
  obtain ⟨c0, c1, c2, c3⟩ := hc i hi
  obtain ⟨d0, d1, d2, d3⟩ := hc l hll
  clear hc
  have hgl := hT.at_.lt
  have e2 := hT.at_.cell (i := 2) (v := .int .i64 (l : Int)) rfl
  generalize h[i] = ev at *
  generalize h[l] = aq at *
  go_enter Tryd.func37, Tryd.ntmps37
  go_upto_region 0 with fail
  go_cut [6, 7] from 8 to 18 (fun p q wx => ∃ b6 b7, p = .pointer (some ⟨b6, 0, none⟩) ∧ q = .pointer (some ⟨b7, 0, none⟩) ∧ w.heap.size ≤ b6 ∧ w.heap.size ≤ b7 ∧ Hid (At wx b6 #[.int .i64 aq.k, .int .i64 aq.t, .int .i64 aq.v, .int .i64 aq.x] 46) ∧ Hid (At wx b7 #[.int .i64 ev.k, .int .i64 ev.t, .int .i64 ev.v, .int .i64 ev.x] 46) ∧ Hid (Below w.heap.size w wx))
  case first =>
    go_region
    all_goals
      go_wp2_with fail
      go_meet
    · refine ⟨_, _, rfl, rfl, Nat.le_refl _, Nat.le_succ _, ((At.new w _ _).alloc _).drew, ?_, (((Below.refl _ _).alloc (Nat.le_refl _) _).alloc (by simp) _).drew⟩
      have h1 := At.new (w.alloc (.cells #[.int .i64 aq.k, .int .i64 aq.t, .int .i64 aq.v, .int .i64 aq.x] 46)) #[.int .i64 ev.k, .int .i64 ev.t, .int .i64 ev.v, .int .i64 ev.x] 46
      simp only [World.size_alloc] at h1
      exact h1
    · refine ⟨_, _, rfl, rfl, Nat.le_succ _, Nat.le_refl _, ?_, ((At.new w _ _).alloc _).drew, (((Below.refl _ _).alloc (Nat.le_refl _) _).alloc (by simp) _).drew⟩
      have h1 := At.new (w.alloc (.cells #[.int .i64 ev.k, .int .i64 ev.t, .int .i64 ev.v, .int .i64 ev.x] 46)) #[.int .i64 aq.k, .int .i64 aq.t, .int .i64 aq.v, .int .i64 aq.x] 46
      simp only [World.size_alloc] at h1
      exact h1
  case rest =>
    obtain ⟨b6, b7, rfl, rfl, hb6, hb7, HA6, HA7, HB⟩ := hcut
    have HO : Hid (Only (Mine g V) w wc) := Only.of_below HB.out
    have HT6 : Hid (Txm B wc g n f l s V o) := ⟨HT.out.at_.below HB.out hgl, row_belowT HT.out.row HB.out⟩
    have HRL : Hid (∀ k, V.ownBlock = some k → k < w.heap.size) := fun k hk => (own_base HT.out.row hk).2
    have hsz : w.heap.size ≤ wc.heap.size := HB.out.size
    have hgc : g < wc.heap.size := by omega
    have hb6c : b6 < wc.heap.size := HA6.out.lt
    have hb7c : b7 < wc.heap.size := HA7.out.lt
    have q0 := HA7.out.cell (i := 0) (v := .int .i64 ev.k) rfl
    have q3 := HA7.out.cell (i := 3) (v := .int .i64 ev.x) rfl
    have p2 := HA6.out.cell (i := 2) (v := .int .i64 aq.v) rfl
    have p3 := HA6.out.cell (i := 3) (v := .int .i64 aq.x) rfl
    have r4 := HT6.out.at_.cell (i := 4) (v := V) rfl
    have f4 := HT6.out.at_.free 4
    clear c0 c1 c2 c3 d0 d1 d2 d3 e2 HT HV HB hT
    obtain ⟨j0, hj0, hy0, hy1', hy2'⟩ := info_parts infoOp
    by_cases h3 : ev.k = 3
    · have t3 : ((ev.k : Int) == 3) = true := by simp [h3]
      have HOP : Hid (opStep aq ev = [⟨false, aq.v, ev.x⟩]) := by unfold Hid opStep; rw [if_pos h3]
      clear h3
      obtain ⟨va, vc, rfl⟩ := row_slice HT6.out.row
      go_wp2_with fail
      go_region_law (go_must (refine step_append_apart rfl _ _ 63 rfl B 89 j0 _ 3 24 Tryd.underlying63 hj0 hy0 hy1' hy2' rfl (by decide) (.slice va o.length vc) o.length (o.flatMap opC) rfl (HT6.out.row.alloc _).drew ⟨wc.heap.size, 0, none⟩ 1 1 (opC ⟨false, aq.v, ev.x⟩) rfl rfl (cells_at (At.new wc #[.bool false, .int .i64 aq.v, .int .i64 ev.x] _).drew) (opC_one _) (by unfold maxLen; omega) (by omega) (by simp; omega) ?_; intro v4 w4 hx4 hg4 hl4; obtain ⟨va4, vc4, rfl⟩ := row_slice hx4; have hA4 := (HT6.out.at_.alloc (.cells #[.bool false, .int .i64 aq.v, .int .i64 ev.x] 89)).drew.grown hg4 (Ne.symm (row_not HT6.out.row HT6.out.at_ (by decide))); have hA4c := hA4.cell (i := 4) rfl; have hA4f := hA4.free 4))
      all_goals
        have HT5 : Hid (Txm B (w4.setCell ⟨g, 4, none⟩ (.slice va4 (o.length + 1) vc4)) g n f l s (.slice va4 (o.length + 1) vc4) (o ++ opStep aq ev)) := by
          rw [HOP.out]
          refine ⟨hA4.set 4 _, ?_⟩
          have hx5 := ownsRow_setCell_other hx4 (a := ⟨g, 4, none⟩) (row_not hx4 hA4 (by decide)) (.slice va4 (o.length + 1) vc4)
          simpa using hx5
        have HO5 : Hid (Only (Mine g (.slice va o.length vc)) w (w4.setCell ⟨g, 4, none⟩ (.slice va4 (o.length + 1) vc4))) :=
          (((HO.out.alloc (.cells #[.bool false, .int .i64 aq.v, .int .i64 ev.x] 89)).drew).grown hg4 (fun k _ hk => .inr hk)).setCell (p := ⟨g, 4, none⟩) (fun _ => .inl rfl) _
        have HL5 : Hid (Lies w (.slice va o.length vc) (.slice va4 (o.length + 1) vc4)) := hl4.later (by simp; omega)
        have h7 : At (w4.setCell ⟨g, 4, none⟩ (.slice va4 (o.length + 1) vc4)) b7 #[.int .i64 ev.k, .int .i64 ev.t, .int .i64 ev.v, .int .i64 ev.x] 46 :=
          ((HA7.out.alloc (.cells #[.bool false, .int .i64 aq.v, .int .i64 ev.x] 89)).drew.grown hg4 (fun hh => by have := HRL.out b7 hh.symm; omega)).other (a := ⟨g, 4, none⟩) (by show b7 ≠ g; omega) _
        have q7 := h7.cell (i := 0) (v := .int .i64 ev.k) rfl
        have g3 := HT5.out.at_.free 3
        have g2 := HT5.out.at_.free 2
        have g3c := HT5.out.at_.cell (i := 3) (v := .int .i64 s) rfl
        have g2c := HT5.out.at_.cell (i := 2) (v := .int .i64 (l : Int)) rfl
        have HTL := Lib.hid (take_tail (s' := stateS ev.k) (i := i) HT5.out HO5.out)
        clear hA4 hx4 hg4 hl4 hA4c hA4f h7 HA6 HA7 q0 q3 p2 p3 r4 f4 HOP HRL HT5 HO5 HO HT6
        generalize w4.setCell ⟨g, 4, none⟩ (.slice va4 (o.length + 1) vc4) = w5 at *
        go_wp2_with fail
        refine (behind_any ev.k _).mono ?_
        rintro e w6 ⟨rfl, rfl⟩
        go_wp2
        exact bodyPost_end (v := .tuple #[]) (by simp [results, Tryd.results37, go_sem]) rfl ⟨_, rfl, HTL.out.1, HTL.out.2, HL5.out⟩
    · by_cases h5 : ev.k = 5
      · have t3 : ((ev.k : Int) == 3) = false := by simp [h3]
        have t5 : ((ev.k : Int) == 5) = true := by simp [h5]
        have HOP : Hid (opStep aq ev = [⟨true, aq.v, aq.x⟩]) := by unfold Hid opStep; rw [if_neg h3, if_pos h5]
        clear h3 h5
        obtain ⟨va, vc, rfl⟩ := row_slice HT6.out.row
        go_wp2_with fail
        go_region_law (go_must (refine step_append_apart rfl _ _ 63 rfl B 89 j0 _ 3 24 Tryd.underlying63 hj0 hy0 hy1' hy2' rfl (by decide) (.slice va o.length vc) o.length (o.flatMap opC) rfl (HT6.out.row.alloc _).drew ⟨wc.heap.size, 0, none⟩ 1 1 (opC ⟨true, aq.v, aq.x⟩) rfl rfl (cells_at (At.new wc #[.bool true, .int .i64 aq.v, .int .i64 aq.x] _).drew) (opC_one _) (by unfold maxLen; omega) (by omega) (by simp; omega) ?_; intro v4 w4 hx4 hg4 hl4; obtain ⟨va4, vc4, rfl⟩ := row_slice hx4; have hA4 := (HT6.out.at_.alloc (.cells #[.bool true, .int .i64 aq.v, .int .i64 aq.x] 89)).drew.grown hg4 (Ne.symm (row_not HT6.out.row HT6.out.at_ (by decide))); have hA4c := hA4.cell (i := 4) rfl; have hA4f := hA4.free 4))
        all_goals
          have HT5 : Hid (Txm B (w4.setCell ⟨g, 4, none⟩ (.slice va4 (o.length + 1) vc4)) g n f l s (.slice va4 (o.length + 1) vc4) (o ++ opStep aq ev)) := by
            rw [HOP.out]
            refine ⟨hA4.set 4 _, ?_⟩
            have hx5 := ownsRow_setCell_other hx4 (a := ⟨g, 4, none⟩) (row_not hx4 hA4 (by decide)) (.slice va4 (o.length + 1) vc4)
            simpa using hx5
          have HO5 : Hid (Only (Mine g (.slice va o.length vc)) w (w4.setCell ⟨g, 4, none⟩ (.slice va4 (o.length + 1) vc4))) :=
            (((HO.out.alloc (.cells #[.bool true, .int .i64 aq.v, .int .i64 aq.x] 89)).drew).grown hg4 (fun k _ hk => .inr hk)).setCell (p := ⟨g, 4, none⟩) (fun _ => .inl rfl) _
          have HL5 : Hid (Lies w (.slice va o.length vc) (.slice va4 (o.length + 1) vc4)) := hl4.later (by simp; omega)
          have h7 : At (w4.setCell ⟨g, 4, none⟩ (.slice va4 (o.length + 1) vc4)) b7 #[.int .i64 ev.k, .int .i64 ev.t, .int .i64 ev.v, .int .i64 ev.x] 46 :=
            ((HA7.out.alloc (.cells #[.bool true, .int .i64 aq.v, .int .i64 aq.x] 89)).drew.grown hg4 (fun hh => by have := HRL.out b7 hh.symm; omega)).other (a := ⟨g, 4, none⟩) (by show b7 ≠ g; omega) _
          have q7 := h7.cell (i := 0) (v := .int .i64 ev.k) rfl
          have g3 := HT5.out.at_.free 3
          have g2 := HT5.out.at_.free 2
          have g3c := HT5.out.at_.cell (i := 3) (v := .int .i64 s) rfl
          have g2c := HT5.out.at_.cell (i := 2) (v := .int .i64 (l : Int)) rfl
          have HTL := Lib.hid (take_tail (s' := stateS ev.k) (i := i) HT5.out HO5.out)
          clear hA4 hx4 hg4 hl4 hA4c hA4f h7 HA6 HA7 q0 q3 p2 p3 r4 f4 HOP HRL HT5 HO5 HO HT6
          generalize w4.setCell ⟨g, 4, none⟩ (.slice va4 (o.length + 1) vc4) = w5 at *
          go_wp2_with fail
          refine (behind_any ev.k _).mono ?_
          rintro e w6 ⟨rfl, rfl⟩
          go_wp2
          exact bodyPost_end (v := .tuple #[]) (by simp [results, Tryd.results37, go_sem]) rfl ⟨_, rfl, HTL.out.1, HTL.out.2, HL5.out⟩
      · have t3 : ((ev.k : Int) == 3) = false := by simp [h3]
        have t5 : ((ev.k : Int) == 5) = false := by simp [h5]
        have HOP : Hid (opStep aq ev = []) := by unfold Hid opStep; rw [if_neg h3, if_neg h5]
        clear h3 h5
        have g3 := HT6.out.at_.free 3
        have g2 := HT6.out.at_.free 2
        have g3c := HT6.out.at_.cell (i := 3) (v := .int .i64 s) rfl
        have g2c := HT6.out.at_.cell (i := 2) (v := .int .i64 (l : Int)) rfl
        have HTL := Lib.hid (take_tail (s' := stateS ev.k) (i := i) HT6.out HO.out)
        clear HA6 HA7 q3 p2 p3 r4 f4 HRL HT6 HO
        go_wp2_with fail
        refine (behind_any ev.k _).mono ?_
        rintro e w6 ⟨rfl, rfl⟩
        go_wp2
        exact bodyPost_end (v := .tuple #[]) (by simp [results, Tryd.results37, go_sem]) rfl ⟨_, rfl, by rw [HOP.out, List.append_nil]; exact HTL.out.1, HTL.out.2, .inl rfl⟩
end Go.Proofs.YtmnblljenobofaaDoor
