/- Merged: TabD, TabK, UnqA, OrdA, OrdB, OrdD. -/
import Derived.Test.YtmnblljenobofaaGreatDoorMg2
import Derived.Test.YtmnblljenobofaaGreatDoorMg3
import Derived.Test.YtmnblljenobofaaGreatDoorMg1
import Derived.Deep.DeepCutAuto
import Derived.Deep.RegionHeldLaw
import Derived.Deep.RegionHeld
import Derived.Deep.DeepMust
import Derived.Deep.QuietTactic
import Derived.BigQuiet
import Derived.Laws.StructEq
/- The walks of table's stateBehind and take. -/
namespace Go.Proofs.YtmnblljenobofaaGreatDoor.WPlain
end Go.Proofs.YtmnblljenobofaaGreatDoor.WPlain
namespace Go.Proofs.YtmnblljenobofaaGreatDoor.QPlain
end Go.Proofs.YtmnblljenobofaaGreatDoor.QPlain
namespace Go.Proofs.YtmnblljenobofaaGreatDoor.RPlain
end Go.Proofs.YtmnblljenobofaaGreatDoor.RPlain
namespace Go.Proofs.YtmnblljenobofaaGreatDoor
open Go.RowKit WPlain QPlain RPlain

theorem infoOp : (Tryz.prog.info? 82).map (fun i => (i.zero, i.size, i.bytes)) = some (some (.agg #[.bool false, .int .i64 0, .int .i64 0]), 3, 24) := by kernel_rfl
theorem infoTx : (Tryz.prog.info? 64).map (fun i => (i.zero, i.size, i.bytes)) = some (some (.agg #[.int .i64 0, .int .i64 0, .int .i64 0, .int .i64 0, .slice none 0 0]), 5, 56) := by kernel_rfl
theorem behind_any (k : Int) (w : World) : Calls Tryz.prog 126 #[.int .i64 k] w fun e w' => e = .returned (.int .i64 (stateS k)) ∧ w = w' := by
  unfold stateS
  by_cases h7 : k = 7
  · subst h7
    go_enter Tryz.func126, Tryz.ntmps126
    go_wp2
    go_ret
    exact ⟨rfl, rfl⟩
  · by_cases h9 : k = 9
    · subst h9
      go_enter Tryz.func126, Tryz.ntmps126
      go_wp2
      go_ret
      exact ⟨rfl, rfl⟩
    · by_cases h6 : k = 6
      · subst h6
        go_enter Tryz.func126, Tryz.ntmps126
        go_wp2
        go_ret
        exact ⟨rfl, rfl⟩
      · rw [if_neg h7, if_neg h9, if_neg h6]
        have t7 : ((k : Int) == 7) = false := by simp [h7]
        have t9 : ((k : Int) == 9) = false := by simp [h9]
        have t6 : ((k : Int) == 6) = false := by simp [h6]
        clear h7 h9 h6
        go_enter Tryz.func126, Tryz.ntmps126
        go_wp2
        go_ret
        exact ⟨rfl, rfl⟩
theorem row_belowT {w w' : World} {B : Nat} {e : TypeId} {s : Nat} {v : Value} {n : Nat} {xs : List Value} (h : w.ownsRow B e s v n xs) (hb : Below w.heap.size w w') : w'.ownsRow B e s v n xs :=
  own_only h (Only.of_below (s := fun _ => False) hb) (fun _ _ hf => hf)
theorem cells_at {w : World} {b : Nat} {cs : Array Value} {t : TypeId} (h : At w b cs t) : ∀ j u, cs.toList[j]? = some u → w.cell? ((⟨b, 0, none⟩ : Addr).add j) = some u := by
  intro j u hu
  rw [addr_add, Nat.zero_add]
  exact h.cell (by simpa using hu)
theorem opC_one (o : Rwo) : ∀ u ∈ opC o, u.oneCell' = true := by
  intro u hu
  simp [opC] at hu
  rcases hu with rfl | rfl | rfl <;> rfl
/-- a transaction in memory, being built -/
structure Txm (B : Nat) (w : World) (g : Nat) (n f l s : Int) (V : Value) (o : List Rwo) : Prop where
  at_ : At w g #[.int .i64 n, .int .i64 f, .int .i64 l, .int .i64 s, V] 64
  row : w.ownsRow B 82 3 V o.length (o.flatMap opC)
/-- its blocks -/
def Mine (g : Nat) (V : Value) (b : Nat) : Prop := b = g ∨ V.ownBlock = some b
theorem Txm.only {B g : Nat} {w w' : World} {n f l s : Int} {V : Value} {o : List Rwo} {S : Nat → Prop} (h : Txm B w g n f l s V o) (ho : Only S w w') (hn : ∀ b, Mine g V b → ¬ S b) : Txm B w' g n f l s V o :=
  ⟨h.at_.only ho (hn g (.inl rfl)), own_only h.row ho fun k hk => hn k (.inr hk)⟩
theorem take_tail {B g : Nat} {w w5 : World} {n f l s s' i : Int} {V V5 : Value} {o : List Rwo} (hT : Txm B w5 g n f l s V5 o) (hO : Only (Mine g V) w w5) :
    Txm B ((w5.setCell ⟨g, 3, none⟩ (.int .i64 s')).setCell ⟨g, 2, none⟩ (.int .i64 i)) g n f i s' V5 o ∧ Only (Mine g V) w ((w5.setCell ⟨g, 3, none⟩ (.int .i64 s')).setCell ⟨g, 2, none⟩ (.int .i64 i)) := by
  have h3 := hT.at_.set 3 (.int .i64 s')
  have r3 := ownsRow_setCell_other hT.row (a := ⟨g, 3, none⟩) (row_not hT.row hT.at_ (by decide)) (.int .i64 s')
  have r2 := ownsRow_setCell_other r3 (a := ⟨g, 2, none⟩) (row_not r3 h3 (by decide)) (.int .i64 i)
  exact ⟨⟨h3.set 2 (.int .i64 i), r2⟩, (hO.setCell (p := ⟨g, 3, none⟩) (fun _ => .inl rfl) _).setCell (p := ⟨g, 2, none⟩) (fun _ => .inl rfl) _⟩
set_option maxRecDepth 100000 in
set_option maxHeartbeats 2000000 in
theorem take_any (B g i l : Nat) (n f s : Int) (V v : Value) (o : List Rwo) (h : List Ev) (w : World) (hT : Txm B w g n f l s V o) (hB : B ≤ w.heap.size) (hv : Evs w v h) (ho : o.length ≤ 65536) (hi : i < h.length) (hll : l < h.length) :
    Calls Tryz.prog 108 #[.pointer (some ⟨g, 0, none⟩), v, .int .i64 (i : Int)] w fun e w' => ∃ V', e = .returned (.tuple #[]) ∧ Txm B w' g n f i (stateS h[i].k) V' (o ++ opStep h[l] h[i]) ∧ Only (Mine g V) w w' ∧ Lies w V V' := by
  have HV := Lib.hid hv
  have HT := Lib.hid hT
  obtain ⟨a, c, rfl⟩ := hv.len
  rcases hv with ⟨e0, _⟩ | ⟨l0, b, oo, c', he, hbl, hc⟩
  · rw [e0] at hi; simp at hi
  obtain ⟨rfl, rfl⟩ : a = some ⟨b, oo, none⟩ ∧ c = c' := by simpa using he
  clear he
  obtain ⟨c0, c1, c2, c3⟩ := hc i hi
  obtain ⟨d0, d1, d2, d3⟩ := hc l hll
  clear hc
  have hgl := hT.at_.lt
  have e2 := hT.at_.cell (i := 2) (v := .int .i64 (l : Int)) rfl
  generalize h[i] = ev at *
  generalize h[l] = aq at *
  go_enter Tryz.func108, Tryz.ntmps108
  go_upto_region 0 with fail
  go_cut [6, 7] from 8 to 18 (fun p q wx => ∃ b6 b7, p = .pointer (some ⟨b6, 0, none⟩) ∧ q = .pointer (some ⟨b7, 0, none⟩) ∧ w.heap.size ≤ b6 ∧ w.heap.size ≤ b7 ∧ Hid (At wx b6 #[.int .i64 aq.k, .int .i64 aq.t, .int .i64 aq.v, .int .i64 aq.x] 53) ∧ Hid (At wx b7 #[.int .i64 ev.k, .int .i64 ev.t, .int .i64 ev.v, .int .i64 ev.x] 53) ∧ Hid (Below w.heap.size w wx))
  case first =>
    go_region
    all_goals
      go_wp2_with fail
      go_meet
    · refine ⟨_, _, rfl, rfl, Nat.le_refl _, Nat.le_succ _, ((At.new w _ _).alloc _).drew, ?_, (((Below.refl _ _).alloc (Nat.le_refl _) _).alloc (by simp) _).drew⟩
      have h1 := At.new (w.alloc (.cells #[.int .i64 aq.k, .int .i64 aq.t, .int .i64 aq.v, .int .i64 aq.x] 53)) #[.int .i64 ev.k, .int .i64 ev.t, .int .i64 ev.v, .int .i64 ev.x] 53
      simp only [World.size_alloc] at h1
      exact h1
    · refine ⟨_, _, rfl, rfl, Nat.le_succ _, Nat.le_refl _, ?_, ((At.new w _ _).alloc _).drew, (((Below.refl _ _).alloc (Nat.le_refl _) _).alloc (by simp) _).drew⟩
      have h1 := At.new (w.alloc (.cells #[.int .i64 ev.k, .int .i64 ev.t, .int .i64 ev.v, .int .i64 ev.x] 53)) #[.int .i64 aq.k, .int .i64 aq.t, .int .i64 aq.v, .int .i64 aq.x] 53
      simp only [World.size_alloc] at h1
      exact h1
  case rest =>
    obtain ⟨b6, b7, rfl, rfl, hb6, hb7, HA6, HA7, HB⟩ := hcut
    have HO : Hid (Only (Mine g V) w wc) := Only.of_below HB.out
    have HT6 : Hid (Txm B wc g n f l s V o) := ⟨HT.out.at_.below HB.out hgl, row_belowT HT.out.row HB.out⟩
    have HRL : Hid (∀ k, V.ownBlock = some k → k < w.heap.size) := fun k hk => (own_base HT.out.row hk).2
    have hsz : w.heap.size ≤ wc.heap.size := HB.out.size
    have hgc : g < wc.heap.size := by omega
    have hb6c : b6 < wc.heap.size := HA6.out.lt
    have hb7c : b7 < wc.heap.size := HA7.out.lt
    have q0 := HA7.out.cell (i := 0) (v := .int .i64 ev.k) rfl
    have q3 := HA7.out.cell (i := 3) (v := .int .i64 ev.x) rfl
    have p2 := HA6.out.cell (i := 2) (v := .int .i64 aq.v) rfl
    have p3 := HA6.out.cell (i := 3) (v := .int .i64 aq.x) rfl
    have r4 := HT6.out.at_.cell (i := 4) (v := V) rfl
    have f4 := HT6.out.at_.free 4
    clear c0 c1 c2 c3 d0 d1 d2 d3 e2 HT HV HB hT
    obtain ⟨j0, hj0, hy0, hy1', hy2'⟩ := info_parts infoOp
    by_cases h3 : ev.k = 3
    · have t3 : ((ev.k : Int) == 3) = true := by simp [h3]
      have HOP : Hid (opStep aq ev = [⟨false, aq.v, ev.x⟩]) := by unfold Hid opStep; rw [if_pos h3]
      clear h3
      obtain ⟨va, vc, rfl⟩ := row_slice HT6.out.row
      go_wp2_with fail
      go_region_law (go_must (refine step_append_apart rfl _ _ 61 rfl B 82 j0 _ 3 24 Tryz.underlying61 hj0 hy0 hy1' hy2' rfl (by decide) (.slice va o.length vc) o.length (o.flatMap opC) rfl (HT6.out.row.alloc _).drew ⟨wc.heap.size, 0, none⟩ 1 1 (opC ⟨false, aq.v, ev.x⟩) rfl rfl (cells_at (At.new wc #[.bool false, .int .i64 aq.v, .int .i64 ev.x] _).drew) (opC_one _) (by unfold maxLen; omega) (by omega) (by simp; omega) ?_; intro v4 w4 hx4 hg4 hl4; obtain ⟨va4, vc4, rfl⟩ := row_slice hx4; have hA4 := (HT6.out.at_.alloc (.cells #[.bool false, .int .i64 aq.v, .int .i64 ev.x] 82)).drew.grown hg4 (Ne.symm (row_not HT6.out.row HT6.out.at_ (by decide))); have hA4c := hA4.cell (i := 4) rfl; have hA4f := hA4.free 4))
      all_goals
        have HT5 : Hid (Txm B (w4.setCell ⟨g, 4, none⟩ (.slice va4 (o.length + 1) vc4)) g n f l s (.slice va4 (o.length + 1) vc4) (o ++ opStep aq ev)) := by
          rw [HOP.out]
          refine ⟨hA4.set 4 _, ?_⟩
          have hx5 := ownsRow_setCell_other hx4 (a := ⟨g, 4, none⟩) (row_not hx4 hA4 (by decide)) (.slice va4 (o.length + 1) vc4)
          simpa using hx5
        have HO5 : Hid (Only (Mine g (.slice va o.length vc)) w (w4.setCell ⟨g, 4, none⟩ (.slice va4 (o.length + 1) vc4))) :=
          (((HO.out.alloc (.cells #[.bool false, .int .i64 aq.v, .int .i64 ev.x] 82)).drew).grown hg4 (fun k _ hk => .inr hk)).setCell (p := ⟨g, 4, none⟩) (fun _ => .inl rfl) _
        have HL5 : Hid (Lies w (.slice va o.length vc) (.slice va4 (o.length + 1) vc4)) := hl4.later (by simp; omega)
        have h7 : At (w4.setCell ⟨g, 4, none⟩ (.slice va4 (o.length + 1) vc4)) b7 #[.int .i64 ev.k, .int .i64 ev.t, .int .i64 ev.v, .int .i64 ev.x] 53 :=
          ((HA7.out.alloc (.cells #[.bool false, .int .i64 aq.v, .int .i64 ev.x] 82)).drew.grown hg4 (fun hh => by have := HRL.out b7 hh.symm; omega)).other (a := ⟨g, 4, none⟩) (by show b7 ≠ g; omega) _
        have q7 := h7.cell (i := 0) (v := .int .i64 ev.k) rfl
        have g3 := HT5.out.at_.free 3
        have g2 := HT5.out.at_.free 2
        have g3c := HT5.out.at_.cell (i := 3) (v := .int .i64 s) rfl
        have g2c := HT5.out.at_.cell (i := 2) (v := .int .i64 (l : Int)) rfl
        have HTL := Lib.hid (take_tail (s' := stateS ev.k) (i := i) HT5.out HO5.out)
        clear hA4 hx4 hg4 hl4 hA4c hA4f h7 HA6 HA7 q0 q3 p2 p3 r4 f4 HOP HRL HT5 HO5 HO HT6
        generalize w4.setCell ⟨g, 4, none⟩ (.slice va4 (o.length + 1) vc4) = w5 at *
        go_wp2_with fail
        refine (behind_any ev.k _).mono ?_
        rintro e w6 ⟨rfl, rfl⟩
        go_wp2
        exact bodyPost_end (v := .tuple #[]) (by simp [results, Tryz.results108, go_sem]) rfl ⟨_, rfl, HTL.out.1, HTL.out.2, HL5.out⟩
    · by_cases h5 : ev.k = 5
      · have t3 : ((ev.k : Int) == 3) = false := by simp [h3]
        have t5 : ((ev.k : Int) == 5) = true := by simp [h5]
        have HOP : Hid (opStep aq ev = [⟨true, aq.v, aq.x⟩]) := by unfold Hid opStep; rw [if_neg h3, if_pos h5]
        clear h3 h5
        obtain ⟨va, vc, rfl⟩ := row_slice HT6.out.row
        go_wp2_with fail
        go_region_law (go_must (refine step_append_apart rfl _ _ 61 rfl B 82 j0 _ 3 24 Tryz.underlying61 hj0 hy0 hy1' hy2' rfl (by decide) (.slice va o.length vc) o.length (o.flatMap opC) rfl (HT6.out.row.alloc _).drew ⟨wc.heap.size, 0, none⟩ 1 1 (opC ⟨true, aq.v, aq.x⟩) rfl rfl (cells_at (At.new wc #[.bool true, .int .i64 aq.v, .int .i64 aq.x] _).drew) (opC_one _) (by unfold maxLen; omega) (by omega) (by simp; omega) ?_; intro v4 w4 hx4 hg4 hl4; obtain ⟨va4, vc4, rfl⟩ := row_slice hx4; have hA4 := (HT6.out.at_.alloc (.cells #[.bool true, .int .i64 aq.v, .int .i64 aq.x] 82)).drew.grown hg4 (Ne.symm (row_not HT6.out.row HT6.out.at_ (by decide))); have hA4c := hA4.cell (i := 4) rfl; have hA4f := hA4.free 4))
        all_goals
          have HT5 : Hid (Txm B (w4.setCell ⟨g, 4, none⟩ (.slice va4 (o.length + 1) vc4)) g n f l s (.slice va4 (o.length + 1) vc4) (o ++ opStep aq ev)) := by
            rw [HOP.out]
            refine ⟨hA4.set 4 _, ?_⟩
            have hx5 := ownsRow_setCell_other hx4 (a := ⟨g, 4, none⟩) (row_not hx4 hA4 (by decide)) (.slice va4 (o.length + 1) vc4)
            simpa using hx5
          have HO5 : Hid (Only (Mine g (.slice va o.length vc)) w (w4.setCell ⟨g, 4, none⟩ (.slice va4 (o.length + 1) vc4))) :=
            (((HO.out.alloc (.cells #[.bool true, .int .i64 aq.v, .int .i64 aq.x] 82)).drew).grown hg4 (fun k _ hk => .inr hk)).setCell (p := ⟨g, 4, none⟩) (fun _ => .inl rfl) _
          have HL5 : Hid (Lies w (.slice va o.length vc) (.slice va4 (o.length + 1) vc4)) := hl4.later (by simp; omega)
          have h7 : At (w4.setCell ⟨g, 4, none⟩ (.slice va4 (o.length + 1) vc4)) b7 #[.int .i64 ev.k, .int .i64 ev.t, .int .i64 ev.v, .int .i64 ev.x] 53 :=
            ((HA7.out.alloc (.cells #[.bool true, .int .i64 aq.v, .int .i64 aq.x] 82)).drew.grown hg4 (fun hh => by have := HRL.out b7 hh.symm; omega)).other (a := ⟨g, 4, none⟩) (by show b7 ≠ g; omega) _
          have q7 := h7.cell (i := 0) (v := .int .i64 ev.k) rfl
          have g3 := HT5.out.at_.free 3
          have g2 := HT5.out.at_.free 2
          have g3c := HT5.out.at_.cell (i := 3) (v := .int .i64 s) rfl
          have g2c := HT5.out.at_.cell (i := 2) (v := .int .i64 (l : Int)) rfl
          have HTL := Lib.hid (take_tail (s' := stateS ev.k) (i := i) HT5.out HO5.out)
          clear hA4 hx4 hg4 hl4 hA4c hA4f h7 HA6 HA7 q0 q3 p2 p3 r4 f4 HOP HRL HT5 HO5 HO HT6
          generalize w4.setCell ⟨g, 4, none⟩ (.slice va4 (o.length + 1) vc4) = w5 at *
          go_wp2_with fail
          refine (behind_any ev.k _).mono ?_
          rintro e w6 ⟨rfl, rfl⟩
          go_wp2
          exact bodyPost_end (v := .tuple #[]) (by simp [results, Tryz.results108, go_sem]) rfl ⟨_, rfl, HTL.out.1, HTL.out.2, HL5.out⟩
      · have t3 : ((ev.k : Int) == 3) = false := by simp [h3]
        have t5 : ((ev.k : Int) == 5) = false := by simp [h5]
        have HOP : Hid (opStep aq ev = []) := by unfold Hid opStep; rw [if_neg h3, if_neg h5]
        clear h3 h5
        have g3 := HT6.out.at_.free 3
        have g2 := HT6.out.at_.free 2
        have g3c := HT6.out.at_.cell (i := 3) (v := .int .i64 s) rfl
        have g2c := HT6.out.at_.cell (i := 2) (v := .int .i64 (l : Int)) rfl
        have HTL := Lib.hid (take_tail (s' := stateS ev.k) (i := i) HT6.out HO.out)
        clear HA6 HA7 q3 p2 p3 r4 f4 HRL HT6 HO
        go_wp2_with fail
        refine (behind_any ev.k _).mono ?_
        rintro e w6 ⟨rfl, rfl⟩
        go_wp2
        exact bodyPost_end (v := .tuple #[]) (by simp [results, Tryz.results108, go_sem]) rfl ⟨_, rfl, by rw [HOP.out, List.append_nil]; exact HTL.out.1, HTL.out.2, .inl rfl⟩
end Go.Proofs.YtmnblljenobofaaGreatDoor
/- The walks of the reference's Same, of isSame, of slices.EqualFunc with it, and of Like. (Written by gen_tabK.py.) -/
namespace Go.Proofs.YtmnblljenobofaaGreatDoor.WPlain
end Go.Proofs.YtmnblljenobofaaGreatDoor.WPlain
namespace Go.Proofs.YtmnblljenobofaaGreatDoor.RPlain
end Go.Proofs.YtmnblljenobofaaGreatDoor.RPlain
namespace Go.Proofs.YtmnblljenobofaaGreatDoor
open Go.RowKit WPlain RPlain

theorem Opv.drewN {w : World} {v : Value} {l : List Rwo} (h : Opv w v l) (n : Nat) : Opv (w.drewN n) v l := h
theorem Txs.drewN {w : World} {v : Value} {l : List Tx} (h : Txs w v l) (n : Nat) : Txs (w.drewN n) v l := h
theorem Txs.opened {w : World} {v : Value} {l : List Tx} (h : Txs w v l) (h0 : 0 < l.length) : ∃ b o c, v = .slice (some ⟨b, o, none⟩) l.length c := by
  obtain ⟨ps, rfl, hr, _⟩ := h
  rcases hr with ⟨rfl, _⟩ | ⟨_, b, o, c, rfl, _⟩
  · simp at h0
  · exact ⟨b, o, c, by simp⟩
theorem below_drN {B : Nat} {w w' : World} (h : Below B w w') (n : Nat) : Below B w (w'.drewN n) := ⟨h.os, h.tape, h.output, h.size, h.block⟩
end Go.Proofs.YtmnblljenobofaaGreatDoor
/- Plain words: values that tell who wrote them. -/
namespace Go.Proofs.YtmnblljenobofaaGreatDoor.WPlain
end Go.Proofs.YtmnblljenobofaaGreatDoor.WPlain
namespace Go.Proofs.YtmnblljenobofaaGreatDoor.QPlain
end Go.Proofs.YtmnblljenobofaaGreatDoor.QPlain
namespace Go.Proofs.YtmnblljenobofaaGreatDoor.RPlain
open WPlain QPlain

def ownsB (ops : List Rwo) (v : Int) : Bool := ops.any fun o => o.w && decide (o.v = v)
def writesB (ops : List Rwo) (v x : Int) : Bool := ops.any fun o => o.w && decide (o.v = v) && decide (o.x = x)
def uniqueS (l : List Tx) : Bool := (List.range l.length).all fun i => (opsAt l i).all fun o => !o.w || (!decide (o.x = 0) && (List.range l.length).all fun k => decide (k = i) || !writesB (opsAt l k) o.v o.x)
def srcS (l : List Tx) (t i : Nat) : Int := match (opsAt l t)[i]? with
  | none => 0
  | some o => if o.w = true ∨ ownsB ((opsAt l t).take i) o.v = true then (t : Int) else if o.x = 0 then -1
    else match (List.range l.length).find? (fun k => !decide (k = t) && writesB (opsAt l k) o.v o.x) with | some k => (k : Int) | none => -2
def sourcesS (l : List Tx) : List (List Int) := (List.range l.length).map fun t => (List.range (opsAt l t).length).map (srcS l t)

theorem writes_iff {ops : List Rwo} {v x : Int} : writesB ops v x = true ↔ ∃ o ∈ ops, o.w = true ∧ o.v = v ∧ o.x = x := by
  unfold writesB
  rw [List.any_eq_true]
  simp [and_assoc]
theorem owns_iff {ops : List Rwo} {v : Int} : ownsB ops v = true ↔ ∃ o ∈ ops, o.w = true ∧ o.v = v := by
  unfold ownsB
  rw [List.any_eq_true]
  simp
/-- values are unique -/
structure Uniq (l : List Tx) : Prop where
  zero : ∀ i, i < l.length → ∀ o ∈ opsAt l i, o.w = true → o.x ≠ 0
  one : ∀ i k, i < l.length → k < l.length → ∀ v x, writesB (opsAt l i) v x = true → writesB (opsAt l k) v x = true → i = k
theorem unique_iff {l : List Tx} : uniqueS l = true ↔ Uniq l := by
  unfold uniqueS
  simp only [List.all_eq_true, List.mem_range, Bool.or_eq_true, Bool.and_eq_true, Bool.not_eq_true', decide_eq_true_eq, decide_eq_false_iff_not]
  constructor
  · intro h
    refine ⟨fun i hi o ho hw => ?_, fun i k hi hk v x h1 h2 => ?_⟩
    · rcases h i hi o ho with hc | hc
      · rw [hw] at hc; cases hc
      · exact hc.1
    · obtain ⟨o, ho, hw, hv, hx⟩ := writes_iff.1 h1
      rcases h i hi o ho with hc | hc
      · rw [hw] at hc; cases hc
      · rcases hc.2 k hk with h3 | h3
        · exact h3.symm
        · rw [hv, hx, h2] at h3; cases h3
  · intro h i hi o ho
    cases hw : o.w with
    | false => exact .inl rfl
    | true =>
      refine .inr ⟨h.zero i hi o ho hw, fun k hk => ?_⟩
      cases hb : writesB (opsAt l k) o.v o.x with
      | false => exact .inr rfl
      | true => exact .inl (h.one k i hk hi _ _ hb (writes_iff.2 ⟨o, ho, hw, rfl, rfl⟩))
theorem find_one {n t : Nat} {p : Nat → Bool} {k : Nat} (hk : k < n) (hne : k ≠ t) (hp : p k = true) (hone : ∀ j, j < n → p j = true → j = k) : (List.range n).find? (fun k => !decide (k = t) && p k) = some k := by
  have hsome : ((List.range n).find? (fun k => !decide (k = t) && p k)).isSome = true := by
    rw [List.find?_isSome]
    exact ⟨k, List.mem_range.2 hk, by simp [hne, hp]⟩
  obtain ⟨j, hj⟩ := Option.isSome_iff_exists.1 hsome
  have h1 := List.find?_some hj
  have h2 := List.mem_range.1 (List.mem_of_find?_eq_some hj)
  rw [Bool.and_eq_true] at h1
  rw [hj, hone j h2 h1.2]
end Go.Proofs.YtmnblljenobofaaGreatDoor.RPlain
/- Plain words: what is before what. -/
namespace Go.Proofs.YtmnblljenobofaaGreatDoor.WPlain
end Go.Proofs.YtmnblljenobofaaGreatDoor.WPlain
namespace Go.Proofs.YtmnblljenobofaaGreatDoor.QPlain
end Go.Proofs.YtmnblljenobofaaGreatDoor.QPlain
namespace Go.Proofs.YtmnblljenobofaaGreatDoor.RPlain
open WPlain QPlain

/-- is one transaction before another? -/
def bfr (a b : Tx) : Bool := (decide (a.s = 2) || decide (a.s = 3)) && decide (a.l < b.f)
theorem bfr_self (h : List Ev) {t : Int} (ht : t ∈ namesOf h) : bfr (txOf h t) (txOf h t) = false := by
  have := (fst_lst h t ht).1
  unfold bfr txOf
  simp
  omega
theorem bfr_trans (h : List Ev) {a b c : Int} (hb : b ∈ namesOf h) (h1 : bfr (txOf h a) (txOf h b) = true) (h2 : bfr (txOf h b) (txOf h c) = true) : bfr (txOf h a) (txOf h c) = true := by
  have := (fst_lst h b hb).1
  unfold bfr txOf at *
  simp only [Bool.and_eq_true, decide_eq_true_eq] at *
  exact ⟨h1.1, by omega⟩
end Go.Proofs.YtmnblljenobofaaGreatDoor.RPlain
/- Plain words: what is before what, as bits; up to a place; rows that keep it. -/
namespace Go.Proofs.YtmnblljenobofaaGreatDoor.WPlain
end Go.Proofs.YtmnblljenobofaaGreatDoor.WPlain
namespace Go.Proofs.YtmnblljenobofaaGreatDoor.QPlain
end Go.Proofs.YtmnblljenobofaaGreatDoor.QPlain
namespace Go.Proofs.YtmnblljenobofaaGreatDoor.RPlain
open WPlain QPlain

/-- the number whose bit k is p k -/
def bitsN (p : Nat → Bool) : Nat → Nat
  | 0 => 0
  | n + 1 => bitsN p n + (if p n = true then 2 ^ n else 0)
theorem bitsN_lt (p : Nat → Bool) : ∀ n, bitsN p n < 2 ^ n := by
  intro n
  induction n with
  | zero => simp [bitsN]
  | succ n ih => unfold bitsN; rw [Nat.pow_succ]; split <;> omega
theorem bitsN_congr {p q : Nat → Bool} : ∀ n, (∀ k, k < n → p k = q k) → bitsN p n = bitsN q n := by
  intro n
  induction n with
  | zero => intro _; rfl
  | succ n ih => intro h; unfold bitsN; rw [ih (fun k hk => h k (by omega)), h n (by omega)]
theorem bitsN_mod (p : Nat → Bool) {m : Nat} : ∀ n, m ≤ n → bitsN p n % 2 ^ m = bitsN p m := by
  intro n
  induction n with
  | zero => intro h; rw [show m = 0 from by omega]; rfl
  | succ n ih =>
    intro h
    by_cases hm : m = n + 1
    · rw [hm]; exact Nat.mod_eq_of_lt (bitsN_lt p (n + 1))
    · have hmn : m ≤ n := by omega
      rw [show bitsN p (n + 1) = bitsN p n + (if p n = true then 2 ^ n else 0) from rfl]
      have hd : (if p n = true then 2 ^ n else 0) % 2 ^ m = 0 := by
        split
        · obtain ⟨d, rfl⟩ : ∃ d, n = m + d := ⟨n - m, by omega⟩
          rw [Nat.pow_add, Nat.mul_mod_right]
        · exact Nat.zero_mod _
      rw [Nat.add_mod, hd, Nat.add_zero, Nat.mod_mod, ih hmn]
theorem bitsN_bit (p : Nat → Bool) {n k : Nat} (hk : k < n) : bitsN p n / 2 ^ k % 2 = if p k = true then 1 else 0 := by
  have h1 := bitsN_mod p (m := k + 1) n (by omega)
  have h2 : bitsN p n / 2 ^ k % 2 = bitsN p n % 2 ^ (k + 1) / 2 ^ k := by rw [Nat.pow_succ, Nat.mod_mul_right_div_self]
  rw [h2, h1, show bitsN p (k + 1) = bitsN p k + (if p k = true then 2 ^ k else 0) from rfl]
  have h3 := bitsN_lt p k
  split
  · rw [Nat.add_div_right _ (Nat.two_pow_pos k), Nat.div_eq_of_lt h3]
  · rw [Nat.add_zero, Nat.div_eq_of_lt h3]
/-- a transaction's bits, in a table; those of all -/
def afterN (l : List Tx) (X : Tx) : Nat := bitsN (fun k => match l[k]? with | some Y => bfr X Y | none => false) l.length
def afterS (l : List Tx) : List Nat := l.map (afterN l)
theorem afterN_lt (l : List Tx) (X : Tx) : afterN l X < 2 ^ l.length := bitsN_lt _ _
theorem afterS_len (l : List Tx) : (afterS l).length = l.length := List.length_map _
end Go.Proofs.YtmnblljenobofaaGreatDoor.RPlain
/- Plain words: the bits of what is before what, gathered pair by pair; rows of places as bits. -/
namespace Go.Proofs.YtmnblljenobofaaGreatDoor.WPlain
end Go.Proofs.YtmnblljenobofaaGreatDoor.WPlain
namespace Go.Proofs.YtmnblljenobofaaGreatDoor.QPlain
end Go.Proofs.YtmnblljenobofaaGreatDoor.QPlain
namespace Go.Proofs.YtmnblljenobofaaGreatDoor.RPlain
open WPlain QPlain

/-- is the one at a place before the one at another? -/
def bfrAt (l : List Tx) (i k : Nat) : Bool := match l[i]?, l[k]? with | some X, some Y => bfr X Y | _, _ => false
/-- all of two places, in order -/
def pairsF (n : Nat) : List (Fin n × Fin n) := (List.finRange n).flatMap fun i => (List.finRange n).map fun k => (i, k)
/-- a place's bits, gathered pair by pair -/
def accF {n : Nat} (g : Nat → Nat → Bool) (i : Nat) (pre : List (Fin n × Fin n)) : Nat := pre.foldl (fun a p => if p.1.val = i ∧ g p.1.val p.2.val = true then a ||| 2 ^ p.2.val else a) 0
theorem accF_snoc {n : Nat} (g : Nat → Nat → Bool) (i : Nat) (pre : List (Fin n × Fin n)) (x : Fin n × Fin n) : accF g i (pre ++ [x]) = if x.1.val = i ∧ g x.1.val x.2.val = true then accF g i pre ||| 2 ^ x.2.val else accF g i pre := by simp [accF]
theorem snoc_ind {α : Type} {p : List α → Prop} (h0 : p []) (h1 : ∀ h e, p h → p (h ++ [e])) (h : List α) : p h := by
  rw [← List.reverse_reverse h]
  induction h.reverse with
  | nil => exact h0
  | cons e r ih => rw [List.reverse_cons]; exact h1 _ _ ih
theorem accF_bit {n : Nat} (g : Nat → Nat → Bool) (i j : Nat) (pre : List (Fin n × Fin n)) : (accF g i pre).testBit j = true ↔ ∃ p ∈ pre, p.1.val = i ∧ p.2.val = j ∧ g p.1.val p.2.val = true := by
  refine snoc_ind (p := fun pre => (accF g i pre).testBit j = true ↔ ∃ p ∈ pre, p.1.val = i ∧ p.2.val = j ∧ g p.1.val p.2.val = true) ?_ ?_ pre
  · simp [accF]
  · intro pre x ih
    rw [accF_snoc]
    constructor
    · intro h
      split at h
      · rename_i hx
        rw [Nat.testBit_or, Bool.or_eq_true, Nat.testBit_two_pow] at h
        rcases h with h | h
        · obtain ⟨p, hp, hq⟩ := ih.1 h
          exact ⟨p, List.mem_append_left _ hp, hq⟩
        · exact ⟨x, by simp, hx.1, by simpa using h, hx.2⟩
      · obtain ⟨p, hp, hq⟩ := ih.1 h
        exact ⟨p, List.mem_append_left _ hp, hq⟩
    · rintro ⟨p, hp, h1, h2, h3⟩
      rcases List.mem_append.1 hp with hp | hp
      · have := ih.2 ⟨p, hp, h1, h2, h3⟩
        split
        · rw [Nat.testBit_or, this]; rfl
        · exact this
      · rw [List.mem_singleton.1 hp] at h1 h2 h3
        rw [if_pos ⟨h1, h3⟩, Nat.testBit_or, Nat.testBit_two_pow]
        simp [h2]
theorem accF_lt {n : Nat} (g : Nat → Nat → Bool) (i : Nat) (pre : List (Fin n × Fin n)) : accF g i pre < 2 ^ n := by
  refine Nat.lt_pow_two_of_testBit _ fun j hj => ?_
  cases hc : (accF g i pre).testBit j with
  | false => rfl
  | true =>
    obtain ⟨p, _, _, h2, _⟩ := (accF_bit g i j pre).1 hc
    have := p.2.isLt
    omega
theorem bitsN_test (p : Nat → Bool) (n j : Nat) : (bitsN p n).testBit j = (decide (j < n) && p j) := by
  by_cases hj : j < n
  · rw [Nat.testBit_eq_decide_div_mod_eq, bitsN_bit p hj]
    cases p j <;> simp [hj]
  · have h1 := bitsN_lt p n
    have h2 : 2 ^ n ≤ 2 ^ j := Nat.pow_le_pow_right (by decide) (by omega)
    rw [Nat.testBit_lt_two_pow (by omega)]
    simp [hj]
theorem pairsF_mem {n : Nat} (p : Fin n × Fin n) : p ∈ pairsF n := by
  unfold pairsF
  rw [List.mem_flatMap]
  exact ⟨p.1, List.mem_finRange _, List.mem_map.2 ⟨p.2, List.mem_finRange _, rfl⟩⟩
theorem accF_all (g : Nat → Nat → Bool) {n i : Nat} (hi : i < n) : accF g i (pairsF n) = bitsN (g i) n := by
  refine Nat.eq_of_testBit_eq fun j => ?_
  rw [bitsN_test]
  by_cases hj : j < n ∧ g i j = true
  · rw [(accF_bit g i j (pairsF n)).2 ⟨(⟨i, hi⟩, ⟨j, hj.1⟩), pairsF_mem _, rfl, rfl, hj.2⟩]
    simp [hj.1, hj.2]
  · cases hc : (accF g i (pairsF n)).testBit j with
    | true =>
      obtain ⟨p, _, h1, h2, h3⟩ := (accF_bit g i j (pairsF n)).1 hc
      rw [h1, h2] at h3
      exact absurd ⟨h2 ▸ p.2.isLt, h3⟩ hj
    | false =>
      symm
      rw [Bool.and_eq_false_iff]
      by_cases h1 : j < n
      · right
        cases hg : g i j with
        | false => rfl
        | true => exact absurd ⟨h1, hg⟩ hj
      · left
        simp [h1]
theorem accF_after (l : List Tx) {i : Nat} (hi : i < l.length) : accF (bfrAt l) i (pairsF l.length) = afterN l l[i] := by
  rw [accF_all _ hi]
  unfold afterN
  refine bitsN_congr _ fun k hk => ?_
  unfold bfrAt
  rw [List.getElem?_eq_getElem hi, List.getElem?_eq_getElem hk]
/-- the pairs up to a place -/
def preF (n i : Nat) : List (Fin n × Fin n) := ((List.finRange n).take i).flatMap fun i => (List.finRange n).map fun k => (i, k)
def midF (n i k : Nat) (hi : i < n) : List (Fin n × Fin n) := preF n i ++ ((List.finRange n).take k).map fun k => (⟨i, hi⟩, k)
theorem preF_all (n : Nat) : preF n n = pairsF n := by
  unfold preF pairsF
  rw [List.take_of_length_le (by simp)]
theorem midF_zero {n i : Nat} (hi : i < n) : midF n i 0 hi = preF n i := by simp [midF]
theorem midF_all {n i : Nat} (hi : i < n) : midF n i n hi = preF n (i + 1) := by
  unfold midF preF
  rw [List.take_of_length_le (l := List.finRange n) (i := n) (by simp), List.take_succ_eq_append_getElem (l := List.finRange n) (i := i) (by simpa using hi), List.flatMap_append]
  simp
theorem midF_snoc {n i k : Nat} (hi : i < n) (hk : k < n) : midF n i (k + 1) hi = midF n i k hi ++ [(⟨i, hi⟩, ⟨k, hk⟩)] := by
  unfold midF
  rw [List.take_succ_eq_append_getElem (l := List.finRange n) (i := k) (by simpa using hk), List.map_append, ← List.append_assoc]
  simp
theorem preF_len (n i : Nat) (hi : i ≤ n) : (preF n i).length = i * n := by
  unfold preF
  rw [List.length_flatMap]
  simp only [List.length_map, List.length_finRange]
  rw [List.map_const', List.sum_replicate_nat]
  simp
  rw [Nat.min_eq_left hi]
theorem midF_len {n i k : Nat} (hi : i < n) (hk : k < n) : (midF n i k hi).length < n * n := by
  unfold midF
  rw [List.length_append, preF_len n i (by omega), List.length_map, List.length_take, List.length_finRange]
  have h1 : (i + 1) * n ≤ n * n := Nat.mul_le_mul_right n hi
  rw [Nat.add_mul] at h1
  omega
/-- rows of places -/
def aheadN (row : List Nat) : Nat := row.foldl (fun a p => a ||| 2 ^ p) 0
theorem aheadN_snoc (row : List Nat) (p : Nat) : aheadN (row ++ [p]) = aheadN row ||| 2 ^ p := by simp [aheadN]
theorem aheadN_bit (row : List Nat) (j : Nat) : (aheadN row).testBit j = true ↔ j ∈ row := by
  refine snoc_ind (p := fun row => (aheadN row).testBit j = true ↔ j ∈ row) ?_ ?_ row
  · simp [aheadN]
  · intro row p ih
    rw [aheadN_snoc, Nat.testBit_or, Bool.or_eq_true, ih, Nat.testBit_two_pow]
    simp [eq_comm]
theorem aheadN_lt {row : List Nat} {n : Nat} (h : ∀ p ∈ row, p < n) : aheadN row < 2 ^ n := by
  refine Nat.lt_pow_two_of_testBit _ fun j hj => ?_
  cases hc : (aheadN row).testBit j with
  | false => rfl
  | true =>
    have := h _ ((aheadN_bit row j).1 hc)
    omega
theorem afterN_test (l : List Tx) (X : Tx) {k : Nat} (hk : k < l.length) : (afterN l X).testBit k = bfr X l[k] := by
  unfold afterN
  rw [bitsN_test, List.getElem?_eq_getElem hk]
  simp [hk]
/-- well-formed events have few names -/
theorem table_six {h : List Ev} (h0 : (checkS h).2 = 0) : (tableS h).length ≤ 6 := by
  obtain ⟨hr, _, _⟩ := check_agree h0
  rw [tableS_len]
  unfold right at hr
  simp only [Bool.and_eq_true, decide_eq_true_eq] at hr
  exact hr.2
end Go.Proofs.YtmnblljenobofaaGreatDoor.RPlain
