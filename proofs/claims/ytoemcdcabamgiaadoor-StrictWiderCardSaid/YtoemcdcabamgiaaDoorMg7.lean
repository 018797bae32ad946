/- Merged: TabD, TabP, TabE. -/
import Derived.Test.YtoemcdcabamgiaaDoorMg6
import Derived.Test.YtoemcdcabamgiaaDoorMg5
import Derived.Test.YtoemcdcabamgiaaDoorMg1
import Derived.Test.YtoemcdcabamgiaaDoorMg4
import Derived.Test.YtoemcdcabamgiaaDoorMg3
import Derived.Deep.DeepCutAuto
import Derived.Deep.RegionHeldLaw
import Derived.Deep.RegionHeld
import Derived.Deep.DeepMust
/- The walks of table's stateBehind and take. -/
namespace Go.Proofs.YtoemcdcabamgiaaDoor.WPlain
end Go.Proofs.YtoemcdcabamgiaaDoor.WPlain
namespace Go.Proofs.YtoemcdcabamgiaaDoor.QPlain
end Go.Proofs.YtoemcdcabamgiaaDoor.QPlain
namespace Go.Proofs.YtoemcdcabamgiaaDoor.RPlain
end Go.Proofs.YtoemcdcabamgiaaDoor.RPlain
namespace Go.Proofs.YtoemcdcabamgiaaDoor
open Go.RowKit WPlain QPlain RPlain

theorem infoOp : (Tryd.prog.info? 107).map (fun i => (i.zero, i.size, i.bytes)) = some (some (.agg #[.bool false, .int .i64 0, .int .i64 0]), 3, 24) := by kernel_rfl
theorem infoTx : (Tryd.prog.info? 49).map (fun i => (i.zero, i.size, i.bytes)) = some (some (.agg #[.int .i64 0, .int .i64 0, .int .i64 0, .int .i64 0, .slice none 0 0]), 5, 56) := by kernel_rfl
theorem behind_any (k : Int) (w : World) : Calls Tryd.prog 60 #[.int .i64 k] w fun e w' => e = .returned (.int .i64 (stateS k)) ∧ w = w' := by
  unfold stateS
  by_cases h7 : k = 7
  · subst h7
    go_enter Tryd.func60, Tryd.ntmps60
    go_wp2
    go_ret
    exact ⟨rfl, rfl⟩
  · by_cases h9 : k = 9
    · subst h9
      go_enter Tryd.func60, Tryd.ntmps60
      go_wp2
      go_ret
      exact ⟨rfl, rfl⟩
    · by_cases h6 : k = 6
      · subst h6
        go_enter Tryd.func60, Tryd.ntmps60
        go_wp2
        go_ret
        exact ⟨rfl, rfl⟩
      · rw [if_neg h7, if_neg h9, if_neg h6]
        have t7 : ((k : Int) == 7) = false := by simp [h7]
        have t9 : ((k : Int) == 9) = false := by simp [h9]
        have t6 : ((k : Int) == 6) = false := by simp [h6]
        clear h7 h9 h6
        go_enter Tryd.func60, Tryd.ntmps60
        go_wp2
        go_ret
        exact ⟨rfl, rfl⟩
theorem row_belowT {w w' : World} {B : Nat} {e : TypeId} {s : Nat} {v : Value} {n : Nat} {xs : List Value} (h : w.ownsRow B e s v n xs) (hb : Below w.heap.size w w') : w'.ownsRow B e s v n xs :=
  own_only h (Only.of_below (s := fun _ => False) hb) (fun _ _ hf => hf)
theorem cells_at {w : World} {b : Nat} {cs : Array Value} {t : TypeId} (h : At w b cs t) : ∀ j u, cs.toList[j]? = some u → w.cell? ((⟨b, 0, none⟩ : Addr).add j) = some u := by
  intro j u hu
  rw [addr_add, Nat.zero_add]
  exact h.cell (by simpa using hu)
theorem opC_one (o : Rwo) : ∀ u ∈ opC o, u.oneCell' = true := by
  intro u hu
  simp [opC] at hu
  rcases hu with rfl | rfl | rfl <;> rfl
/-- a transaction in memory, being built -/
structure Txm (B : Nat) (w : World) (g : Nat) (n f l s : Int) (V : Value) (o : List Rwo) : Prop where
  at_ : At w g #[.int .i64 n, .int .i64 f, .int .i64 l, .int .i64 s, V] 49
  row : w.ownsRow B 107 3 V o.length (o.flatMap opC)
/-- its blocks -/
def Mine (g : Nat) (V : Value) (b : Nat) : Prop := b = g ∨ V.ownBlock = some b
theorem Txm.only {B g : Nat} {w w' : World} {n f l s : Int} {V : Value} {o : List Rwo} {S : Nat → Prop} (h : Txm B w g n f l s V o) (ho : Only S w w') (hn : ∀ b, Mine g V b → ¬ S b) : Txm B w' g n f l s V o :=
  ⟨h.at_.only ho (hn g (.inl rfl)), own_only h.row ho fun k hk => hn k (.inr hk)⟩
theorem take_tail {B g : Nat} {w w5 : World} {n f l s s' i : Int} {V V5 : Value} {o : List Rwo} (hT : Txm B w5 g n f l s V5 o) (hO : Only (Mine g V) w w5) :
    Txm B ((w5.setCell ⟨g, 3, none⟩ (.int .i64 s')).setCell ⟨g, 2, none⟩ (.int .i64 i)) g n f i s' V5 o ∧ Only (Mine g V) w ((w5.setCell ⟨g, 3, none⟩ (.int .i64 s')).setCell ⟨g, 2, none⟩ (.int .i64 i)) := by
  have h3 := hT.at_.set 3 (.int .i64 s')
  have r3 := ownsRow_setCell_other hT.row (a := ⟨g, 3, none⟩) (row_not hT.row hT.at_ (by decide)) (.int .i64 s')
  have r2 := ownsRow_setCell_other r3 (a := ⟨g, 2, none⟩) (row_not r3 h3 (by decide)) (.int .i64 i)
  exact ⟨⟨h3.set 2 (.int .i64 i), r2⟩, (hO.setCell (p := ⟨g, 3, none⟩) (fun _ => .inl rfl) _).setCell (p := ⟨g, 2, none⟩) (fun _ => .inl rfl) _⟩
set_option maxRecDepth 100000 in
set_option maxHeartbeats 2000000 in
theorem take_any (B g i l : Nat) (n f s : Int) (V v : Value) (o : List Rwo) (h : List Ev) (w : World) (hT : Txm B w g n f l s V o) (hB : B ≤ w.heap.size) (hv : Evs w v h) (ho : o.length ≤ 65536) (hi : i < h.length) (hll : l < h.length) :
    Calls Tryd.prog 31 #[.pointer (some ⟨g, 0, none⟩), v, .int .i64 (i : Int)] w fun e w' => ∃ V', e = .returned (.tuple #[]) ∧ Txm B w' g n f i (stateS h[i].k) V' (o ++ opStep h[l] h[i]) ∧ Only (Mine g V) w w' ∧ Lies w V V' := by
  have HV := Lib.hid hv
  have HT := Lib.hid hT
  obtain ⟨a, c, rfl⟩ := hv.len
  rcases hv with ⟨e0, _⟩ | ⟨l0, b, oo, c', he, hbl, hc⟩
  · rw [e0] at hi; simp at hi
  obtain ⟨rfl, rfl⟩ : a = some ⟨b, oo, none⟩ ∧ c = c' := by simpa using he
  clear he
  obtain ⟨c0, c1, c2, c3⟩ := hc i hi
  obtain ⟨d0, d1, d2, d3⟩ := hc l hll
  clear hc
  have hgl := hT.at_.lt
  have e2 := hT.at_.cell (i := 2) (v := .int .i64 (l : Int)) rfl
  generalize h[i] = ev at *
  generalize h[l] = aq at *
  go_enter Tryd.func31, Tryd.ntmps31
  go_upto_region 0 with fail
  go_cut [6, 7] from 8 to 18 (fun p q wx => ∃ b6 b7, p = .pointer (some ⟨b6, 0, none⟩) ∧ q = .pointer (some ⟨b7, 0, none⟩) ∧ w.heap.size ≤ b6 ∧ w.heap.size ≤ b7 ∧ Hid (At wx b6 #[.int .i64 aq.k, .int .i64 aq.t, .int .i64 aq.v, .int .i64 aq.x] 45) ∧ Hid (At wx b7 #[.int .i64 ev.k, .int .i64 ev.t, .int .i64 ev.v, .int .i64 ev.x] 45) ∧ Hid (Below w.heap.size w wx))
  case first =>
    go_region
    all_goals
      go_wp2_with fail
      go_meet
    · refine ⟨_, _, rfl, rfl, Nat.le_refl _, Nat.le_succ _, ((At.new w _ _).alloc _).drew, ?_, (((Below.refl _ _).alloc (Nat.le_refl _) _).alloc (by simp) _).drew⟩
      have h1 := At.new (w.alloc (.cells #[.int .i64 aq.k, .int .i64 aq.t, .int .i64 aq.v, .int .i64 aq.x] 45)) #[.int .i64 ev.k, .int .i64 ev.t, .int .i64 ev.v, .int .i64 ev.x] 45
      simp only [World.size_alloc] at h1
      exact h1
    · refine ⟨_, _, rfl, rfl, Nat.le_succ _, Nat.le_refl _, ?_, ((At.new w _ _).alloc _).drew, (((Below.refl _ _).alloc (Nat.le_refl _) _).alloc (by simp) _).drew⟩
      have h1 := At.new (w.alloc (.cells #[.int .i64 ev.k, .int .i64 ev.t, .int .i64 ev.v, .int .i64 ev.x] 45)) #[.int .i64 aq.k, .int .i64 aq.t, .int .i64 aq.v, .int .i64 aq.x] 45
      simp only [World.size_alloc] at h1
      exact h1
  case rest =>
    obtain ⟨b6, b7, rfl, rfl, hb6, hb7, HA6, HA7, HB⟩ := hcut
    have HO : Hid (Only (Mine g V) w wc) := Only.of_below HB.out
    have HT6 : Hid (Txm B wc g n f l s V o) := ⟨HT.out.at_.below HB.out hgl, row_belowT HT.out.row HB.out⟩
    have HRL : Hid (∀ k, V.ownBlock = some k → k < w.heap.size) := fun k hk => (own_base HT.out.row hk).2
    have hsz : w.heap.size ≤ wc.heap.size := HB.out.size
    have hgc : g < wc.heap.size := by omega
    have hb6c : b6 < wc.heap.size := HA6.out.lt
    have hb7c : b7 < wc.heap.size := HA7.out.lt
    have q0 := HA7.out.cell (i := 0) (v := .int .i64 ev.k) rfl
    have q3 := HA7.out.cell (i := 3) (v := .int .i64 ev.x) rfl
    have p2 := HA6.out.cell (i := 2) (v := .int .i64 aq.v) rfl
    have p3 := HA6.out.cell (i := 3) (v := .int .i64 aq.x) rfl
    have r4 := HT6.out.at_.cell (i := 4) (v := V) rfl
    have f4 := HT6.out.at_.free 4
    clear c0 c1 c2 c3 d0 d1 d2 d3 e2 HT HV HB hT
    obtain ⟨j0, hj0, hy0, hy1', hy2'⟩ := info_parts infoOp
    by_cases h3 : ev.k = 3
    · have t3 : ((ev.k : Int) == 3) = true := by simp [h3]
      have HOP : Hid (opStep aq ev = [⟨false, aq.v, ev.x⟩]) := by unfold Hid opStep; rw [if_pos h3]
      clear h3
      obtain ⟨va, vc, rfl⟩ := row_slice HT6.out.row
      go_wp2_with fail
      go_region_law (go_must (refine step_append_apart rfl _ _ 47 rfl B 107 j0 _ 3 24 Tryd.underlying47 hj0 hy0 hy1' hy2' rfl (by decide) (.slice va o.length vc) o.length (o.flatMap opC) rfl (HT6.out.row.alloc _).drew ⟨wc.heap.size, 0, none⟩ 1 1 (opC ⟨false, aq.v, ev.x⟩) rfl rfl (cells_at (At.new wc #[.bool false, .int .i64 aq.v, .int .i64 ev.x] _).drew) (opC_one _) (by unfold maxLen; omega) (by omega) (by simp; omega) ?_; intro v4 w4 hx4 hg4 hl4; obtain ⟨va4, vc4, rfl⟩ := row_slice hx4; have hA4 := (HT6.out.at_.alloc (.cells #[.bool false, .int .i64 aq.v, .int .i64 ev.x] 107)).drew.grown hg4 (Ne.symm (row_not HT6.out.row HT6.out.at_ (by decide))); have hA4c := hA4.cell (i := 4) rfl; have hA4f := hA4.free 4))
      all_goals
        have HT5 : Hid (Txm B (w4.setCell ⟨g, 4, none⟩ (.slice va4 (o.length + 1) vc4)) g n f l s (.slice va4 (o.length + 1) vc4) (o ++ opStep aq ev)) := by
          rw [HOP.out]
          refine ⟨hA4.set 4 _, ?_⟩
          have hx5 := ownsRow_setCell_other hx4 (a := ⟨g, 4, none⟩) (row_not hx4 hA4 (by decide)) (.slice va4 (o.length + 1) vc4)
          simpa using hx5
        have HO5 : Hid (Only (Mine g (.slice va o.length vc)) w (w4.setCell ⟨g, 4, none⟩ (.slice va4 (o.length + 1) vc4))) :=
          (((HO.out.alloc (.cells #[.bool false, .int .i64 aq.v, .int .i64 ev.x] 107)).drew).grown hg4 (fun k _ hk => .inr hk)).setCell (p := ⟨g, 4, none⟩) (fun _ => .inl rfl) _
        have HL5 : Hid (Lies w (.slice va o.length vc) (.slice va4 (o.length + 1) vc4)) := hl4.later (by simp; omega)
        have h7 : At (w4.setCell ⟨g, 4, none⟩ (.slice va4 (o.length + 1) vc4)) b7 #[.int .i64 ev.k, .int .i64 ev.t, .int .i64 ev.v, .int .i64 ev.x] 45 :=
          ((HA7.out.alloc (.cells #[.bool false, .int .i64 aq.v, .int .i64 ev.x] 107)).drew.grown hg4 (fun hh => by have := HRL.out b7 hh.symm; omega)).other (a := ⟨g, 4, none⟩) (by show b7 ≠ g; omega) _
        have q7 := h7.cell (i := 0) (v := .int .i64 ev.k) rfl
        have g3 := HT5.out.at_.free 3
        have g2 := HT5.out.at_.free 2
        have g3c := HT5.out.at_.cell (i := 3) (v := .int .i64 s) rfl
        have g2c := HT5.out.at_.cell (i := 2) (v := .int .i64 (l : Int)) rfl
        have HTL := Lib.hid (take_tail (s' := stateS ev.k) (i := i) HT5.out HO5.out)
        clear hA4 hx4 hg4 hl4 hA4c hA4f h7 HA6 HA7 q0 q3 p2 p3 r4 f4 HOP HRL HT5 HO5 HO HT6
        generalize w4.setCell ⟨g, 4, none⟩ (.slice va4 (o.length + 1) vc4) = w5 at *
        go_wp2_with fail
        refine (behind_any ev.k _).mono ?_
        rintro e w6 ⟨rfl, rfl⟩
        go_wp2
        exact bodyPost_end (v := .tuple #[]) (by simp [results, Tryd.results31, go_sem]) rfl ⟨_, rfl, HTL.out.1, HTL.out.2, HL5.out⟩
    · by_cases h5 : ev.k = 5
      · have t3 : ((ev.k : Int) == 3) = false := by simp [h3]
        have t5 : ((ev.k : Int) == 5) = true := by simp [h5]
        have HOP : Hid (opStep aq ev = [⟨true, aq.v, aq.x⟩]) := by unfold Hid opStep; rw [if_neg h3, if_pos h5]
        clear h3 h5
        obtain ⟨va, vc, rfl⟩ := row_slice HT6.out.row
        go_wp2_with fail
        go_region_law (go_must (refine step_append_apart rfl _ _ 47 rfl B 107 j0 _ 3 24 Tryd.underlying47 hj0 hy0 hy1' hy2' rfl (by decide) (.slice va o.length vc) o.length (o.flatMap opC) rfl (HT6.out.row.alloc _).drew ⟨wc.heap.size, 0, none⟩ 1 1 (opC ⟨true, aq.v, aq.x⟩) rfl rfl (cells_at (At.new wc #[.bool true, .int .i64 aq.v, .int .i64 aq.x] _).drew) (opC_one _) (by unfold maxLen; omega) (by omega) (by simp; omega) ?_; intro v4 w4 hx4 hg4 hl4; obtain ⟨va4, vc4, rfl⟩ := row_slice hx4; have hA4 := (HT6.out.at_.alloc (.cells #[.bool true, .int .i64 aq.v, .int .i64 aq.x] 107)).drew.grown hg4 (Ne.symm (row_not HT6.out.row HT6.out.at_ (by decide))); have hA4c := hA4.cell (i := 4) rfl; have hA4f := hA4.free 4))
        all_goals
          have HT5 : Hid (Txm B (w4.setCell ⟨g, 4, none⟩ (.slice va4 (o.length + 1) vc4)) g n f l s (.slice va4 (o.length + 1) vc4) (o ++ opStep aq ev)) := by
            rw [HOP.out]
            refine ⟨hA4.set 4 _, ?_⟩
            have hx5 := ownsRow_setCell_other hx4 (a := ⟨g, 4, none⟩) (row_not hx4 hA4 (by decide)) (.slice va4 (o.length + 1) vc4)
            simpa using hx5
          have HO5 : Hid (Only (Mine g (.slice va o.length vc)) w (w4.setCell ⟨g, 4, none⟩ (.slice va4 (o.length + 1) vc4))) :=
            (((HO.out.alloc (.cells #[.bool true, .int .i64 aq.v, .int .i64 aq.x] 107)).drew).grown hg4 (fun k _ hk => .inr hk)).setCell (p := ⟨g, 4, none⟩) (fun _ => .inl rfl) _
          have HL5 : Hid (Lies w (.slice va o.length vc) (.slice va4 (o.length + 1) vc4)) := hl4.later (by simp; omega)
          have h7 : At (w4.setCell ⟨g, 4, none⟩ (.slice va4 (o.length + 1) vc4)) b7 #[.int .i64 ev.k, .int .i64 ev.t, .int .i64 ev.v, .int .i64 ev.x] 45 :=
            ((HA7.out.alloc (.cells #[.bool true, .int .i64 aq.v, .int .i64 aq.x] 107)).drew.grown hg4 (fun hh => by have := HRL.out b7 hh.symm; omega)).other (a := ⟨g, 4, none⟩) (by show b7 ≠ g; omega) _
          have q7 := h7.cell (i := 0) (v := .int .i64 ev.k) rfl
          have g3 := HT5.out.at_.free 3
          have g2 := HT5.out.at_.free 2
          have g3c := HT5.out.at_.cell (i := 3) (v := .int .i64 s) rfl
          have g2c := HT5.out.at_.cell (i := 2) (v := .int .i64 (l : Int)) rfl
          have HTL := Lib.hid (take_tail (s' := stateS ev.k) (i := i) HT5.out HO5.out)
          clear hA4 hx4 hg4 hl4 hA4c hA4f h7 HA6 HA7 q0 q3 p2 p3 r4 f4 HOP HRL HT5 HO5 HO HT6
          generalize w4.setCell ⟨g, 4, none⟩ (.slice va4 (o.length + 1) vc4) = w5 at *
          go_wp2_with fail
          refine (behind_any ev.k _).mono ?_
          rintro e w6 ⟨rfl, rfl⟩
          go_wp2
          exact bodyPost_end (v := .tuple #[]) (by simp [results, Tryd.results31, go_sem]) rfl ⟨_, rfl, HTL.out.1, HTL.out.2, HL5.out⟩
      · have t3 : ((ev.k : Int) == 3) = false := by simp [h3]
        have t5 : ((ev.k : Int) == 5) = false := by simp [h5]
        have HOP : Hid (opStep aq ev = []) := by unfold Hid opStep; rw [if_neg h3, if_neg h5]
        clear h3 h5
        have g3 := HT6.out.at_.free 3
        have g2 := HT6.out.at_.free 2
        have g3c := HT6.out.at_.cell (i := 3) (v := .int .i64 s) rfl
        have g2c := HT6.out.at_.cell (i := 2) (v := .int .i64 (l : Int)) rfl
        have HTL := Lib.hid (take_tail (s' := stateS ev.k) (i := i) HT6.out HO.out)
        clear HA6 HA7 q3 p2 p3 r4 f4 HRL HT6 HO
        go_wp2_with fail
        refine (behind_any ev.k _).mono ?_
        rintro e w6 ⟨rfl, rfl⟩
        go_wp2
        exact bodyPost_end (v := .tuple #[]) (by simp [results, Tryd.results31, go_sem]) rfl ⟨_, rfl, by rw [HOP.out, List.append_nil]; exact HTL.out.1, HTL.out.2, .inl rfl⟩
end Go.Proofs.YtoemcdcabamgiaaDoor
/- Plain words: what well-formed events tell of their transactions. -/
namespace Go.Proofs.YtoemcdcabamgiaaDoor.WPlain
end Go.Proofs.YtoemcdcabamgiaaDoor.WPlain
namespace Go.Proofs.YtoemcdcabamgiaaDoor.QPlain
end Go.Proofs.YtoemcdcabamgiaaDoor.QPlain
namespace Go.Proofs.YtoemcdcabamgiaaDoor.RPlain
open WPlain QPlain

theorem asked_at (g : List Ev) (t : Int) (ht : t ∈ namesOf g) : ∃ l : Nat, lstOf g t = (l : Int) ∧ ∃ hl : l < g.length, g[l] = askedOf g t := by
  revert ht
  refine rev_ind (p := fun g => t ∈ namesOf g → ∃ l : Nat, lstOf g t = (l : Int) ∧ ∃ hl : l < g.length, g[l] = askedOf g t) ?_ ?_ g
  · simp [namesOf]
  · intro g e ih ht
    rw [lstOf_snoc, askedOf_snoc]
    by_cases he : e.t = t
    · rw [if_pos he, if_pos he]
      exact ⟨g.length, rfl, by simp, by simp⟩
    · rw [if_neg he, if_neg he]
      rcases (mem_names_snoc g e t).1 ht with hm | hm
      · obtain ⟨l, h1, h2, h3⟩ := ih hm
        exact ⟨l, h1, by rw [List.length_append]; omega, by rw [List.getElem_append_left h2]; exact h3⟩
      · exact absurd hm.symm he
theorem last_none (g : List Ev) (t : Int) (ht : t ∉ namesOf g) : lastOf g t = -1 := by
  revert ht
  refine rev_ind (p := fun g => t ∉ namesOf g → lastOf g t = -1) ?_ ?_ g
  · intro _; rfl
  · intro g e ih ht
    rw [mem_names_snoc, not_or] at ht
    rw [lastOf_snoc, if_neg (fun hc => ht.2 hc.symm)]
    exact ih ht.1
theorem firstG_may : ∀ (r pre : List Ev), firstG pre r = (pre ++ r).length → ∀ j (hj : j < r.length), mayS (lastOf (pre ++ r.take j) r[j].t) r[j].k = true := by
  intro r
  induction r with
  | nil => intro pre _ j hj; simp at hj
  | cons e r ih =>
    intro pre hf j hj
    by_cases hm : mayS (lastOf pre e.t) e.k = true
    · have h1 : firstG pre (e :: r) = firstG (pre ++ [e]) r := by unfold firstG; rw [if_pos hm]; cases r <;> rfl
      rw [h1] at hf
      cases j with
      | zero => simpa using hm
      | succ j =>
        have := ih (pre ++ [e]) (by simpa using hf) j (by simpa using hj)
        simpa using this
    · have h1 : firstG pre (e :: r) = pre.length := by unfold firstG; rw [if_neg hm]
      rw [h1] at hf
      simp at hf
theorem check_may {h : List Ev} (hc : (checkS h).2 = 0) (j : Nat) (hj : j < h.length) : mayS (lastOf (h.take j) h[j].t) h[j].k = true := by
  have hr := (check_agree hc).1
  have hf := check_first hr
  have h1 : firstS h = h.length := by
    by_cases he : firstS h = h.length
    · exact he
    · rw [if_neg he] at hf
      rw [hf] at hc
      simp at hc
  unfold firstS at h1
  simpa using firstG_may h [] (by simpa using h1) j hj
/-- the first event of a transaction begins it -/
theorem check_begin {h : List Ev} (hc : (checkS h).2 = 0) (j : Nat) (hj : j < h.length) (ht : h[j].t ∉ namesOf (h.take j)) : h[j].k = 0 := by
  have := check_may hc j hj
  rw [last_none _ _ ht] at this
  simpa [mayS] using this
theorem opStep_zero (a e : Ev) (h : e.k = 0) : opStep a e = [] := by unfold opStep; rw [if_neg (by omega), if_neg (by omega)]
theorem ops_le (h : List Ev) (t : Int) : (opsOf h t).length ≤ h.length := by rw [ops_len]; exact List.length_filter_le _ _
theorem names_old {g : List Ev} {e : Ev} (hm : e.t ∈ namesOf g) : namesOf (g ++ [e]) = namesOf g := by
  rw [namesOf_snoc]
  unfold addName
  rw [if_pos (by simpa using hm)]
theorem names_new {g : List Ev} {e : Ev} (hm : e.t ∉ namesOf g) : namesOf (g ++ [e]) = namesOf g ++ [e.t] := by
  rw [namesOf_snoc]
  unfold addName
  rw [if_neg (by simpa using hm)]
theorem tx_old {g : List Ev} {e : Ev} (hm : e.t ∈ namesOf g) : ∀ u ∈ namesOf g, txOf (g ++ [e]) u = if u = e.t then ⟨e.t, fstOf g e.t, g.length, stateS e.k, opsOf g e.t ++ opStep (askedOf g e.t) e⟩ else txOf g u := by
  intro u hu
  by_cases he : u = e.t
  · rw [if_pos he, he, txOf_mine g e hm]
  · rw [if_neg he]
    exact txOf_other g e hu (fun hc => he hc.symm)
theorem tx_new {g : List Ev} {e : Ev} (hm : e.t ∉ namesOf g) (h0 : e.k = 0) : ∀ u ∈ namesOf g ++ [e.t], txOf (g ++ [e]) u = if u = e.t then ⟨e.t, g.length, g.length, stateS e.k, []⟩ else txOf g u := by
  intro u hu
  by_cases he : u = e.t
  · rw [if_pos he, he, txOf_first g e hm, opStep_zero _ _ h0]
  · rw [if_neg he]
    rcases List.mem_append.1 hu with hu | hu
    · exact txOf_other g e hu (fun hc => he hc.symm)
    · exact absurd (List.mem_singleton.1 hu) he
end Go.Proofs.YtoemcdcabamgiaaDoor.RPlain
/- How a table being built lies in memory: a map of pointers, by names. -/
namespace Go.Proofs.YtoemcdcabamgiaaDoor.WPlain
end Go.Proofs.YtoemcdcabamgiaaDoor.WPlain
namespace Go.Proofs.YtoemcdcabamgiaaDoor.QPlain
end Go.Proofs.YtoemcdcabamgiaaDoor.QPlain
namespace Go.Proofs.YtoemcdcabamgiaaDoor.RPlain
end Go.Proofs.YtoemcdcabamgiaaDoor.RPlain
namespace Go.Proofs.YtoemcdcabamgiaaDoor
open Go.RowKit WPlain QPlain RPlain
open Go.Maps (Keyed)

/-- how an element that is a pointer reads: by its block -/
def ptrE : Value → Option (DataW Unit × List MemPlace)
  | .pointer (some ⟨b, 0, none⟩) => some (.lit (.int .i64 (b : Int)), [])
  | .pointer none => some (.lit (.int .i64 (-1)), [])
  | _ => none
theorem ptrE_inv {v : Value} {b : Nat} {ps : List MemPlace} (h : ptrE v = some (.lit (.int .i64 (b : Int)), ps)) : v = .pointer (some ⟨b, 0, none⟩) := by
  unfold ptrE at h
  split at h
  · rename_i b'
    simp at h
    obtain rfl : b' = b := by omega
    rfl
  · simp at h
  · cases h
theorem ptrE_nil {v : Value} {ps : List MemPlace} (h : ptrE v = some (.lit (.int .i64 (-1)), ps)) : v = .pointer none := by
  unfold ptrE at h
  split at h
  · simp at h
  · rfl
  · cases h
theorem zeroPtr (w : World) : (zeroValue 71).run Tryd.prog w = .ok (.pointer none) w := by kernel_rfl
/-- block M is a map of pointers to the transactions of the names ns -/
structure Tab (B : Nat) (w : World) (M k : Nat) (ns : List Int) (X : Int → Tx) (P : Int → Nat) (V : Int → Value) : Prop where
  base : B ≤ M
  map : ∃ D, w.ownsMap Tryd.prog 3 ptrE M k D ∧ ∀ t : Int, (Lit.int .i64 t).wf = true → (t ∈ ns → Maps.has D (.int .i64 t) = true ∧ ∀ z, D.atKey (.int .i64 t) z = .lit (.int .i64 (P t : Int))) ∧ (t ∉ ns → Maps.has D (.int .i64 t) = false)
  tx : ∀ t ∈ ns, B ≤ P t ∧ Txm B w (P t) (X t).n (X t).f (X t).l (X t).s (V t) (X t).o
  apart : ∀ t ∈ ns, ∀ u ∈ ns, t ≠ u → P t ≠ P u ∧ ∀ b, (V t).ownBlock = some b → (V u).ownBlock ≠ some b
section
variable {B M k : Nat} {w w' : World} {ns : List Int} {X : Int → Tx} {P : Int → Nat} {V : Int → Value} {S : Nat → Prop}
theorem Tab.only (h : Tab B w M k ns X P V) (ho : Only S w w') (hM : ¬ S M) (hn : ∀ t ∈ ns, ∀ b, Mine (P t) (V t) b → ¬ S b) : Tab B w' M k ns X P V := by
  obtain ⟨D, ⟨es, clock, hh, hr⟩, hd⟩ := h.map
  exact ⟨h.base, ⟨D, ⟨es, clock, (ho.block M (Array.getElem?_eq_some_iff.1 hh).1 hM).trans hh, hr⟩, hd⟩, fun t ht => ⟨(h.tx t ht).1, (h.tx t ht).2.only ho (hn t ht)⟩, h.apart⟩
theorem Tab.below (h : Tab B w M k ns X P V) (hb : Below w.heap.size w w') : Tab B w' M k ns X P V :=
  h.only (S := fun _ => False) (Only.of_below hb) (fun hf => hf) (fun _ _ _ _ hf => hf)
theorem Tab.look_yes (h : Tab B w M k ns X P V) {t : Int} (hw : (Lit.int .i64 t).wf = true) (ht : t ∈ ns) :
    (Instr.lookup 70 (.map (some M)) (.int .i64 t) true).run Tryd.prog w = .ok (.tuple #[.pointer (some ⟨P t, 0, none⟩), .bool true]) w := by
  obtain ⟨D, ho, hd⟩ := h.map
  obtain ⟨v, ps, hr, hv⟩ := ho.look_ok intK Tryd.underlying70 (zeroPtr w) (zd := .lit (.int .i64 (-1))) (zp := []) rfl (key_int hw)
  rw [((hd t hw).1 ht).1] at hr
  rw [((hd t hw).1 ht).2] at hv
  rw [hr, ptrE_inv hv]
theorem Tab.look_no (h : Tab B w M k ns X P V) {t : Int} (hw : (Lit.int .i64 t).wf = true) (ht : t ∉ ns) :
    (Instr.lookup 70 (.map (some M)) (.int .i64 t) true).run Tryd.prog w = .ok (.tuple #[.pointer none, .bool false]) w := by
  obtain ⟨D, ho, hd⟩ := h.map
  obtain ⟨v, ps, hr, hv⟩ := ho.look_ok intK Tryd.underlying70 (zeroPtr w) (zd := .lit (.int .i64 (-1))) (zp := []) rfl (key_int hw)
  rw [(hd t hw).2 ht] at hr
  rw [Maps.atKey_of_not_has ((hd t hw).2 ht)] at hv
  rw [hr, ptrE_nil hv]
theorem Tab.look (h : Tab B w M k ns X P V) {t : Int} (hw : (Lit.int .i64 t).wf = true) (ht : t ∈ ns) :
    (Instr.lookup 70 (.map (some M)) (.int .i64 t) false).run Tryd.prog w = .ok (.pointer (some ⟨P t, 0, none⟩)) w := by
  obtain ⟨D, ho, hd⟩ := h.map
  obtain ⟨v, ps, hr, hv⟩ := ho.lookup intK Tryd.underlying70 (zeroPtr w) (zd := .lit (.int .i64 (-1))) (zp := []) rfl (key_int hw)
  rw [((hd t hw).1 ht).2] at hv
  rw [hr, ptrE_inv hv]
/-- the map's block is none of a transaction's -/
theorem Tab.notM (h : Tab B w M k ns X P V) {t : Int} (ht : t ∈ ns) : ¬ Mine (P t) (V t) M := by
  obtain ⟨D, ⟨es, clock, hh, _⟩, _⟩ := h.map
  have hT := (h.tx t ht).2
  rintro (hc | hc)
  · have := hT.at_
    unfold At at this
    rw [← hc, hh] at this
    simp at this
  · rcases hT.row.2 with ⟨he, _⟩ | ⟨g, cap, cur, he, _, hg, _⟩
    · rw [he] at hc; simp [Value.ownBlock] at hc
    · rw [he] at hc
      simp only [Value.ownBlock, Option.some.injEq] at hc
      rw [hc, hh] at hg
      simp at hg
/-- transactions share no block -/
theorem Tab.notMine (h : Tab B w M k ns X P V) {t u : Int} (ht : t ∈ ns) (hu : u ∈ ns) (hne : t ≠ u) {b : Nat} (hb : Mine (P t) (V t) b) : ¬ Mine (P u) (V u) b := by
  have hT := (h.tx t ht).2
  have hU := (h.tx u hu).2
  have ha := h.apart t ht u hu hne
  rcases hb with rfl | hb
  · rintro (hc | hc)
    · exact ha.1 hc
    · exact row_not hU.row hT.at_ (by decide) hc
  · rintro (rfl | hc)
    · exact row_not hT.row hU.at_ (by decide) hb
    · exact ha.2 b hb hc
theorem Tab.mine_lt (h : Tab B w M k ns X P V) {t : Int} (ht : t ∈ ns) {b : Nat} (hb : Mine (P t) (V t) b) : b < w.heap.size := by
  rcases hb with rfl | hb
  · exact (h.tx t ht).2.at_.lt
  · exact (own_base (h.tx t ht).2.row hb).2
theorem Tab.mine_ge (h : Tab B w M k ns X P V) {t : Int} (ht : t ∈ ns) {b : Nat} (hb : Mine (P t) (V t) b) : B ≤ b := by
  rcases hb with rfl | hb
  · exact (h.tx t ht).1
  · exact (own_base (h.tx t ht).2.row hb).1
/-- behind take -/
theorem Tab.took (h : Tab B w M k ns X P V) {t : Int} (ht : t ∈ ns) (ho : Only (Mine (P t) (V t)) w w') {x : Tx} {V' : Value} (hx : Txm B w' (P t) x.n x.f x.l x.s V' x.o) (hl : Lies w (V t) V') :
    Tab B w' M k ns (fun u => if u = t then x else X u) P (fun u => if u = t then V' else V u) := by
  obtain ⟨D, ⟨es, clock, hh, hr⟩, hd⟩ := h.map
  refine ⟨h.base, ⟨D, ⟨es, clock, (ho.block M (Array.getElem?_eq_some_iff.1 hh).1 (h.notM ht)).trans hh, hr⟩, hd⟩, fun u hu => ?_, fun u hu r hr hne => ?_⟩
  · refine ⟨(h.tx u hu).1, ?_⟩
    by_cases he : u = t
    · subst he
      rw [if_pos rfl, if_pos rfl]
      exact hx
    · rw [if_neg he, if_neg he]
      exact (h.tx u hu).2.only ho (fun b hb => h.notMine hu ht he hb)
  · refine ⟨(h.apart u hu r hr hne).1, fun b hb => ?_⟩
    have hnew : ∀ (s : Int), s ∈ ns → s ≠ t → ∀ b, V'.ownBlock = some b → (V s).ownBlock ≠ some b := by
      intro s hs hst b hb hc
      rcases hl with hl | hl
      · rw [hl] at hb
        exact (h.apart t ht s hs (fun e => hst e.symm)).2 b hb hc
      · have h1 := hl b hb
        have h2 := h.mine_lt hs (.inr hc)
        omega
    by_cases hut : u = t
    · rw [if_pos hut] at hb
      rw [if_neg (fun hc => hne (hut.trans hc.symm))]
      exact hnew r hr (fun hc => hne (hut.trans hc.symm)) b hb
    · rw [if_neg hut] at hb
      by_cases hrt : r = t
      · rw [if_pos hrt]
        exact fun hc => hnew u hu hut b hc hb
      · rw [if_neg hrt]
        exact (h.apart u hu r hr hne).2 b hb
/-- a new one -/
theorem Tab.made (h : Tab B w M k ns X P V) {t : Int} (hw : (Lit.int .i64 t).wf = true) (ht : t ∉ ns) {N : Nat} (hN : B ≤ N) {x : Tx} {v : Value} (hx : Txm B w N x.n x.f x.l x.s v x.o)
    (hfar : ∀ u ∈ ns, ∀ b, Mine N v b → ¬ Mine (P u) (V u) b) (hMN : ¬ Mine N v M) (hk : k ≤ 65536) :
    ∃ w', (Instr.mapUpdate 70 (.map (some M)) (.int .i64 t) (.pointer (some ⟨N, 0, none⟩))).run Tryd.prog w = .ok () w' ∧
      Tab B w' M (k + 1) (ns ++ [t]) (fun u => if u = t then x else X u) (fun u => if u = t then N else P u) (fun u => if u = t then v else V u) ∧ w.grownBy w' (some M) := by
  obtain ⟨D, ho, hd⟩ := h.map
  obtain ⟨w', hr, ho', hg⟩ := ho.update intK Tryd.underlying70 (by unfold maxLen; omega) (key_int hw) (show ptrE (.pointer (some ⟨N, 0, none⟩)) = some (.lit (.int .i64 (N : Int)), []) from rfl)
  have hO : Only (fun b => b = M) w w' := (Only.refl _ w).grown hg (fun b _ hb => (Option.some.inj hb).symm)
  refine ⟨w', hr, ⟨h.base, ⟨_, ho', fun u hu => ⟨fun hm => ?_, fun hm => ?_⟩⟩, fun u hu => ?_, fun u hu r hr hne => ?_⟩, hg⟩
  · by_cases he : u = t
    · subst he
      rw [if_pos rfl]
      exact ⟨Maps.has_put_same ho.isMap (intK.key (key_int hw)) _, fun z => Maps.atKey_put_same ho.isMap (intK.key (key_int hw)) _ _⟩
    · rw [if_neg he]
      have hmn : u ∈ ns := by
        rcases List.mem_append.1 hm with hm | hm
        · exact hm
        · exact absurd (List.mem_singleton.1 hm) he
      have hkne : (Lit.int .i64 u) ≠ (.int .i64 t) := fun hc => he (by simpa using hc)
      exact ⟨(Maps.has_put_other hkne _).trans ((hd u hu).1 hmn).1, fun z => (Maps.atKey_put_other hkne _ _).trans (((hd u hu).1 hmn).2 z)⟩
  · rw [List.mem_append, not_or] at hm
    have he : u ≠ t := fun hc => hm.2 (by simp [hc])
    exact (Maps.has_put_other (fun hc => he (by simpa using hc)) _).trans ((hd u hu).2 hm.1)
  · by_cases he : u = t
    · rw [if_pos he, if_pos he, if_pos he]
      exact ⟨hN, hx.only hO (fun b hb hc => hMN (hc ▸ hb))⟩
    · rw [if_neg he, if_neg he, if_neg he]
      have hmn : u ∈ ns := by
        rcases List.mem_append.1 hu with hm | hm
        · exact hm
        · exact absurd (List.mem_singleton.1 hm) he
      exact ⟨(h.tx u hmn).1, (h.tx u hmn).2.only hO (fun b hb hc => h.notM hmn (hc ▸ hb))⟩
  · have hin : ∀ s : Int, s ∈ ns ++ [t] → s ≠ t → s ∈ ns := fun s hs he => (List.mem_append.1 hs).elim id (fun hm => absurd (List.mem_singleton.1 hm) he)
    by_cases hut : u = t
    · have hrt : r ≠ t := fun hc => hne (hut.trans hc.symm)
      rw [if_pos hut, if_pos hut, if_neg hrt, if_neg hrt]
      have hf := hfar r (hin r hr hrt)
      exact ⟨fun hc => hf N (.inl rfl) (.inl hc), fun b hb hc => hf b (.inr hb) (.inr hc)⟩
    · rw [if_neg hut, if_neg hut]
      by_cases hrt : r = t
      · rw [if_pos hrt, if_pos hrt]
        have hf := hfar u (hin u hu hut)
        exact ⟨fun hc => hf N (.inl rfl) (.inl hc.symm), fun b hb hc => hf b (.inr hc) (.inr hb)⟩
      · rw [if_neg hrt, if_neg hrt]
        exact h.apart u (hin u hu hut) r (hin r hr hrt) hne
theorem Tab.as (h : Tab B w M k ns X P V) {X' : Int → Tx} (hX : ∀ t ∈ ns, X' t = X t) : Tab B w M k ns X' P V :=
  ⟨h.base, h.map, fun t ht => by rw [hX t ht]; exact h.tx t ht, h.apart⟩
end
theorem Tab.start (w : World) {B : Nat} (hB : B ≤ w.heap.size) (X : Int → Tx) (P : Int → Nat) (V : Int → Value) : Tab B (w.alloc (.map #[] 0)) w.heap.size 0 [] X P V :=
  ⟨hB, ⟨.map [], World.ownsMap_made w _ _ _, fun _ _ => ⟨fun h => (List.not_mem_nil h).elim, fun _ => rfl⟩⟩, fun _ h => (List.not_mem_nil h).elim, fun _ h => (List.not_mem_nil h).elim⟩
end Go.Proofs.YtoemcdcabamgiaaDoor
