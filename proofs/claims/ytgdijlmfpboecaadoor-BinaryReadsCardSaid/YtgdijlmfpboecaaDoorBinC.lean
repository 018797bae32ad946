/- The walks of slices.Clone at events, and of mayName. -/
import Derived.Test.YtgdijlmfpboecaaDoorBinB
import Derived.Test.YtgdijlmfpboecaaDoorKitD
import Derived.Test.YtgdijlmfpboecaaDoorTxtH
import Derived.Deep.RegionHeldLaw
import Derived.Deep.DrawnRows
import Derived.Deep.DeepMust
import Derived.WalkSpells
namespace Go.Proofs.YtgdijlmfpboecaaDoor.WPlain
end Go.Proofs.YtgdijlmfpboecaaDoor.WPlain
namespace Go.Proofs.YtgdijlmfpboecaaDoor.VPlain
end Go.Proofs.YtgdijlmfpboecaaDoor.VPlain
attribute [local go_sem ↓] Go.wp_at_zero Go.wp_at_succ
namespace Go.Proofs.YtgdijlmfpboecaaDoor
open Go.RowKit WPlain VPlain BPlain

theorem below_dr (w : World) : Below w.heap.size w w.drew := (Below.refl _ _).drew
theorem below_stp {wz w6 : World} (h : Below wz.drew.heap.size wz.drew w6) : Below wz.heap.size wz w6 := (below_dr wz).trans h
theorem own_mono {w : World} {B B' : Nat} {e : TypeId} {z : Nat} {v : Value} {n : Nat} {xs : List Value} (h : w.ownsRow B e z v n xs) (hB : B' ≤ B) : w.ownsRow B' e z v n xs := by
  refine ⟨h.1, ?_⟩
  rcases h.2 with h0 | ⟨g, cap, cur, rfl, hb, hg, hr⟩
  · exact .inl h0
  · exact .inr ⟨g, cap, cur, rfl, Nat.le_trans hB hb, hg, hr⟩

set_option maxRecDepth 100000 in
theorem clone_any (v : Value) (h : List Ev) (w : World) (hv : Evs w v h) (hs : Src v) (hl : h.length ≤ 60) :
    Calls Tryd.prog 36 #[v] w fun e w' => ∃ v', e = .returned v' ∧ w'.ownsRow w.heap.size 44 4 v' h.length (evsCells h) ∧ Below w.heap.size w w' := by
  rcases hs with rfl | ⟨ad, m, c, rfl⟩
  · have h0 : h = [] := List.length_eq_zero_iff.1 hv.length.symm
    subst h0
    have heq := fun (W : World) => Lib.run_eql_slice_nil (P := Tryd.prog) W 23 44 none 0 0 0 0 Tryd.underlying23
    clear hv
    go_enter Tryd.func36, Tryd.ntmps36
    go_wp2
    go_ret
    exact ⟨_, rfl, World.ownsRow_nil _ _ _ _, Below.refl _ _⟩
  · obtain rfl := hv.length
    have hrow := World.ownsRow_made (size := 4) (e := 44) (base := w.heap.size) w #[] 0 (Nat.le_refl _) (by unfold maxLen; omega) rfl
    have hb0 := (Below.refl w.heap.size w).alloc (Nat.le_refl _) (.cells #[] 44)
    have hv1 := hv.below hb0 (Nat.le_refl _)
    have heq := fun (W : World) => Lib.run_eql_slice_nil (P := Tryd.prog) W 23 44 (some ad) h.length c 0 0 Tryd.underlying23
    have HV := Lib.hid hv1
    clear hv hv1
    go_enter Tryd.func36, Tryd.ntmps36
    go_wp2_with (at_builtin; refine wpList_append_src rfl _ _ rfl w.heap.size _ _ _ rfl hrow _ h rfl HV.out (.inr ⟨_, _, _, rfl⟩) (by omega) (by simp) ?_)
    intro v1 w1 h1 hg1
    have hb1 := hb0.grown hg1 (by simp) (fun k hk => by simp [Value.ownBlock] at hk; omega)
    clear heq
    go_wp2
    go_ret
    exact ⟨_, rfl, by simpa using h1, hb1⟩

/-- the event's cells and the reader's events, to be read all through mayName's region -/
def May (w : World) (g q : Nat) (ev : Value) (n : Nat) : Prop := w.cell? ⟨g, 1, none⟩ = some ev ∧ w.cell? ⟨q, 0, none⟩ = some (.int .i64 0) ∧ w.cell? ⟨q, 1, none⟩ = some (.int .i64 (n : Int)) ∧ w.cell? ⟨q, 2, none⟩ = some (.int .i64 0) ∧ w.cell? ⟨q, 3, none⟩ = some (.int .i64 0)
theorem May.below {w w' : World} {g q : Nat} {ev : Value} {n : Nat} (h : May w g q ev n) (hb : Below w.heap.size w w') : May w' g q ev n :=
  ⟨(hb.cell (p := ⟨g, 1, none⟩) (cell_lt h.1)).trans h.1, (hb.cell (p := ⟨q, 0, none⟩) (cell_lt h.2.1)).trans h.2.1,
   (hb.cell (p := ⟨q, 1, none⟩) (cell_lt h.2.1)).trans h.2.2.1, (hb.cell (p := ⟨q, 2, none⟩) (cell_lt h.2.1)).trans h.2.2.2.1, (hb.cell (p := ⟨q, 3, none⟩) (cell_lt h.2.1)).trans h.2.2.2.2⟩
theorem cells_of_at {w : World} {b : Nat} {cs : Array Value} {t : TypeId} (h : At w b cs t) : ∀ j u, cs.toList[j]? = some u → w.cell? ((⟨b, 0, none⟩ : Addr).add j) = some u := by
  intro j u hu
  rw [addr_add, Nat.zero_add]
  exact h.cell (by simpa using hu)
theorem four_one (a b c d : Int) : ∀ u ∈ [Value.int .i64 a, .int .i64 b, .int .i64 c, .int .i64 d], u.oneCell' = true := by
  intro u hu; simp at hu; rcases hu with rfl | rfl | rfl | rfl <;> rfl

set_option maxRecDepth 100000 in
set_option maxHeartbeats 1000000 in
theorem mayName_any (g i : Nat) (v b : Value) (t : TypeId) (h : List Ev) (n : Nat) (w : World) (hA : At w g (rdr i v b) t) (hK : HasK w) (hv : Evs w v h) (hs : Src v) (hl : h.length ≤ 60) :
    Calls Tryd.prog 34 #[.pointer (some ⟨g, 0, none⟩), .int .i64 n] w fun e w' => e = .returned (.bool (right (h ++ [⟨0, n, 0, 0⟩]))) ∧ Below w.heap.size w w' := by
  obtain ⟨j0, hj0, hy0, hy1', hy2'⟩ := info_parts info44
  have hA1 := hA.alloc (.cells #[.int .i64 0, .int .i64 (n : Int), .int .i64 0, .int .i64 0] 44)
  have hE := At.new w #[.int .i64 0, .int .i64 (n : Int), .int .i64 0, .int .i64 0] 44
  have hb0 := (Below.refl w.heap.size w).alloc (Nat.le_refl _) (.cells #[.int .i64 0, .int .i64 (n : Int), .int .i64 0, .int .i64 0] 44)
  have HM : Hid (May (w.alloc (.cells #[.int .i64 0, .int .i64 (n : Int), .int .i64 0, .int .i64 0] 44)) g w.heap.size v n) := ⟨hA1.cell (i := 1) rfl, hE.cell (i := 0) rfl, hE.cell (i := 1) rfl, hE.cell (i := 2) rfl, hE.cell (i := 3) rfl⟩
  have HK : Hid (HasK (w.alloc (.cells #[.int .i64 0, .int .i64 (n : Int), .int .i64 0, .int .i64 0] 44))) := hK.later hb0 (Nat.le_refl _)
  have HV : Hid (Evs (w.alloc (.cells #[.int .i64 0, .int .i64 (n : Int), .int .i64 0, .int .i64 0] 44)) v h) := hv.below hb0 (Nat.le_refl _)
  have hq : w.heap.size + 1 ≤ (w.alloc (.cells #[.int .i64 0, .int .i64 (n : Int), .int .i64 0, .int .i64 0] 44)).heap.size := by simp
  clear hA hA1 hE hv hK
  obtain ⟨r, hr⟩ : ∃ r, right (h ++ [⟨0, n, 0, 0⟩]) = r := ⟨_, rfl⟩
  rw [hr]
  have HR := Lib.hid hr
  clear hr
  go_enter Tryd.func34, Tryd.ntmps34
  go_wp2_with fail
  generalize w.alloc (.cells #[.int .i64 0, .int .i64 (n : Int), .int .i64 0, .int .i64 0] 44) = w1 at *
  have HMB : Hid (∀ w', Below w1.heap.size w1 w' → May w' g w.heap.size v n) := fun w' hb => HM.out.below hb
  have HKB : Hid (∀ w', Below w1.heap.size w1 w' → HasK w') := fun w' hb => HK.out.later hb (Nat.le_refl _)
  have HVB : Hid (∀ w', Below w1.heap.size w1 w' → Evs w' v h) := fun w' hb => HV.out.below hb (Nat.le_refl _)
  clear HM HK HV
  first
  | go_must (go_region_held_law (fun w' => w'.cell? ⟨g, 1, none⟩ = some v ∧ w'.cell? ⟨w.heap.size, 0, none⟩ = some (.int .i64 0) ∧ w'.cell? ⟨w.heap.size, 1, none⟩ = some (.int .i64 (n : Int)) ∧ w'.cell? ⟨w.heap.size, 2, none⟩ = some (.int .i64 0) ∧ w'.cell? ⟨w.heap.size, 3, none⟩ = some (.int .i64 0))
      (first | exact HMB.out _ hb9 | exact HMB.out _ hb4 | exact HMB.out _ (hb3.alloc hb3.size _) | exact HMB.out _ hb3 | exact HMB.out _ ((below_dr _).alloc (Nat.le_refl _) _) | exact HMB.out _ (below_dr _))
      (first
        | (go_at_call 36; refine (clone_any v h _ (by first | exact HVB.out _ ((below_dr _).alloc (Nat.le_refl _) _) | exact HVB.out _ (below_dr _)) hs hl).mono ?_; rintro e w2 ⟨v2, rfl, hown, hbc⟩; have hb3 : Below w1.heap.size w1 w2 := (by first | exact ((below_dr w1).alloc (Nat.le_refl _) _).trans (hbc.mono (by simp)) | exact below_stp hbc); have hown2 := own_mono (B' := w1.heap.size) hown (by simp))
        | (refine step_append_mine rfl _ _ 23 rfl w1.heap.size 44 j0 _ 4 32 Tryd.underlying23 hj0 hy0 hy1' hy2' rfl (by decide) _ _ _ rfl (by first | exact hown2.alloc _ | exact hown2) _ 1 1 [.int .i64 0, .int .i64 (n : Int), .int .i64 0, .int .i64 0] rfl rfl (by first | exact cells_of_at (At.new _ #[.int .i64 0, .int .i64 (n : Int), .int .i64 0, .int .i64 0] _) | exact cells_of_at ((At.new w1.drew #[.int .i64 0, .int .i64 (n : Int), .int .i64 0, .int .i64 0] _).below hbc (by simp))) (four_one _ _ _ _) (by unfold maxLen; omega) (by omega) (by have := hb3.size; simp; omega) ?_; intro v3 w3 hx3 hg3; have hb9 : Below w1.heap.size w1 w3 := (by first | exact (hb3.alloc hb3.size _).grown hg3 (by have := hb3.size; simp; omega) (fun k hk => own_turned hown2 hb3.size hk) | exact hb3.grown hg3 hb3.size (fun k hk => own_turned hown2 hb3.size hk)))
        | (go_at_call 35; refine (right_any _ (h ++ [⟨0, n, 0, 0⟩]) _ (HKB.out _ hb9) (Evs.of_row (B := w1.heap.size) (e := 44) (by simpa [evsCells, evCells] using hx3)) (by simp; omega)).mono ?_; rintro e w4 ⟨rfl, hb10⟩; rw [HR.out]; have hb4 : Below w1.heap.size w1 w4 := hb9.trans (hb10.mono hb9.size))))
  | fail
  all_goals
    go_wp2
    go_ret
    exact ⟨rfl, hb0.trans (hb4.mono (by omega))⟩

end Go.Proofs.YtgdijlmfpboecaaDoor
