/- The walks of slices.Clone at events, of package prefix's gathered, and of Alike. -/
import Derived.Test.YtnggadcoepieaaaDoorPfxJ
import Derived.Test.YtnggadcoepieaaaDoorTxtI
import Derived.Test.YtnggadcoepieaaaDoorMg7
import Derived.Test.YtnggadcoepieaaaDoorMg11
namespace Go.Proofs.YtnggadcoepieaaaDoor.WPlain
end Go.Proofs.YtnggadcoepieaaaDoor.WPlain
namespace Go.Proofs.YtnggadcoepieaaaDoor.QPlain
end Go.Proofs.YtnggadcoepieaaaDoor.QPlain
namespace Go.Proofs.YtnggadcoepieaaaDoor.RPlain
end Go.Proofs.YtnggadcoepieaaaDoor.RPlain
namespace Go.Proofs.YtnggadcoepieaaaDoor
open Go.RowKit WPlain QPlain RPlain

set_option maxRecDepth 100000 in
theorem clone_more (v : Value) (h : List Ev) (w : World) (hv : Evs w v h) (hs : Src v) (hl : h.length ≤ 65536) :
    Calls Tryd.prog 18 #[v] w fun e w' => ∃ v', e = .returned v' ∧ w'.ownsRow w.heap.size 38 4 v' h.length (evsCells h) ∧ Below w.heap.size w w' := by
  rcases hs with rfl | ⟨ad, m, c, rfl⟩
  · have h0 : h = [] := List.length_eq_zero_iff.1 hv.length.symm
    subst h0
    have heq := fun (W : World) => Lib.run_eql_slice_nil (P := Tryd.prog) W 22 38 none 0 0 0 0 Tryd.underlying22
    clear hv
    go_enter Tryd.func18, Tryd.ntmps18
    go_wp2
    go_ret
    exact ⟨_, rfl, World.ownsRow_nil _ _ _ _, Below.refl _ _⟩
  · obtain rfl := hv.length
    have hrow := World.ownsRow_made (size := 4) (e := 38) (base := w.heap.size) w #[] 0 (Nat.le_refl _) (by unfold maxLen; omega) rfl
    have hb0 := (Below.refl w.heap.size w).alloc (Nat.le_refl _) (.cells #[] 38)
    have hv1 := hv.below hb0 (Nat.le_refl _)
    have heq := fun (W : World) => Lib.run_eql_slice_nil (P := Tryd.prog) W 22 38 (some ad) h.length c 0 0 Tryd.underlying22
    have HV := Lib.hid hv1
    clear hv hv1
    go_enter Tryd.func18, Tryd.ntmps18
    go_wp2_with (at_builtin; refine wpList_append_src rfl _ _ rfl w.heap.size _ _ _ rfl hrow _ h rfl HV.out (.inr ⟨_, _, _, rfl⟩) (by omega) (by simp) ?_)
    intro v1 w1 h1 hg1
    have hb1 := hb0.grown hg1 (by simp) (fun k hk => by simp [Value.ownBlock] at hk; omega)
    clear heq
    go_wp2
    go_ret
    exact ⟨_, rfl, by simpa using h1, hb1⟩
theorem evs_row {B g cap n : Nat} {w : World} {H : List Ev} (h : Row B g cap n w H) : Evs w (.slice (some ⟨g, 0, none⟩) n cap) H := by
  obtain ⟨hn, hr⟩ := h
  subst hn
  exact Evs.of_row hr
set_option maxRecDepth 100000 in
theorem stable_none (v : Value) (w : World) (hv : v = .slice none 0 0) :
    Calls Tryd.prog 29 #[v, ordV] w fun e w' => e = .returned (.tuple #[]) ∧ w' = w := by
  subst hv
  have hi : ∀ W, Calls Tryd.prog 47 #[.slice none 0 0, .int .i64 0, .int .i64 0, ordV] W fun e w' => e = .returned (.tuple #[]) ∧ w' = W := by
    intro W
    unfold ordV
    go_enter Tryd.func47, Tryd.ntmps47
    go_wp2
    refine wp_loop_rounds 1 ?_
    rw [rounds_succ]
    go_wp2
    go_end0
    exact ⟨rfl, rfl⟩
  have hs : ∀ W, Calls Tryd.prog 39 #[.slice none 0 0, .int .i64 0, ordV] W fun e w' => e = .returned (.tuple #[]) ∧ w' = W := by
    intro W
    unfold ordV at hi ⊢
    go_enter Tryd.func39, Tryd.ntmps39
    go_wp2
    refine wp_loop_rounds 1 ?_
    rw [rounds_succ]
    go_wp2_with fail
    refine (hi _).mono ?_
    rintro e w2 ⟨rfl, rfl⟩
    go_wp2
    refine wp_loop_rounds 1 ?_
    rw [rounds_succ]
    go_wp2
    go_end0
    exact ⟨rfl, rfl⟩
  clear hi
  unfold ordV at hs ⊢
  go_enter Tryd.func29, Tryd.ntmps29
  go_wp2_with fail
  refine (hs _).mono ?_
  rintro e w2 ⟨rfl, rfl⟩
  go_wp2
  go_end0
  exact ⟨rfl, rfl⟩
set_option maxRecDepth 100000 in
theorem gathered_any (v : Value) (h : List Ev) (w : World) (hv : Evs w v h) (hs : Src v) (hl : h.length ≤ 65536) :
    Calls Tryd.prog 22 #[v] w fun e w' => ∃ v' H, e = .returned v' ∧ Evs w' v' H ∧ Srt H ∧ Alk h H ∧ Below w.heap.size w w' := by
  have HCN := Lib.hid (clone_more v h w hv hs hl)
  have hw0 := hv.len
  obtain ⟨a0, c0, rfl⟩ := hw0
  clear hv hs
  go_enter Tryd.func22, Tryd.ntmps22
  go_wp2_with fail
  refine HCN.out.mono ?_
  rintro e w3 ⟨v3, rfl, hrow3, hb3⟩
  rcases hrow3.2 with ⟨hn, hh0⟩ | ⟨g, cap, cur, rfl, -, -, hcap, -, -, -⟩
  · have hs := stable_none v3 w3 hn
    have h0 : h = [] := List.length_eq_zero_iff.1 (by simpa using hh0)
    subst hn
    have HB := Lib.hid hb3
    unfold ordV at hs
    clear hrow3 hh0 hb3 HCN
    go_wp2_with fail
    refine hs.mono ?_
    rintro e w4 ⟨rfl, rfl⟩
    go_wp2
    go_ret
    exact ⟨_, [], rfl, Evs.nil _ _ _, srt_nil, by rw [h0]; exact Alk.refl _, HB.out⟩
  · have HS := Lib.hid (sortStable_any w.heap.size g cap h.length h w3 ⟨rfl, hrow3⟩ hl hb3.size)
    have HB := Lib.hid hb3
    unfold ordV at HS
    clear hrow3 hcap hb3 HCN
    go_wp2_with fail
    refine HS.out.mono ?_
    rintro e w4 ⟨rfl, hb4, H, h1, h2, hr4⟩
    have HB4 := Lib.hid (HB.out.trans hb4)
    have HE := Lib.hid (evs_row hr4)
    have H12 : Hid (Srt H ∧ Alk h H) := ⟨h1, h2⟩
    clear hb4 hr4 h1 h2 HS
    go_wp2
    go_ret
    exact ⟨_, H, rfl, HE.out, H12.out.1, H12.out.2, HB4.out⟩
theorem gath_alike {a b ga gb : List Ev} (h1 : Srt ga) (h2 : Alk a ga) (h3 : Srt gb) (h4 : Alk b gb) : decide (ga = gb) = alikeS a b := by
  rw [Bool.eq_iff_iff, alike_iff, decide_eq_true_eq]
  constructor
  · rintro rfl
    exact h2.trans h4.symm
  · intro h
    exact srt_uniq h1 h3 (h2.symm.trans (Alk.trans h h4))
set_option maxRecDepth 100000 in
theorem alike_any (v1 v2 : Value) (a b : List Ev) (w : World) (hv1 : Evs w v1 a) (hs1 : Src v1) (hl1 : a.length ≤ 65536) (hv2 : Evs w v2 b) (hs2 : Src v2) (hl2 : b.length ≤ 65536) :
    Calls Tryd.prog 10 #[v1, v2] w fun e w' => e = .returned (.bool (alikeS a b)) ∧ Below w.heap.size w w' := by
  have HG := Lib.hid (gathered_any v1 a w hv1 hs1 hl1)
  have HV2 := Lib.hid hv2
  have HS2 := Lib.hid hs2
  obtain ⟨a1, c1, rfl⟩ := hv1.len
  obtain ⟨a2, c2, rfl⟩ := hv2.len
  clear hv1 hs1 hv2 hs2
  go_enter Tryd.func10, Tryd.ntmps10
  go_wp2_with fail
  refine HG.out.mono ?_
  rintro e w2 ⟨v3, ga, rfl, he, h1, h2, hb2⟩
  have HE := Lib.hid he
  have H12 : Hid (Srt ga ∧ Alk a ga) := ⟨h1, h2⟩
  have HB2 := Lib.hid hb2
  obtain ⟨a3, c3, rfl⟩ := he.len
  have HG2 := Lib.hid (gathered_any _ b w2 (HV2.out.below hb2 (Nat.le_refl _)) HS2.out hl2)
  clear he h1 h2 hb2 HG
  go_wp2_with fail
  refine HG2.out.mono ?_
  rintro e w3 ⟨v4, gb, rfl, he4, h3, h4, hb3⟩
  have HB3 := Lib.hid (HB2.out.trans (hb3.mono HB2.out.size))
  obtain ⟨a4, c4, rfl⟩ := he4.len
  have hg := H12.out.2.len
  have hgb := h4.len
  have HQ := equal_any _ _ ga gb w3 (HE.out.below hb3 (Nat.le_refl _)) he4 (by omega) (by omega)
  rw [gath_alike H12.out.1 H12.out.2 h3 h4] at HQ
  have HQ2 := Lib.hid HQ
  clear HQ he4 h3 h4 hb3 HG2 hg hgb
  go_wp2_with fail
  refine HQ2.out.mono ?_
  rintro e w4 ⟨rfl, q, rfl⟩
  go_wp2
  go_ret
  exact ⟨rfl, below_drN HB3.out _⟩
end Go.Proofs.YtnggadcoepieaaaDoor
