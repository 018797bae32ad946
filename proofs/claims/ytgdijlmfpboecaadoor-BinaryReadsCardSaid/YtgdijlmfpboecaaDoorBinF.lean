/- The walk of the reader's readBody. -/
import Derived.Test.YtgdijlmfpboecaaDoorBinE
import Derived.RegionTactic
import Derived.Deep.RegionLaw
import Derived.Deep.RegionHeld
import Derived.IntWalk
namespace Go.Proofs.YtgdijlmfpboecaaDoor.WPlain
end Go.Proofs.YtgdijlmfpboecaaDoor.WPlain
namespace Go.Proofs.YtgdijlmfpboecaaDoor.VPlain
end Go.Proofs.YtgdijlmfpboecaaDoor.VPlain
namespace Go.Proofs.YtgdijlmfpboecaaDoor
open Go.RowKit WPlain VPlain BPlain

/-- the cells that readBody's first region reads -/
def Rb (w : World) (g b o i : Nat) (bv : Value) (x : Nat) : Prop := w.cell? ⟨g, 0, none⟩ = some (.int .i64 (i : Int)) ∧ w.cell? ⟨g, 2, none⟩ = some bv ∧ w.cell? ⟨b, o + i, none⟩ = some (.int .u8 (x : Int))
theorem Rb.below {w w' : World} {g b o i : Nat} {bv : Value} {x : Nat} (h : Rb w g b o i bv x) (hb : Below w.heap.size w w') : Rb w' g b o i bv x :=
  ⟨(hb.cell (p := ⟨g, 0, none⟩) (cell_lt h.1)).trans h.1, (hb.cell (p := ⟨g, 2, none⟩) (cell_lt h.1)).trans h.2.1, (hb.cell (p := ⟨b, o + i, none⟩) (cell_lt h.2.2)).trans h.2.2⟩

set_option maxRecDepth 100000 in
set_option maxHeartbeats 1000000 in
theorem body_bad {B : Nat} {w : World} {g i : Nat} {v : Value} {a : Option Addr} {c : Nat} {L : List Nat} {h : List Ev} (r : Rdg B w g i v a c L h) (hi : i < L.length) (k : Nat) (hk : L[i] = k) (h10 : 10 ≤ k) :
    Calls Tryd.prog 18 #[.pointer (some ⟨g, 0, none⟩)] w fun e w' => e = .returned (.int .i64 2) ∧ Rdg B w' g i v a c L h ∧ Only (fun k => k = g ∨ v.ownBlock = some k) w w' := by
  obtain ⟨b, o, rfl, hbB, hc⟩ := r.bin.read (by omega)
  have hcell := hc i _ (bs_at hi)
  rw [hk] at hcell
  have HS : Hid (∀ w', Below w.heap.size w w' → Rb w' g b o i (.slice (some ⟨b, o, none⟩) L.length c) k) := fun w' hb =>
    Rb.below ⟨r.at_.cell (i := 0) rfl, r.at_.cell (i := 2) rfl, hcell⟩ hb
  have hi0 : (0 : Int) ≤ (i : Int) := by omega
  have hi1 : (i : Int) < (L.length : Int) := by omega
  have hib : (i : Int) ≤ 4611686018427387904 := by have := r.bin.small; omega
  have h255 : k < 256 := by rw [← hk]; exact r.bin.byte _ (List.getElem_mem hi)
  have hE := (At.new w #[.int .i64 (k : Int), .int .i64 0, .int .i64 0, .int .i64 0] 44).drew
  have hB1 : Below w.heap.size w (w.alloc (.cells #[.int .i64 (k : Int), .int .i64 0, .int .i64 0, .int .i64 0] 44)).drew := ((Below.refl w.heap.size w).alloc (Nat.le_refl _) _).drew
  have R1 := Lib.hid (r.call hB1)
  have HOB := Lib.hid (fun k hk => (own_base r.own (k := k) hk).2)
  have hq := r.base
  have hgl := r.at_.lt
  have hwr : IntKind.i64.wrap (k : Int) = (k : Int) := IntWalk.i64_in _ (by omega)
  clear hc hcell hk r
  go_enter Tryd.func18, Tryd.ntmps18
  go_wp2_with fail
  first
  | go_must (go_region_held (fun w' => w'.cell? ⟨g, 0, none⟩ = some (.int .i64 (i : Int)) ∧ w'.cell? ⟨g, 2, none⟩ = some (.slice (some ⟨b, o, none⟩) L.length c) ∧ w'.cell? ⟨b, o + i, none⟩ = some (.int .u8 (k : Int)))
      (first | exact HS.out _ (((below_dr _).alloc (Nat.le_refl _) _).setCell (Nat.le_refl _) _) | exact HS.out _ ((below_dr _).alloc (Nat.le_refl _) _) | exact HS.out _ (below_dr _)) (fail))
  | fail
  clear hwr HS
  generalize (w.alloc (.cells #[.int .i64 (k : Int), .int .i64 0, .int .i64 0, .int .i64 0] 44)).drew = w1 at *
  have hc0 := hE.cell (i := 0) (v := .int .i64 (k : Int)) rfl
  go_wp2
  go_ret
  exact ⟨rfl, R1.out, Only.of_below hB1⟩
set_option maxRecDepth 100000 in
set_option maxHeartbeats 1000000 in
theorem body_err {B : Nat} {w : World} {g i : Nat} {v : Value} {a : Option Addr} {c : Nat} {L : List Nat} {h : List Ev} (r : Rdg B w g i v a c L h) (hi : i < L.length) (k : Nat) (hk : L[i] = k) (h10 : k < 10) (ee : Ev) (j er : Nat) (hn : numsS L (i + 1) k h = (ee, j, er)) (her : er ≠ 0) :
    Calls Tryd.prog 18 #[.pointer (some ⟨g, 0, none⟩)] w fun e w' => e = .returned (.int .i64 er) ∧ Rdg B w' g j v a c L h ∧ Only (fun k => k = g ∨ v.ownBlock = some k) w w' := by
  obtain ⟨b, o, rfl, hbB, hc⟩ := r.bin.read (by omega)
  have hcell := hc i _ (bs_at hi)
  rw [hk] at hcell
  have HS : Hid (∀ w', Below w.heap.size w w' → Rb w' g b o i (.slice (some ⟨b, o, none⟩) L.length c) k) := fun w' hb =>
    Rb.below ⟨r.at_.cell (i := 0) rfl, r.at_.cell (i := 2) rfl, hcell⟩ hb
  have hi0 : (0 : Int) ≤ (i : Int) := by omega
  have hi1 : (i : Int) < (L.length : Int) := by omega
  have hib : (i : Int) ≤ 4611686018427387904 := by have := r.bin.small; omega
  have h255 : k < 256 := by rw [← hk]; exact r.bin.byte _ (List.getElem_mem hi)
  have hE := (At.new w #[.int .i64 (k : Int), .int .i64 0, .int .i64 0, .int .i64 0] 44).drew
  have hB1 : Below w.heap.size w (w.alloc (.cells #[.int .i64 (k : Int), .int .i64 0, .int .i64 0, .int .i64 0] 44)).drew := ((Below.refl w.heap.size w).alloc (Nat.le_refl _) _).drew
  have R1 := Lib.hid (r.call hB1)
  have HOB := Lib.hid (fun k hk => (own_base r.own (k := k) hk).2)
  have hq := r.base
  have hgl := r.at_.lt
  have hwr : IntKind.i64.wrap (k : Int) = (k : Int) := IntWalk.i64_in _ (by omega)
  clear hc hcell hk r
  go_enter Tryd.func18, Tryd.ntmps18
  go_wp2_with fail
  first
  | go_must (go_region_held (fun w' => w'.cell? ⟨g, 0, none⟩ = some (.int .i64 (i : Int)) ∧ w'.cell? ⟨g, 2, none⟩ = some (.slice (some ⟨b, o, none⟩) L.length c) ∧ w'.cell? ⟨b, o + i, none⟩ = some (.int .u8 (k : Int)))
      (first | exact HS.out _ (((below_dr _).alloc (Nat.le_refl _) _).setCell (Nat.le_refl _) _) | exact HS.out _ ((below_dr _).alloc (Nat.le_refl _) _) | exact HS.out _ (below_dr _)) (fail))
  | fail
  clear hwr HS
  generalize (w.alloc (.cells #[.int .i64 (k : Int), .int .i64 0, .int .i64 0, .int .i64 0] 44)).drew = w1 at *
  have hc0 := hE.cell (i := 0) (v := .int .i64 (k : Int)) rfl
  have hk10 : ¬ (10 ≤ k) := by omega
  have hg0 := R1.out.at_.cell (i := 0) (v := .int .i64 (i : Int)) rfl
  have hf0 := R1.out.at_.free 0
  have hHO : Only (· = g) w1 (w1.setCell ⟨g, 0, none⟩ (.int .i64 ((i : Int) + 1))) := (Only.refl (· = g) w1).setCell (p := ⟨g, 0, none⟩) (fun _ => rfl) _
  have hAt2 : At (w1.setCell ⟨g, 0, none⟩ (.int .i64 ((i : Int) + 1))) g (rdr (i + 1) v (.slice (some ⟨b, o, none⟩) L.length c)) 36 := R1.out.at_.set 0 _
  have R2 := Lib.hid (R1.out.one hHO hAt2 hi)
  have HE2 := Lib.hid (hE.other (a := ⟨g, 0, none⟩) (by simp; omega) (.int .i64 ((i : Int) + 1)))
  have HO2 : Hid (Only (fun k => k = g ∨ v.ownBlock = some k) w (w1.setCell ⟨g, 0, none⟩ (.int .i64 ((i : Int) + 1)))) := (Only.of_below hB1).trans hHO (fun _ _ hk => .inl hk)
  clear hE hAt2 hHO
  go_wp2_with fail
  generalize w1.setCell ⟨g, 0, none⟩ (.int .i64 ((i : Int) + 1)) = w2 at *
  clear hc0 hg0 hf0 R1
  have hN := nums_any R2.out w.heap.size k HE2.out hq (by omega) (fun b' hb' => Nat.ne_of_lt (HOB.out b' hb')) (by omega)
  rw [hn] at hN
  refine hN.mono ?_
  rintro e w3 ⟨rfl, r3, hw3, ho3⟩
  have R3 := Lib.hid r3
  have HO3 := Lib.hid (HO2.out.trans ho3 (fun j hj hh => .inl (by omega)))
  clear hN hn r3 ho3 R2 HE2 HO2
  have hne : ((er : Int) != 0) = true := by simp; omega
  go_wp2
  go_ret
  exact ⟨rfl, R3.out, HO3.out⟩
set_option maxRecDepth 100000 in
set_option maxHeartbeats 1000000 in
theorem body_ok {B : Nat} {w : World} {g i : Nat} {v : Value} {a : Option Addr} {c : Nat} {L : List Nat} {h : List Ev} (r : Rdg B w g i v a c L h) (hi : i < L.length) (hfew : h.length < 60) (k : Nat) (hk : L[i] = k) (h10 : k < 10) (ee : Ev) (j : Nat) (hn : numsS L (i + 1) k h = (ee, j, 0)) :
    Calls Tryd.prog 18 #[.pointer (some ⟨g, 0, none⟩)] w fun e w' => e = .returned (.int .i64 ((if j < L.length then 2 else 0 : Nat) : Int)) ∧ (∃ v', Rdg B w' g j v' a c L (h ++ [ee])) ∧ Only (fun k => k = g ∨ v.ownBlock = some k) w w' := by
  obtain ⟨j0, hj0, hy0, hy1', hy2'⟩ := info_parts info44
  obtain ⟨z, hz⟩ : ∃ z, (if j < L.length then 2 else 0 : Nat) = z := ⟨_, rfl⟩
  rw [hz]
  have HZ := Lib.hid hz
  clear hz
  obtain ⟨b, o, rfl, hbB, hc⟩ := r.bin.read (by omega)
  have hcell := hc i _ (bs_at hi)
  rw [hk] at hcell
  have HS : Hid (∀ w', Below w.heap.size w w' → Rb w' g b o i (.slice (some ⟨b, o, none⟩) L.length c) k) := fun w' hb =>
    Rb.below ⟨r.at_.cell (i := 0) rfl, r.at_.cell (i := 2) rfl, hcell⟩ hb
  have hi0 : (0 : Int) ≤ (i : Int) := by omega
  have hi1 : (i : Int) < (L.length : Int) := by omega
  have hib : (i : Int) ≤ 4611686018427387904 := by have := r.bin.small; omega
  have h255 : k < 256 := by rw [← hk]; exact r.bin.byte _ (List.getElem_mem hi)
  have hE := (At.new w #[.int .i64 (k : Int), .int .i64 0, .int .i64 0, .int .i64 0] 44).drew
  have hB1 : Below w.heap.size w (w.alloc (.cells #[.int .i64 (k : Int), .int .i64 0, .int .i64 0, .int .i64 0] 44)).drew := ((Below.refl w.heap.size w).alloc (Nat.le_refl _) _).drew
  have R1 := Lib.hid (r.call hB1)
  have HOB := Lib.hid (fun k hk => (own_base r.own (k := k) hk).2)
  have hq := r.base
  have hgl := r.at_.lt
  have hwr : IntKind.i64.wrap (k : Int) = (k : Int) := IntWalk.i64_in _ (by omega)
  clear hc hcell hk r
  go_enter Tryd.func18, Tryd.ntmps18
  go_wp2_with fail
  first
  | go_must (go_region_held (fun w' => w'.cell? ⟨g, 0, none⟩ = some (.int .i64 (i : Int)) ∧ w'.cell? ⟨g, 2, none⟩ = some (.slice (some ⟨b, o, none⟩) L.length c) ∧ w'.cell? ⟨b, o + i, none⟩ = some (.int .u8 (k : Int)))
      (first | exact HS.out _ (((below_dr _).alloc (Nat.le_refl _) _).setCell (Nat.le_refl _) _) | exact HS.out _ ((below_dr _).alloc (Nat.le_refl _) _) | exact HS.out _ (below_dr _)) (fail))
  | fail
  clear hwr HS
  generalize (w.alloc (.cells #[.int .i64 (k : Int), .int .i64 0, .int .i64 0, .int .i64 0] 44)).drew = w1 at *
  have hc0 := hE.cell (i := 0) (v := .int .i64 (k : Int)) rfl
  have hk10 : ¬ (10 ≤ k) := by omega
  have hg0 := R1.out.at_.cell (i := 0) (v := .int .i64 (i : Int)) rfl
  have hf0 := R1.out.at_.free 0
  have hHO : Only (· = g) w1 (w1.setCell ⟨g, 0, none⟩ (.int .i64 ((i : Int) + 1))) := (Only.refl (· = g) w1).setCell (p := ⟨g, 0, none⟩) (fun _ => rfl) _
  have hAt2 : At (w1.setCell ⟨g, 0, none⟩ (.int .i64 ((i : Int) + 1))) g (rdr (i + 1) v (.slice (some ⟨b, o, none⟩) L.length c)) 36 := R1.out.at_.set 0 _
  have R2 := Lib.hid (R1.out.one hHO hAt2 hi)
  have HE2 := Lib.hid (hE.other (a := ⟨g, 0, none⟩) (by simp; omega) (.int .i64 ((i : Int) + 1)))
  have HO2 : Hid (Only (fun k => k = g ∨ v.ownBlock = some k) w (w1.setCell ⟨g, 0, none⟩ (.int .i64 ((i : Int) + 1)))) := (Only.of_below hB1).trans hHO (fun _ _ hk => .inl hk)
  clear hE hAt2 hHO
  go_wp2_with fail
  generalize w1.setCell ⟨g, 0, none⟩ (.int .i64 ((i : Int) + 1)) = w2 at *
  clear hc0 hg0 hf0 R1
  have hN := nums_any R2.out w.heap.size k HE2.out hq (by omega) (fun b' hb' => Nat.ne_of_lt (HOB.out b' hb')) (by omega)
  rw [hn] at hN
  refine hN.mono ?_
  rintro e w3 ⟨rfl, r3, hw3, ho3⟩
  have R3 := Lib.hid r3
  have HO3 := Lib.hid (HO2.out.trans ho3 (fun j hj hh => .inl (by omega)))
  clear hN hn r3 ho3 R2 HE2 HO2
  have HE3 : Hid (At w3 w.heap.size (evArr ee) 44) := hw3 rfl
  clear hw3
  unfold evArr at HE3
  have hq0 := HE3.out.cell (i := 0) (v := .int .i64 ee.k) rfl
  have hq1 := HE3.out.cell (i := 1) (v := .int .i64 ee.t) rfl
  have hq2 := HE3.out.cell (i := 2) (v := .int .i64 ee.v) rfl
  have hq3 := HE3.out.cell (i := 3) (v := .int .i64 ee.x) rfl
  obtain ⟨sa, sc, rfl⟩ := row_slice R3.out.own
  have hg1 := R3.out.at_.cell (i := 1) (v := .slice sa h.length sc) rfl
  have hf1 := R3.out.at_.free 1
  have hgA := (R3.out.at_.alloc (.cells #[.int .i64 ee.k, .int .i64 ee.t, .int .i64 ee.v, .int .i64 ee.x] 44)).cell (i := 1) (v := .slice sa h.length sc) rfl
  have hbs : B ≤ w3.heap.size := R3.out.base
  have HOWN := Lib.hid R3.out.own
  go_wp2_with fail
  go_region_law (go_must (refine step_append_mine rfl _ _ 23 rfl B 44 j0 _ 4 32 Tryd.underlying23 hj0 hy0 hy1' hy2' rfl (by decide) _ _ _ rfl (HOWN.out.alloc _).drew ⟨w3.heap.size, 0, none⟩ 1 1 [.int .i64 ee.k, .int .i64 ee.t, .int .i64 ee.v, .int .i64 ee.x] rfl rfl (cells_of_at (At.new w3 #[.int .i64 ee.k, .int .i64 ee.t, .int .i64 ee.v, .int .i64 ee.x] _).drew) (four_one _ _ _ _) (by unfold maxLen; omega) (by omega) (by simp; omega) ?_; intro v4 w4 hx4 hg4; obtain ⟨va, vc, rfl⟩ := row_slice hx4; have hA4 := (R3.out.at_.alloc (.cells #[.int .i64 ee.k, .int .i64 ee.t, .int .i64 ee.v, .int .i64 ee.x] 44)).drew.grown hg4 (Ne.symm (row_not HOWN.out R3.out.at_ (by decide))); have hA4c := hA4.cell (i := 1) rfl; have hA4f := hA4.free 1))
  all_goals
    have hA5 : At (w4.setCell ⟨g, 1, none⟩ (.slice va (h.length + 1) vc)) g (rdr j (.slice va (h.length + 1) vc) (.slice (some ⟨b, o, none⟩) L.length c)) 36 := hA4.set 1 _
    have hx5 := ownsRow_setCell_other hx4 (a := ⟨g, 1, none⟩) (row_not hx4 hA4 (by decide)) (.slice va (h.length + 1) vc)
    have hB5 : Only (fun k => k = g ∨ (Value.slice sa h.length sc).ownBlock = some k) w3 (w4.setCell ⟨g, 1, none⟩ (.slice va (h.length + 1) vc)) :=
      (((((Only.refl _ w3).alloc (.cells #[.int .i64 ee.k, .int .i64 ee.t, .int .i64 ee.v, .int .i64 ee.x] 44)).drew).grown hg4 (fun k _ hk => .inr hk))).setCell (p := ⟨g, 1, none⟩) (fun _ => .inl rfl) _
    have hlow := hB5.below R3.out.base (fun k _ hk => hk.elim (fun hh => by rw [hh]; exact R3.out.low) (fun hh => (own_base R3.out.own hh).1))
    have hR5 : Rdg B (w4.setCell ⟨g, 1, none⟩ (.slice va (h.length + 1) vc)) g j (.slice va (h.length + 1) vc) (some ⟨b, o, none⟩) c L (h ++ [ee]) :=
      ⟨hA5, R3.out.bin.below hlow, R3.out.low, R3.out.kinds.low hlow R3.out.klow, R3.out.klow, Nat.le_trans R3.out.base hB5.size, by simpa [evsCells, evCells] using hx5, by simp; omega, R3.out.place⟩
    have R5 := Lib.hid hR5
    have HO5 := Lib.hid (HO3.out.trans hB5 (fun _ _ hk => hk))
    clear hA5 hx5 hB5 hlow hR5 hA4 hA4c hA4f hx4 hg4 HO3 HOWN hg1 hf1 hgA hq0 hq1 hq2 hq3 HE3 R3
    generalize w4.setCell ⟨g, 1, none⟩ (.slice va (h.length + 1) vc) = w5 at *
    go_wp2_with fail
    refine (end_any g j _ _ c L.length w5 R5.out.at_).mono ?_
    rintro e w6 ⟨rfl, m, rfl⟩
    rw [HZ.out]
    go_wp2
    go_ret
    exact ⟨rfl, ⟨_, R5.out.call (below_drewN (Below.refl _ _) m)⟩, HO5.out.drewN m⟩

theorem body_any {B : Nat} {w : World} {g i : Nat} {v : Value} {a : Option Addr} {c : Nat} {L : List Nat} {h : List Ev} (r : Rdg B w g i v a c L h) (hi : i < L.length) (hfew : h.length < 60) :
    Calls Tryd.prog 18 #[.pointer (some ⟨g, 0, none⟩)] w fun e w' => e = .returned (.int .i64 ((bodyS L i h).2.2 : Nat)) ∧ (∃ v', Rdg B w' g (bodyS L i h).2.1 v' a c L (bodyS L i h).1) ∧ Only (fun k => k = g ∨ v.ownBlock = some k) w w' := by
  have hg : L.getD i 0 = L[i] := by simp [hi]
  unfold bodyS
  rw [hg]
  obtain ⟨k, hk⟩ : ∃ k, L[i] = k := ⟨_, rfl⟩
  rw [hk]
  by_cases h10 : 10 ≤ k
  · rw [if_pos h10]
    exact (body_bad r hi k hk h10).mono fun _ _ ⟨x1, x2, x3⟩ => ⟨x1, ⟨v, x2⟩, x3⟩
  · rw [if_neg h10]
    obtain ⟨p, hp⟩ : ∃ p, numsS L (i + 1) k h = p := ⟨_, rfl⟩
    obtain ⟨ee, j, er⟩ := p
    rw [hp]
    dsimp only
    by_cases h0 : er = 0
    · subst h0
      rw [if_neg (fun hh => hh rfl)]
      exact body_ok r hi hfew k hk (by omega) ee j hp
    · rw [if_pos h0]
      exact (body_err r hi k hk (by omega) ee j er hp h0).mono fun _ _ ⟨x1, x2, x3⟩ => ⟨x1, ⟨v, x2⟩, x3⟩
end Go.Proofs.YtgdijlmfpboecaaDoor
