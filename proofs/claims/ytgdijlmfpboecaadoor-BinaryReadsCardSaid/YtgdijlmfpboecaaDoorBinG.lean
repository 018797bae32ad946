/- The walk of the reader's readEvent. -/
import Derived.Test.YtgdijlmfpboecaaDoorBinF
namespace Go.Proofs.YtgdijlmfpboecaaDoor.WPlain
end Go.Proofs.YtgdijlmfpboecaaDoor.WPlain
namespace Go.Proofs.YtgdijlmfpboecaaDoor.VPlain
end Go.Proofs.YtgdijlmfpboecaaDoor.VPlain
namespace Go.Proofs.YtgdijlmfpboecaaDoor
open Go.RowKit WPlain VPlain BPlain

theorem rnumber_any {B : Nat} {w : World} {g i : Nat} {v : Value} {a : Option Addr} {c : Nat} {L : List Nat} {h : List Ev} (r : Rdg B w g i v a c L h) :
    Calls Tryd.prog 16 #[.pointer (some ⟨g, 0, none⟩)] w fun e w' =>
      e = .returned (.tuple #[.int .u64 ((numS L i).1 : Nat), .int .i64 ((numS L i).2.2 : Nat)]) ∧ Rdg B w' g (numS L i).2.1 v a c L h ∧ Only (· = g) w w' :=
  (number_any g i v B a c L w r.at_ r.bin r.place).mono fun _ _ ⟨h1, h2, h3⟩ => ⟨h1, r.one h3 h2 (numS_le r.place).2, h3⟩
theorem Rdg.lowB {B : Nat} {w w' : World} {g i : Nat} {v : Value} {a : Option Addr} {c : Nat} {L : List Nat} {h : List Ev} (r : Rdg B w g i v a c L h) (ho : Only (· = g) w w') : Below B w w' :=
  ho.below r.base (fun _ _ hk => by rw [hk]; exact r.low)

set_option maxRecDepth 100000 in
theorem event_err {B : Nat} {w : World} {g i : Nat} {v : Value} {a : Option Addr} {c : Nat} {L : List Nat} {h : List Ev} (r : Rdg B w g i v a c L h) (n i1 er : Nat) (hn : numS L i = (n, i1, er)) (her : er ≠ 0) :
    Calls Tryd.prog 12 #[.pointer (some ⟨g, 0, none⟩)] w fun e w' => e = .returned (.int .i64 er) ∧ Rdg B w' g i1 v a c L h ∧ Below B w w' := by
  have hN := rnumber_any r
  rw [hn] at hN
  have HN := Lib.hid hN
  have R := Lib.hid r
  have hc0 := r.at_.cell (i := 0) (v := .int .i64 (i : Int)) rfl
  have hne : ((er : Int) != 0) = true := by simp; omega
  clear hN hn r
  go_enter Tryd.func12, Tryd.ntmps12
  go_wp2_with fail
  refine HN.out.mono ?_
  rintro e w1 ⟨rfl, r1, ho1⟩
  go_wp2
  go_ret
  exact ⟨rfl, r1, R.out.lowB ho1⟩
set_option maxRecDepth 100000 in
theorem event_over {B : Nat} {w : World} {g i : Nat} {v : Value} {a : Option Addr} {c : Nat} {L : List Nat} {h : List Ev} (r : Rdg B w g i v a c L h) (n i1 : Nat) (hn : numS L i = (n, i1, 0)) (hov : L.length - i1 < n) :
    Calls Tryd.prog 12 #[.pointer (some ⟨g, 0, none⟩)] w fun e w' => e = .returned (.int .i64 4) ∧ Rdg B w' g L.length v a c L h ∧ Below B w w' := by
  have hN := rnumber_any r
  have hle := numS_le r.place
  rw [hn] at hN hle
  dsimp only at hle
  have HN := Lib.hid hN
  have R := Lib.hid r
  have hc0 := r.at_.cell (i := 0) (v := .int .i64 (i : Int)) rfl
  have hfit := r.bin.fit
  have hcap := r.bin.cap
  have hd : decide ((L.length : Int) - (i1 : Int) < (n : Int)) = true := decide_eq_true (by omega)
  have hw1 : IntKind.i64.wrap ((L.length : Int) - (i1 : Int)) = (L.length : Int) - (i1 : Int) := IntWalk.i64_in _ (by omega)
  have hw2 : IntKind.u64.wrap ((L.length : Int) - (i1 : Int)) = (L.length : Int) - (i1 : Int) := by simp [IntKind.wrap, IntKind.bits, IntKind.signed]; omega
  clear hN hn r
  go_enter Tryd.func12, Tryd.ntmps12
  go_wp2_with fail
  refine HN.out.mono ?_
  rintro e w1 ⟨rfl, r1, ho1⟩
  have R1 := Lib.hid r1
  have HO1 := Lib.hid ho1
  have hg0 := r1.at_.cell (i := 0) (v := .int .i64 (i1 : Int)) rfl
  have hg2 := r1.at_.cell (i := 2) (v := .slice a L.length c) rfl
  clear r1 ho1 hc0
  go_wp2_with fail
  go_quiet (fail)
  go_wp2_with fail
  obtain ⟨w2, hw2'⟩ : ∃ w2, w1.drewN nq = w2 := ⟨_, rfl⟩
  have R2 : Hid (Rdg B w2 g i1 v a c L h) := by rw [← hw2']; exact R1.out.call (below_drewN (Below.refl _ _) _)
  have HO2 : Hid (Only (· = g) w w2) := by rw [← hw2']; exact HO1.out.drewN _
  rw [hw2']
  clear hw2' R1 HO1 hd hw1 hw2 hg0 hg2
  have hg2 := R2.out.at_.cell (i := 2) (v := .slice a L.length c) rfl
  first
  | go_must (go_region_held (fun w' => w'.cell? ⟨g, 2, none⟩ = some (.slice a L.length c)) (first | exact hg2 | exact hg3)
      (first | (go_at_call 17; refine (rfault_any (R2.out.call (below_dr _)) L.length 4 (Nat.le_refl _)).mono ?_; rintro e w3 ⟨rfl, r3, ho3⟩; have hg3 := r3.at_.cell (i := 2) (v := .slice a L.length c) rfl)))
  | fail
  go_wp2
  go_ret
  exact ⟨rfl, r3, R.out.lowB (HO2.out.drew.trans ho3 (fun _ _ hk => hk))⟩
set_option maxRecDepth 100000 in
theorem event_none {B : Nat} {w : World} {g i : Nat} {v : Value} {a : Option Addr} {c : Nat} {L : List Nat} {h : List Ev} (r : Rdg B w g i v a c L h) (i1 : Nat) (hn : numS L i = (0, i1, 0)) :
    Calls Tryd.prog 12 #[.pointer (some ⟨g, 0, none⟩)] w fun e w' => e = .returned (.int .i64 2) ∧ Rdg B w' g i v a c L h ∧ Below B w w' := by
  have hN := rnumber_any r
  have hle := numS_le r.place
  rw [hn] at hN hle
  dsimp only at hle
  have HN := Lib.hid hN
  have R := Lib.hid r
  have hc0 := r.at_.cell (i := 0) (v := .int .i64 (i : Int)) rfl
  have hfit := r.bin.fit
  have hcap := r.bin.cap
  have hd : decide ((L.length : Int) - (i1 : Int) < 0) = false := decide_eq_false (by omega)
  have hw1 : IntKind.i64.wrap ((L.length : Int) - (i1 : Int)) = (L.length : Int) - (i1 : Int) := IntWalk.i64_in _ (by omega)
  have hw2 : IntKind.u64.wrap ((L.length : Int) - (i1 : Int)) = (L.length : Int) - (i1 : Int) := by simp [IntKind.wrap, IntKind.bits, IntKind.signed]; omega
  clear hN hn r
  go_enter Tryd.func12, Tryd.ntmps12
  go_wp2_with fail
  refine HN.out.mono ?_
  rintro e w1 ⟨rfl, r1, ho1⟩
  have R1 := Lib.hid r1
  have HO1 := Lib.hid ho1
  have hg0 := r1.at_.cell (i := 0) (v := .int .i64 (i1 : Int)) rfl
  have hg2 := r1.at_.cell (i := 2) (v := .slice a L.length c) rfl
  clear r1 ho1 hc0
  go_wp2_with fail
  go_quiet (fail)
  go_wp2_with fail
  obtain ⟨w2, hw2'⟩ : ∃ w2, w1.drewN nq = w2 := ⟨_, rfl⟩
  have R2 : Hid (Rdg B w2 g i1 v a c L h) := by rw [← hw2']; exact R1.out.call (below_drewN (Below.refl _ _) _)
  have HO2 : Hid (Only (· = g) w w2) := by rw [← hw2']; exact HO1.out.drewN _
  rw [hw2']
  clear hw2' R1 HO1 hd hw1 hw2 hg0 hg2
  refine (rfault_any R2.out i 2 R.out.place).mono ?_
  rintro e w3 ⟨rfl, r3, ho3⟩
  go_wp2
  go_ret
  exact ⟨rfl, r3, R.out.lowB (HO2.out.trans ho3 (fun _ _ hk => hk))⟩
/-- the cells that readEvent's last region reads -/
def Re (w : World) (g i : Nat) (v b : Value) : Prop := w.cell? ⟨g, 0, none⟩ = some (.int .i64 (i : Int)) ∧ w.cell? ⟨g, 1, none⟩ = some v ∧ w.cell? ⟨g, 2, none⟩ = some b
theorem Re.below {w w' : World} {g i : Nat} {v b : Value} (h : Re w g i v b) (hb : Below w.heap.size w w') : Re w' g i v b :=
  ⟨(hb.cell (p := ⟨g, 0, none⟩) (cell_lt h.1)).trans h.1, (hb.cell (p := ⟨g, 1, none⟩) (cell_lt h.1)).trans h.2.1, (hb.cell (p := ⟨g, 2, none⟩) (cell_lt h.1)).trans h.2.2⟩
set_option maxRecDepth 100000 in
set_option maxHeartbeats 1000000 in
theorem event_body {B : Nat} {w : World} {g i : Nat} {v : Value} {a : Option Addr} {c : Nat} {L : List Nat} {h : List Ev} (r : Rdg B w g i v a c L h) (hfew : h.length < 60) (n i1 : Nat) (hn : numS L i = (n, i1, 0)) (hov : n ≤ L.length - i1) (hn0 : n ≠ 0) :
    Calls Tryd.prog 12 #[.pointer (some ⟨g, 0, none⟩)] w fun e w' => e = .returned (.int .i64 ((bodyS (L.take (i1 + n)) i1 h).2.2 : Nat)) ∧ (∃ v', Rdg B w' g (bodyS (L.take (i1 + n)) i1 h).2.1 v' a c L (bodyS (L.take (i1 + n)) i1 h).1) ∧ Below B w w' := by
  have hN := rnumber_any r
  have hle := numS_le r.place
  rw [hn] at hN hle
  dsimp only at hle
  have HN := Lib.hid hN
  obtain ⟨sa, sc, rfl⟩ := row_slice r.own
  have R := Lib.hid r
  have hc0 := r.at_.cell (i := 0) (v := .int .i64 (i : Int)) rfl
  have hfit := r.bin.fit
  have hcap := r.bin.cap
  have hd : decide ((L.length : Int) - (i1 : Int) < (n : Int)) = false := decide_eq_false (by omega)
  have hd0 : ((n : Int) == 0) = false := by simp; omega
  have htl : (L.take (i1 + n)).length = i1 + n := by rw [List.length_take]; omega
  have hj := bodyS_le (L := L.take (i1 + n)) (i := i1) h (by rw [htl]; omega)
  rw [htl] at hj
  have hB := fun (w' : World) (q : Nat) (r' : Rdg B w' q i1 (.slice sa h.length sc) a c (L.take (i1 + n)) h) => body_any r' (by rw [htl]; omega) hfew
  have hbin := fun (w' : World) (hb : Bin B w' a c L) => hb.cut (i1 + n)
  obtain ⟨z, hz⟩ : ∃ z, bodyS (L.take (i1 + n)) i1 h = z := ⟨_, rfl⟩
  obtain ⟨H', j, er⟩ := z
  rw [hz] at hB hj
  rw [hz]
  dsimp only at hB hj ⊢
  have HB := Lib.hid hB
  have HBIN := Lib.hid hbin
  have HTL := Lib.hid htl
  have hw1 : IntKind.i64.wrap ((L.length : Int) - (i1 : Int)) = (L.length : Int) - (i1 : Int) := IntWalk.i64_in _ (by omega)
  have hw2 : IntKind.u64.wrap ((L.length : Int) - (i1 : Int)) = (L.length : Int) - (i1 : Int) := by simp [IntKind.wrap, IntKind.bits, IntKind.signed]; omega
  have hw3 : Hid (IntKind.i64.wrap (n : Int) = (n : Int)) := IntWalk.i64_in _ (by omega)
  have hw4 : Hid (IntKind.i64.wrap ((i1 : Int) + (n : Int)) = (i1 : Int) + (n : Int)) := IntWalk.i64_in _ (by omega)
  have hw5 : Hid (((i1 : Int) + (n : Int)).toNat = i1 + n) := by unfold Hid; omega
  have hs0 : (0 : Int) ≤ (i1 : Int) + (n : Int) := by omega
  have hs1 : (i1 : Int) + (n : Int) ≤ (c : Int) := by omega
  clear hN hn r hB hbin hz htl
  go_enter Tryd.func12, Tryd.ntmps12
  go_wp2_with fail
  refine HN.out.mono ?_
  rintro e w1 ⟨rfl, r1, ho1⟩
  have R1 := Lib.hid r1
  have HO1 := Lib.hid ho1
  have hg0 := r1.at_.cell (i := 0) (v := .int .i64 (i1 : Int)) rfl
  have hg2 := r1.at_.cell (i := 2) (v := .slice a L.length c) rfl
  clear r1 ho1 hc0
  go_wp2_with fail
  go_quiet (fail)
  go_wp2_with fail
  obtain ⟨w2, hw2'⟩ : ∃ w2, w1.drewN nq = w2 := ⟨_, rfl⟩
  have R2 : Hid (Rdg B w2 g i1 (.slice sa h.length sc) a c L h) := by rw [← hw2']; exact R1.out.call (below_drewN (Below.refl _ _) _)
  have HO2 : Hid (Only (· = g) w w2) := by rw [← hw2']; exact HO1.out.drewN _
  rw [hw2']
  clear hw2' R1 HO1 hd hw1 hw2 hg0 hg2
  have HRe : Hid (∀ w', Below w2.heap.size w2 w' → Re w' g i1 (.slice sa h.length sc) (.slice a L.length c)) := fun w' hb =>
    Re.below ⟨R2.out.at_.cell (i := 0) rfl, R2.out.at_.cell (i := 1) rfl, R2.out.at_.cell (i := 2) rfl⟩ hb
  have hB3 : Below w2.heap.size w2 (w2.alloc (.cells #[.int .i64 (i1 : Int), .slice sa h.length sc, .slice a (i1 + n) c] 36)).drew := ((Below.refl w2.heap.size w2).alloc (Nat.le_refl _) _).drew
  have hA3 : At (w2.alloc (.cells #[.int .i64 (i1 : Int), .slice sa h.length sc, .slice a (i1 + n) c] 36)).drew w2.heap.size (rdr i1 (.slice sa h.length sc) (.slice a (L.take (i1 + n)).length c)) 36 := by
    rw [HTL.out]; exact (At.new w2 #[.int .i64 (i1 : Int), .slice sa h.length sc, .slice a (i1 + n) c] 36).drew
  have hR3 := R2.out.call hB3
  have hR4 : Rdg B (w2.alloc (.cells #[.int .i64 (i1 : Int), .slice sa h.length sc, .slice a (i1 + n) c] 36)).drew w2.heap.size i1 (.slice sa h.length sc) a c (L.take (i1 + n)) h :=
    ⟨hA3, HBIN.out _ hR3.bin, R2.out.base, hR3.kinds, hR3.klow, hR3.base, hR3.own, hR3.few, by rw [HTL.out]; omega⟩
  have HO3 := Lib.hid (HO2.out.call hB3)
  have hgq := R2.out.at_.lt
  have R3 := Lib.hid hR3
  have R4 := Lib.hid hR4
  have e3 := hw3.out
  have e4 := hw4.out
  have e5 := hw5.out
  clear hB3 hA3 hR3 hR4 hw3 hw4 hw5 R2 HO2
  first
  | go_must (go_region_held (fun w' => w'.cell? ⟨g, 0, none⟩ = some (.int .i64 (i1 : Int)) ∧ w'.cell? ⟨g, 1, none⟩ = some (.slice sa h.length sc) ∧ w'.cell? ⟨g, 2, none⟩ = some (.slice a L.length c))
      (first | exact HRe.out _ (((below_dr _).alloc (Nat.le_refl _) _).setCell (Nat.le_refl _) _) | exact HRe.out _ ((((below_dr _).alloc (Nat.le_refl _) _).setCell (Nat.le_refl _) _).setCell (Nat.le_refl _) _) | exact HRe.out _ (((((below_dr _).alloc (Nat.le_refl _) _).setCell (Nat.le_refl _) _).setCell (Nat.le_refl _) _).setCell (Nat.le_refl _) _) | exact HRe.out _ ((below_dr _).alloc (Nat.le_refl _) _) | exact HRe.out _ (below_dr _)) (fail))
  | fail
  clear e3 e4 e5 HRe hs0 hs1
  generalize (w2.alloc (.cells #[.int .i64 (i1 : Int), .slice sa h.length sc, .slice a (i1 + n) c] 36)).drew = w3 at *
  go_wp2_with fail
  refine (HB.out _ _ R4.out).mono ?_
  rintro e w4 ⟨rfl, ⟨v4, r4⟩, ho4⟩
  have hAg : At w4 g (rdr i1 (.slice sa h.length sc) (.slice a L.length c)) 36 := R3.out.at_.only ho4 (fun hk => hk.elim (fun hh => by omega) (fun hh => R3.out.row_ne hh rfl))
  have hlow4 : Below B w3 w4 := ho4.below R3.out.base (fun k _ hk => hk.elim (fun hh => by rw [hh]; exact R4.out.low) (fun hh => (own_base R3.out.own hh).1))
  have hlow1 : Below B w w3 := R.out.lowB HO3.out
  have hbin4 := R3.out.bin.below hlow4
  have hjL : j ≤ L.length := by omega
  obtain ⟨ta, tc, rfl⟩ := row_slice r4.own
  have R5 := Lib.hid r4
  have HAG := Lib.hid hAg
  have HL := Lib.hid (And.intro hbin4 (hlow1.trans hlow4))
  have hq0 := r4.at_.cell (i := 0) (v := .int .i64 (j : Int)) rfl
  have hq1 := r4.at_.cell (i := 1) (v := .slice ta H'.length tc) rfl
  have hg0 := hAg.cell (i := 0) (v := .int .i64 (i1 : Int)) rfl
  have hg1 := hAg.cell (i := 1) (v := .slice sa h.length sc) rfl
  have hf0 := hAg.free 0
  have hf1 := hAg.free 1
  have hne : w2.heap.size ≠ g := by omega
  clear r4 ho4 hAg hlow4 hlow1 hbin4 R3 R4 HO3 HB HBIN HTL HN
  go_wp2
  go_ret
  have hO5 : Only (· = g) w4 ((w4.setCell ⟨g, 0, none⟩ (.int .i64 (j : Int))).setCell ⟨g, 1, none⟩ (.slice ta H'.length tc)) :=
    ((Only.refl (· = g) w4).setCell (p := ⟨g, 0, none⟩) (fun _ => rfl) _).setCell (p := ⟨g, 1, none⟩) (fun _ => rfl) _
  have hlow5 := hO5.below R5.out.base (fun _ _ hk => by rw [hk]; exact R.out.low)
  exact ⟨rfl, ⟨_, (HAG.out.set 0 (.int .i64 (j : Int))).set 1 (.slice ta H'.length tc), HL.out.1.below hlow5, R.out.low, R5.out.kinds.low hlow5 R5.out.klow, R5.out.klow, Nat.le_trans R5.out.base hO5.size,
    own_only R5.out.own hO5 (fun k hk hh => row_not R5.out.own HAG.out (by decide) (by rw [hk, hh])), R5.out.few, hjL⟩, HL.out.2.trans hlow5⟩

theorem event_any {B : Nat} {w : World} {g i : Nat} {v : Value} {a : Option Addr} {c : Nat} {L : List Nat} {h : List Ev} (r : Rdg B w g i v a c L h) (hfew : h.length < 60) :
    Calls Tryd.prog 12 #[.pointer (some ⟨g, 0, none⟩)] w fun e w' => e = .returned (.int .i64 ((eventS L i h).2.2 : Nat)) ∧ (∃ v', Rdg B w' g (eventS L i h).2.1 v' a c L (eventS L i h).1) ∧ Below B w w' := by
  unfold eventS
  obtain ⟨p, hp⟩ : ∃ p, numS L i = p := ⟨_, rfl⟩
  obtain ⟨n, i1, er⟩ := p
  rw [hp]
  dsimp only
  by_cases h0 : er = 0
  · subst h0
    rw [if_neg (fun hh => hh rfl)]
    by_cases h1 : L.length - i1 < n
    · rw [if_pos h1]
      exact (event_over r n i1 hp h1).mono fun _ _ ⟨x1, x2, x3⟩ => ⟨x1, ⟨v, x2⟩, x3⟩
    · rw [if_neg h1]
      by_cases h2 : n = 0
      · subst h2
        rw [if_pos rfl]
        exact (event_none r i1 hp).mono fun _ _ ⟨x1, x2, x3⟩ => ⟨x1, ⟨v, x2⟩, x3⟩
      · rw [if_neg h2]
        exact event_body r hfew n i1 hp (by omega) h2
  · rw [if_pos h0]
    exact (event_err r n i1 er hp h0).mono fun _ _ ⟨x1, x2, x3⟩ => ⟨x1, ⟨v, x2⟩, x3⟩
end Go.Proofs.YtgdijlmfpboecaaDoor
