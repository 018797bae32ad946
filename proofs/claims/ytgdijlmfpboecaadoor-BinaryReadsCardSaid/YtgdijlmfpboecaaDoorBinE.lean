/- The walk of the reader's readNumbers. (Written by gen_binE.py.) -/
import Derived.Test.YtgdijlmfpboecaaDoorBinD
import Derived.Test.YtgdijlmfpboecaaDoorVarZ
namespace Go.Proofs.YtgdijlmfpboecaaDoor.WPlain
end Go.Proofs.YtgdijlmfpboecaaDoor.WPlain
namespace Go.Proofs.YtgdijlmfpboecaaDoor.VPlain
end Go.Proofs.YtgdijlmfpboecaaDoor.VPlain
namespace Go.Proofs.YtgdijlmfpboecaaDoor
open Go.RowKit WPlain VPlain BPlain

theorem zig_min : zigI (-2147483648) = 4294967295 := by decide
theorem Rdg.event {B : Nat} {w : World} {g i : Nat} {v : Value} {a : Option Addr} {c : Nat} {L : List Nat} {h : List Ev} (r : Rdg B w g i v a c L h) {q : Nat} (hq : B ≤ q) (hgq : g ≠ q) (hvq : ∀ b, v.ownBlock = some b → b ≠ q) (j : Nat) (u : Value) : Rdg B (w.setCell ⟨q, j, none⟩ u) g i v a c L h :=
  have ho : Only (fun b => b = q) w (w.setCell ⟨q, j, none⟩ u) := (Only.refl (· = q) w).setCell (p := ⟨q, j, none⟩) (fun _ => rfl) _
  r.turn ho (fun _ _ hk => by rw [hk]; exact hq) hvq (r.at_.only ho hgq) r.place
theorem Only.event {g q : Nat} {w w1 : World} (h : Only (fun b => b = g ∨ b = q) w w1) (j : Nat) (u : Value) : Only (fun b => b = g ∨ b = q) w (w1.setCell ⟨q, j, none⟩ u) := h.setCell (p := ⟨q, j, none⟩) (fun _ => .inr rfl) u
theorem Only.reader {g q : Nat} {w w1 w2 : World} (h : Only (fun b => b = g ∨ b = q) w w1) (k : Only (· = g) w1 w2) : Only (fun b => b = g ∨ b = q) w w2 := h.trans k (fun _ _ hk => .inl hk)

set_option maxRecDepth 100000 in
theorem nums_nnname {B : Nat} {w : World} {g i : Nat} {v : Value} {a : Option Addr} {c : Nat} {L : List Nat} {h : List Ev} (r : Rdg B w g i v a c L h) (q k : Nat)
    (hE : At w q #[.int .i64 k, .int .i64 0, .int .i64 0, .int .i64 0] 44) (hq : B ≤ q) (hgq : g ≠ q) (hvq : ∀ b, v.ownBlock = some b → b ≠ q) (_hk : k < 10) (tx i1 e1 : Nat) (hn : nameS L i h = (tx, i1, e1)) (h1 : e1 ≠ 0) :
    Calls Tryd.prog 27 #[.pointer (some ⟨g, 0, none⟩), .pointer (some ⟨q, 0, none⟩)] w fun e w' =>
      e = .returned (.int .i64 (e1 : Nat)) ∧ Rdg B w' g i1 v a c L h ∧ When e1 w' q #[.int .i64 k, .int .i64 (tx : Nat), .int .i64 0, .int .i64 0] ∧ Only (fun b => b = g ∨ b = q) w w' := by
  have hN := readName_any r q k hE hq hgq hvq
  rw [hn] at hN
  have HN := Lib.hid hN
  have HQ := Lib.hid (And.intro hq (And.intro hgq hvq))
  clear hN hn hE r hq hgq hvq
  have hne : ((e1 : Int) != 0) = true := by simp; omega
  go_enter Tryd.func27, Tryd.ntmps27
  go_wp2_with fail
  refine HN.out.mono ?_
  rintro e w1 ⟨rfl, r1, hw1, ho1⟩
  go_wp2
  go_ret
  exact ⟨rfl, r1, When.no h1, ho1⟩

set_option maxRecDepth 100000 in
theorem nums_nnok {B : Nat} {w : World} {g i : Nat} {v : Value} {a : Option Addr} {c : Nat} {L : List Nat} {h : List Ev} (r : Rdg B w g i v a c L h) (q k : Nat)
    (hE : At w q #[.int .i64 k, .int .i64 0, .int .i64 0, .int .i64 0] 44) (hq : B ≤ q) (hgq : g ≠ q) (hvq : ∀ b, v.ownBlock = some b → b ≠ q) (hk : k < 10) (tx i1 e1 : Nat) (hn : nameS L i h = (tx, i1, e1)) (h1 : e1 = 0) (_ : tx ≤ 9999) (hV : hasV k = false) (hX : hasX k = false) :
    Calls Tryd.prog 27 #[.pointer (some ⟨g, 0, none⟩), .pointer (some ⟨q, 0, none⟩)] w fun e w' =>
      e = .returned (.int .i64 (0 : Nat)) ∧ Rdg B w' g i1 v a c L h ∧ When 0 w' q #[.int .i64 k, .int .i64 (tx : Nat), .int .i64 0, .int .i64 0] ∧ Only (fun b => b = g ∨ b = q) w w' := by
  have hN := readName_any r q k hE hq hgq hvq
  rw [hn] at hN
  have HN := Lib.hid hN
  have HQ := Lib.hid (And.intro hq (And.intro hgq hvq))
  clear hN hn hE r hq hgq hvq
  subst h1
  have HV := Lib.hid hV
  clear hV
  have HX := Lib.hid hX
  clear hX
  go_enter Tryd.func27, Tryd.ntmps27
  go_wp2_with fail
  refine HN.out.mono ?_
  rintro e w1 ⟨rfl, r1, hw1, ho1⟩
  have R := Lib.hid r1
  have HO := Lib.hid ho1
  have HE := Lib.hid (hw1 rfl)
  have hc0 := HE.out.cell (i := 0) (v := .int .i64 (k : Int)) rfl
  clear r1 ho1 hw1
  go_wp2_with fail
  refine (bhasVar_any k hk _).mono ?_
  rintro e wz ⟨rfl, rfl⟩
  rw [HV.out]
  go_wp2_with fail
  refine (bhasVal_any k hk _).mono ?_
  rintro e wz ⟨rfl, rfl⟩
  rw [HX.out]
  go_wp2
  go_ret
  exact ⟨rfl, R.out, fun _ => HE.out, HO.out⟩

set_option maxRecDepth 100000 in
theorem nums_Vnvar {B : Nat} {w : World} {g i : Nat} {v : Value} {a : Option Addr} {c : Nat} {L : List Nat} {h : List Ev} (r : Rdg B w g i v a c L h) (q k : Nat)
    (hE : At w q #[.int .i64 k, .int .i64 0, .int .i64 0, .int .i64 0] 44) (hq : B ≤ q) (hgq : g ≠ q) (hvq : ∀ b, v.ownBlock = some b → b ≠ q) (hk : k < 10) (tx i1 e1 : Nat) (hn : nameS L i h = (tx, i1, e1)) (h1 : e1 = 0) (_ : tx ≤ 9999) (hV : hasV k = true) (va i2 e2 : Nat) (hu : upS L i1 7 3 = (va, i2, e2)) (h2 : e2 ≠ 0) :
    Calls Tryd.prog 27 #[.pointer (some ⟨g, 0, none⟩), .pointer (some ⟨q, 0, none⟩)] w fun e w' =>
      e = .returned (.int .i64 (e2 : Nat)) ∧ Rdg B w' g i2 v a c L h ∧ When e2 w' q #[.int .i64 k, .int .i64 (tx : Nat), .int .i64 0, .int .i64 0] ∧ Only (fun b => b = g ∨ b = q) w w' := by
  have hN := readName_any r q k hE hq hgq hvq
  rw [hn] at hN
  have HN := Lib.hid hN
  have HQ := Lib.hid (And.intro hq (And.intro hgq hvq))
  clear hN hn hE r hq hgq hvq
  subst h1
  have HV := Lib.hid hV
  clear hV
  have HU := Lib.hid hu
  clear hu
  have hne : ((e2 : Int) != 0) = true := by simp; omega
  go_enter Tryd.func27, Tryd.ntmps27
  go_wp2_with fail
  refine HN.out.mono ?_
  rintro e w1 ⟨rfl, r1, hw1, ho1⟩
  have R := Lib.hid r1
  have HO := Lib.hid ho1
  have HE := Lib.hid (hw1 rfl)
  have hc0 := HE.out.cell (i := 0) (v := .int .i64 (k : Int)) rfl
  clear r1 ho1 hw1
  go_wp2_with fail
  refine (bhasVar_any k hk _).mono ?_
  rintro e wz ⟨rfl, rfl⟩
  rw [HV.out]
  go_wp2_with fail
  have hU := rup_any R.out 7 3 (by omega)
  rw [HU.out] at hU
  refine hU.mono ?_
  clear hU
  rintro e w2 ⟨rfl, r2, ho2⟩
  go_wp2
  go_ret
  exact ⟨rfl, r2, When.no h2, HO.out.reader ho2⟩

set_option maxRecDepth 100000 in
theorem nums_Vnok {B : Nat} {w : World} {g i : Nat} {v : Value} {a : Option Addr} {c : Nat} {L : List Nat} {h : List Ev} (r : Rdg B w g i v a c L h) (q k : Nat)
    (hE : At w q #[.int .i64 k, .int .i64 0, .int .i64 0, .int .i64 0] 44) (hq : B ≤ q) (hgq : g ≠ q) (hvq : ∀ b, v.ownBlock = some b → b ≠ q) (hk : k < 10) (tx i1 e1 : Nat) (hn : nameS L i h = (tx, i1, e1)) (h1 : e1 = 0) (_ : tx ≤ 9999) (hV : hasV k = true) (va i2 e2 : Nat) (hu : upS L i1 7 3 = (va, i2, e2)) (h2 : e2 = 0) (hm2 : va ≤ 7) (hX : hasX k = false) :
    Calls Tryd.prog 27 #[.pointer (some ⟨g, 0, none⟩), .pointer (some ⟨q, 0, none⟩)] w fun e w' =>
      e = .returned (.int .i64 (0 : Nat)) ∧ Rdg B w' g i2 v a c L h ∧ When 0 w' q #[.int .i64 k, .int .i64 (tx : Nat), .int .i64 (va : Nat), .int .i64 0] ∧ Only (fun b => b = g ∨ b = q) w w' := by
  have hN := readName_any r q k hE hq hgq hvq
  rw [hn] at hN
  have HN := Lib.hid hN
  have HQ := Lib.hid (And.intro hq (And.intro hgq hvq))
  clear hN hn hE r hq hgq hvq
  subst h1
  have HV := Lib.hid hV
  clear hV
  have HU := Lib.hid hu
  clear hu
  subst h2
  have HX := Lib.hid hX
  clear hX
  go_enter Tryd.func27, Tryd.ntmps27
  go_wp2_with fail
  refine HN.out.mono ?_
  rintro e w1 ⟨rfl, r1, hw1, ho1⟩
  have R := Lib.hid r1
  have HO := Lib.hid ho1
  have HE := Lib.hid (hw1 rfl)
  have hc0 := HE.out.cell (i := 0) (v := .int .i64 (k : Int)) rfl
  clear r1 ho1 hw1
  go_wp2_with fail
  refine (bhasVar_any k hk _).mono ?_
  rintro e wz ⟨rfl, rfl⟩
  rw [HV.out]
  go_wp2_with fail
  have hU := rup_any R.out 7 3 (by omega)
  rw [HU.out] at hU
  refine hU.mono ?_
  clear hU
  rintro e w2 ⟨rfl, r2, ho2⟩
  have R2 := Lib.hid r2
  have HO2 := Lib.hid (HO.out.reader ho2)
  have HE2 := Lib.hid (HE.out.only ho2 (fun hh => HQ.out.2.1 hh.symm))
  have hc2 := HE2.out.cell (i := 2) (v := .int .i64 0) rfl
  have hf2 := HE2.out.free 2
  have hc0b := HE2.out.cell (i := 0) (v := .int .i64 (k : Int)) rfl
  clear r2 ho2 hc0 R HO HE
  have R3 := Lib.hid (R2.out.event HQ.out.1 HQ.out.2.1 HQ.out.2.2 2 (.int .i64 (va : Int)))
  have HO3 := Lib.hid (HO2.out.event 2 (.int .i64 (va : Int)))
  have HE3 := Lib.hid (HE2.out.set 2 (.int .i64 (va : Int)))
  have hc0c := HE3.out.cell (i := 0) (v := .int .i64 (k : Int)) rfl
  go_wp2_with fail
  generalize w2.setCell ⟨q, 2, none⟩ (.int .i64 (va : Int)) = w3 at *
  clear hc2 hf2 hc0b R2 HO2 HE2
  refine (bhasVal_any k hk _).mono ?_
  rintro e wz ⟨rfl, rfl⟩
  rw [HX.out]
  go_wp2
  go_ret
  exact ⟨rfl, R3.out, fun _ => HE3.out, HO3.out⟩

set_option maxRecDepth 100000 in
theorem nums_nXval {B : Nat} {w : World} {g i : Nat} {v : Value} {a : Option Addr} {c : Nat} {L : List Nat} {h : List Ev} (r : Rdg B w g i v a c L h) (q k : Nat)
    (hE : At w q #[.int .i64 k, .int .i64 0, .int .i64 0, .int .i64 0] 44) (hq : B ≤ q) (hgq : g ≠ q) (hvq : ∀ b, v.ownBlock = some b → b ≠ q) (hk : k < 10) (tx i1 e1 : Nat) (hn : nameS L i h = (tx, i1, e1)) (h1 : e1 = 0) (_ : tx ≤ 9999) (hV : hasV k = false) (hX : hasX k = true) (n i3 e3 : Nat) (hw : valS L i1 = (n, i3, e3)) (h3 : e3 ≠ 0) :
    Calls Tryd.prog 27 #[.pointer (some ⟨g, 0, none⟩), .pointer (some ⟨q, 0, none⟩)] w fun e w' =>
      e = .returned (.int .i64 (e3 : Nat)) ∧ Rdg B w' g i3 v a c L h ∧ When e3 w' q #[.int .i64 k, .int .i64 (tx : Nat), .int .i64 0, .int .i64 0] ∧ Only (fun b => b = g ∨ b = q) w w' := by
  have hN := readName_any r q k hE hq hgq hvq
  rw [hn] at hN
  have HN := Lib.hid hN
  have HQ := Lib.hid (And.intro hq (And.intro hgq hvq))
  clear hN hn hE r hq hgq hvq
  subst h1
  have HV := Lib.hid hV
  clear hV
  have HX := Lib.hid hX
  clear hX
  have HW := Lib.hid hw
  clear hw
  have hne : ((e3 : Int) != 0) = true := by simp; omega
  go_enter Tryd.func27, Tryd.ntmps27
  go_wp2_with fail
  refine HN.out.mono ?_
  rintro e w1 ⟨rfl, r1, hw1, ho1⟩
  have R := Lib.hid r1
  have HO := Lib.hid ho1
  have HE := Lib.hid (hw1 rfl)
  have hc0 := HE.out.cell (i := 0) (v := .int .i64 (k : Int)) rfl
  clear r1 ho1 hw1
  go_wp2_with fail
  refine (bhasVar_any k hk _).mono ?_
  rintro e wz ⟨rfl, rfl⟩
  rw [HV.out]
  go_wp2_with fail
  refine (bhasVal_any k hk _).mono ?_
  rintro e wz ⟨rfl, rfl⟩
  rw [HX.out]
  go_wp2_with fail
  refine (zig_any (-2147483648) (by omega) (by omega) _).mono ?_
  rintro e wz ⟨rfl, rfl⟩
  rw [zig_min]
  go_wp2_with fail
  have hU := rup_any R.out 4294967295 3 (by omega)
  unfold valS at HW
  rw [HW.out] at hU
  refine hU.mono ?_
  clear hU
  rintro e w4 ⟨rfl, r4, ho4⟩
  go_wp2
  go_ret
  exact ⟨rfl, r4, When.no h3, HO.out.reader ho4⟩

set_option maxRecDepth 100000 in
theorem nums_nXok {B : Nat} {w : World} {g i : Nat} {v : Value} {a : Option Addr} {c : Nat} {L : List Nat} {h : List Ev} (r : Rdg B w g i v a c L h) (q k : Nat)
    (hE : At w q #[.int .i64 k, .int .i64 0, .int .i64 0, .int .i64 0] 44) (hq : B ≤ q) (hgq : g ≠ q) (hvq : ∀ b, v.ownBlock = some b → b ≠ q) (hk : k < 10) (tx i1 e1 : Nat) (hn : nameS L i h = (tx, i1, e1)) (h1 : e1 = 0) (_ : tx ≤ 9999) (hV : hasV k = false) (hX : hasX k = true) (n i3 e3 : Nat) (hw : valS L i1 = (n, i3, e3)) (h3 : e3 = 0) (hm3 : n < 18446744073709551616) :
    Calls Tryd.prog 27 #[.pointer (some ⟨g, 0, none⟩), .pointer (some ⟨q, 0, none⟩)] w fun e w' =>
      e = .returned (.int .i64 (0 : Nat)) ∧ Rdg B w' g i3 v a c L h ∧ When 0 w' q #[.int .i64 k, .int .i64 (tx : Nat), .int .i64 0, .int .i64 (zagI n)] ∧ Only (fun b => b = g ∨ b = q) w w' := by
  have hN := readName_any r q k hE hq hgq hvq
  rw [hn] at hN
  have HN := Lib.hid hN
  have HQ := Lib.hid (And.intro hq (And.intro hgq hvq))
  clear hN hn hE r hq hgq hvq
  subst h1
  have HV := Lib.hid hV
  clear hV
  have HX := Lib.hid hX
  clear hX
  have HW := Lib.hid hw
  clear hw
  subst h3
  go_enter Tryd.func27, Tryd.ntmps27
  go_wp2_with fail
  refine HN.out.mono ?_
  rintro e w1 ⟨rfl, r1, hw1, ho1⟩
  have R := Lib.hid r1
  have HO := Lib.hid ho1
  have HE := Lib.hid (hw1 rfl)
  have hc0 := HE.out.cell (i := 0) (v := .int .i64 (k : Int)) rfl
  clear r1 ho1 hw1
  go_wp2_with fail
  refine (bhasVar_any k hk _).mono ?_
  rintro e wz ⟨rfl, rfl⟩
  rw [HV.out]
  go_wp2_with fail
  refine (bhasVal_any k hk _).mono ?_
  rintro e wz ⟨rfl, rfl⟩
  rw [HX.out]
  go_wp2_with fail
  refine (zig_any (-2147483648) (by omega) (by omega) _).mono ?_
  rintro e wz ⟨rfl, rfl⟩
  rw [zig_min]
  go_wp2_with fail
  have hU := rup_any R.out 4294967295 3 (by omega)
  unfold valS at HW
  rw [HW.out] at hU
  refine hU.mono ?_
  clear hU
  rintro e w4 ⟨rfl, r4, ho4⟩
  have R4 := Lib.hid r4
  have HO4 := Lib.hid (HO.out.reader ho4)
  have HE4 := Lib.hid (HE.out.only ho4 (fun hh => HQ.out.2.1 hh.symm))
  have hc3 := HE4.out.cell (i := 3) (v := .int .i64 0) rfl
  have hf3 := HE4.out.free 3
  clear r4 ho4
  go_wp2_with fail
  refine (zag_any n hm3 _).mono ?_
  rintro e wz ⟨rfl, rfl⟩
  go_wp2
  go_ret
  exact ⟨rfl, R4.out.event HQ.out.1 HQ.out.2.1 HQ.out.2.2 3 _, fun _ => HE4.out.set 3 _, HO4.out.event 3 _⟩

set_option maxRecDepth 100000 in
theorem nums_VXval {B : Nat} {w : World} {g i : Nat} {v : Value} {a : Option Addr} {c : Nat} {L : List Nat} {h : List Ev} (r : Rdg B w g i v a c L h) (q k : Nat)
    (hE : At w q #[.int .i64 k, .int .i64 0, .int .i64 0, .int .i64 0] 44) (hq : B ≤ q) (hgq : g ≠ q) (hvq : ∀ b, v.ownBlock = some b → b ≠ q) (hk : k < 10) (tx i1 e1 : Nat) (hn : nameS L i h = (tx, i1, e1)) (h1 : e1 = 0) (_ : tx ≤ 9999) (hV : hasV k = true) (va i2 e2 : Nat) (hu : upS L i1 7 3 = (va, i2, e2)) (h2 : e2 = 0) (hm2 : va ≤ 7) (hX : hasX k = true) (n i3 e3 : Nat) (hw : valS L i2 = (n, i3, e3)) (h3 : e3 ≠ 0) :
    Calls Tryd.prog 27 #[.pointer (some ⟨g, 0, none⟩), .pointer (some ⟨q, 0, none⟩)] w fun e w' =>
      e = .returned (.int .i64 (e3 : Nat)) ∧ Rdg B w' g i3 v a c L h ∧ When e3 w' q #[.int .i64 k, .int .i64 (tx : Nat), .int .i64 (va : Nat), .int .i64 0] ∧ Only (fun b => b = g ∨ b = q) w w' := by
  have hN := readName_any r q k hE hq hgq hvq
  rw [hn] at hN
  have HN := Lib.hid hN
  have HQ := Lib.hid (And.intro hq (And.intro hgq hvq))
  clear hN hn hE r hq hgq hvq
  subst h1
  have HV := Lib.hid hV
  clear hV
  have HU := Lib.hid hu
  clear hu
  subst h2
  have HX := Lib.hid hX
  clear hX
  have HW := Lib.hid hw
  clear hw
  have hne : ((e3 : Int) != 0) = true := by simp; omega
  go_enter Tryd.func27, Tryd.ntmps27
  go_wp2_with fail
  refine HN.out.mono ?_
  rintro e w1 ⟨rfl, r1, hw1, ho1⟩
  have R := Lib.hid r1
  have HO := Lib.hid ho1
  have HE := Lib.hid (hw1 rfl)
  have hc0 := HE.out.cell (i := 0) (v := .int .i64 (k : Int)) rfl
  clear r1 ho1 hw1
  go_wp2_with fail
  refine (bhasVar_any k hk _).mono ?_
  rintro e wz ⟨rfl, rfl⟩
  rw [HV.out]
  go_wp2_with fail
  have hU := rup_any R.out 7 3 (by omega)
  rw [HU.out] at hU
  refine hU.mono ?_
  clear hU
  rintro e w2 ⟨rfl, r2, ho2⟩
  have R2 := Lib.hid r2
  have HO2 := Lib.hid (HO.out.reader ho2)
  have HE2 := Lib.hid (HE.out.only ho2 (fun hh => HQ.out.2.1 hh.symm))
  have hc2 := HE2.out.cell (i := 2) (v := .int .i64 0) rfl
  have hf2 := HE2.out.free 2
  have hc0b := HE2.out.cell (i := 0) (v := .int .i64 (k : Int)) rfl
  clear r2 ho2 hc0 R HO HE
  have R3 := Lib.hid (R2.out.event HQ.out.1 HQ.out.2.1 HQ.out.2.2 2 (.int .i64 (va : Int)))
  have HO3 := Lib.hid (HO2.out.event 2 (.int .i64 (va : Int)))
  have HE3 := Lib.hid (HE2.out.set 2 (.int .i64 (va : Int)))
  have hc0c := HE3.out.cell (i := 0) (v := .int .i64 (k : Int)) rfl
  go_wp2_with fail
  generalize w2.setCell ⟨q, 2, none⟩ (.int .i64 (va : Int)) = w3 at *
  clear hc2 hf2 hc0b R2 HO2 HE2
  refine (bhasVal_any k hk _).mono ?_
  rintro e wz ⟨rfl, rfl⟩
  rw [HX.out]
  go_wp2_with fail
  refine (zig_any (-2147483648) (by omega) (by omega) _).mono ?_
  rintro e wz ⟨rfl, rfl⟩
  rw [zig_min]
  go_wp2_with fail
  have hU := rup_any R3.out 4294967295 3 (by omega)
  unfold valS at HW
  rw [HW.out] at hU
  refine hU.mono ?_
  clear hU
  rintro e w4 ⟨rfl, r4, ho4⟩
  go_wp2
  go_ret
  exact ⟨rfl, r4, When.no h3, HO3.out.reader ho4⟩

set_option maxRecDepth 100000 in
theorem nums_VXok {B : Nat} {w : World} {g i : Nat} {v : Value} {a : Option Addr} {c : Nat} {L : List Nat} {h : List Ev} (r : Rdg B w g i v a c L h) (q k : Nat)
    (hE : At w q #[.int .i64 k, .int .i64 0, .int .i64 0, .int .i64 0] 44) (hq : B ≤ q) (hgq : g ≠ q) (hvq : ∀ b, v.ownBlock = some b → b ≠ q) (hk : k < 10) (tx i1 e1 : Nat) (hn : nameS L i h = (tx, i1, e1)) (h1 : e1 = 0) (_ : tx ≤ 9999) (hV : hasV k = true) (va i2 e2 : Nat) (hu : upS L i1 7 3 = (va, i2, e2)) (h2 : e2 = 0) (hm2 : va ≤ 7) (hX : hasX k = true) (n i3 e3 : Nat) (hw : valS L i2 = (n, i3, e3)) (h3 : e3 = 0) (hm3 : n < 18446744073709551616) :
    Calls Tryd.prog 27 #[.pointer (some ⟨g, 0, none⟩), .pointer (some ⟨q, 0, none⟩)] w fun e w' =>
      e = .returned (.int .i64 (0 : Nat)) ∧ Rdg B w' g i3 v a c L h ∧ When 0 w' q #[.int .i64 k, .int .i64 (tx : Nat), .int .i64 (va : Nat), .int .i64 (zagI n)] ∧ Only (fun b => b = g ∨ b = q) w w' := by
  have hN := readName_any r q k hE hq hgq hvq
  rw [hn] at hN
  have HN := Lib.hid hN
  have HQ := Lib.hid (And.intro hq (And.intro hgq hvq))
  clear hN hn hE r hq hgq hvq
  subst h1
  have HV := Lib.hid hV
  clear hV
  have HU := Lib.hid hu
  clear hu
  subst h2
  have HX := Lib.hid hX
  clear hX
  have HW := Lib.hid hw
  clear hw
  subst h3
  go_enter Tryd.func27, Tryd.ntmps27
  go_wp2_with fail
  refine HN.out.mono ?_
  rintro e w1 ⟨rfl, r1, hw1, ho1⟩
  have R := Lib.hid r1
  have HO := Lib.hid ho1
  have HE := Lib.hid (hw1 rfl)
  have hc0 := HE.out.cell (i := 0) (v := .int .i64 (k : Int)) rfl
  clear r1 ho1 hw1
  go_wp2_with fail
  refine (bhasVar_any k hk _).mono ?_
  rintro e wz ⟨rfl, rfl⟩
  rw [HV.out]
  go_wp2_with fail
  have hU := rup_any R.out 7 3 (by omega)
  rw [HU.out] at hU
  refine hU.mono ?_
  clear hU
  rintro e w2 ⟨rfl, r2, ho2⟩
  have R2 := Lib.hid r2
  have HO2 := Lib.hid (HO.out.reader ho2)
  have HE2 := Lib.hid (HE.out.only ho2 (fun hh => HQ.out.2.1 hh.symm))
  have hc2 := HE2.out.cell (i := 2) (v := .int .i64 0) rfl
  have hf2 := HE2.out.free 2
  have hc0b := HE2.out.cell (i := 0) (v := .int .i64 (k : Int)) rfl
  clear r2 ho2 hc0 R HO HE
  have R3 := Lib.hid (R2.out.event HQ.out.1 HQ.out.2.1 HQ.out.2.2 2 (.int .i64 (va : Int)))
  have HO3 := Lib.hid (HO2.out.event 2 (.int .i64 (va : Int)))
  have HE3 := Lib.hid (HE2.out.set 2 (.int .i64 (va : Int)))
  have hc0c := HE3.out.cell (i := 0) (v := .int .i64 (k : Int)) rfl
  go_wp2_with fail
  generalize w2.setCell ⟨q, 2, none⟩ (.int .i64 (va : Int)) = w3 at *
  clear hc2 hf2 hc0b R2 HO2 HE2
  refine (bhasVal_any k hk _).mono ?_
  rintro e wz ⟨rfl, rfl⟩
  rw [HX.out]
  go_wp2_with fail
  refine (zig_any (-2147483648) (by omega) (by omega) _).mono ?_
  rintro e wz ⟨rfl, rfl⟩
  rw [zig_min]
  go_wp2_with fail
  have hU := rup_any R3.out 4294967295 3 (by omega)
  unfold valS at HW
  rw [HW.out] at hU
  refine hU.mono ?_
  clear hU
  rintro e w4 ⟨rfl, r4, ho4⟩
  have R4 := Lib.hid r4
  have HO4 := Lib.hid (HO3.out.reader ho4)
  have HE4 := Lib.hid (HE3.out.only ho4 (fun hh => HQ.out.2.1 hh.symm))
  have hc3 := HE4.out.cell (i := 3) (v := .int .i64 0) rfl
  have hf3 := HE4.out.free 3
  clear r4 ho4
  go_wp2_with fail
  refine (zag_any n hm3 _).mono ?_
  rintro e wz ⟨rfl, rfl⟩
  go_wp2
  go_ret
  exact ⟨rfl, R4.out.event HQ.out.1 HQ.out.2.1 HQ.out.2.2 3 _, fun _ => HE4.out.set 3 _, HO4.out.event 3 _⟩

/-- an event's cells -/
def evArr (e : Ev) : Array Value := #[.int .i64 e.k, .int .i64 e.t, .int .i64 e.v, .int .i64 e.x]
theorem upS_val {L : List Nat} {i m b : Nat} (h : (upS L i m b).2.2 = 0) (hb : b ≠ 0) (hm : m < 4294967296) : (upS L i m b).1 < 18446744073709551616 := by
  have := upS_most h hb; omega
theorem nums_any {B : Nat} {w : World} {g i : Nat} {v : Value} {a : Option Addr} {c : Nat} {L : List Nat} {h : List Ev} (r : Rdg B w g i v a c L h) (q k : Nat)
    (hE : At w q #[.int .i64 k, .int .i64 0, .int .i64 0, .int .i64 0] 44) (hq : B ≤ q) (hgq : g ≠ q) (hvq : ∀ b, v.ownBlock = some b → b ≠ q) (hk : k < 10) :
    Calls Tryd.prog 27 #[.pointer (some ⟨g, 0, none⟩), .pointer (some ⟨q, 0, none⟩)] w fun e w' =>
      e = .returned (.int .i64 ((numsS L i k h).2.2 : Nat)) ∧ Rdg B w' g (numsS L i k h).2.1 v a c L h ∧ When (numsS L i k h).2.2 w' q (evArr (numsS L i k h).1) ∧ Only (fun b => b = g ∨ b = q) w w' := by
  unfold numsS
  have hm1 := @nameS_most L i h
  obtain ⟨p, hp⟩ : ∃ p, nameS L i h = p := ⟨_, rfl⟩
  obtain ⟨tx, i1, e1⟩ := p
  rw [hp] at hm1
  rw [hp]
  dsimp only at hm1 ⊢
  by_cases h1 : e1 = 0
  · rw [if_neg ((fun hh => fun hn => hn hh) h1)]
    have hm1' := hm1 h1
    cases hV : hasV k with
    | true =>
      rw [if_pos rfl]
      have hm2 := @upS_most L i1 7 3
      obtain ⟨p2, hp2⟩ : ∃ p, upS L i1 7 3 = p := ⟨_, rfl⟩
      obtain ⟨va, i2, e2⟩ := p2
      rw [hp2] at hm2
      rw [hp2]
      dsimp only at hm2 ⊢
      by_cases h2 : e2 = 0
      · rw [if_neg ((fun hh => fun hn => hn hh) h2)]
        have hm2' := hm2 h2 (by decide)
        cases hX : hasX k with
        | true =>
          rw [if_pos rfl]
          have hm3 : (valS L i2).2.2 = 0 → (valS L i2).1 < 18446744073709551616 := fun hh => upS_val hh (by decide) (by decide)
          obtain ⟨p3, hp3⟩ : ∃ p, valS L i2 = p := ⟨_, rfl⟩
          obtain ⟨n, i3, e3⟩ := p3
          rw [hp3] at hm3
          rw [hp3]
          dsimp only at hm3 ⊢
          by_cases h3 : e3 = 0
          · rw [if_neg ((fun hh => fun hn => hn hh) h3)]
            exact nums_VXok r q k hE hq hgq hvq hk tx i1 e1 hp h1 hm1' hV va i2 e2 hp2 h2 hm2' hX n i3 e3 hp3 h3 (hm3 h3)
          · rw [if_pos h3]
            exact (nums_VXval r q k hE hq hgq hvq hk tx i1 e1 hp h1 hm1' hV va i2 e2 hp2 h2 hm2' hX n i3 e3 hp3 h3).mono fun _ _ ⟨x1, x2, _, x4⟩ => ⟨x1, x2, When.no h3, x4⟩
        | false =>
          rw [if_neg (by decide)]
          exact nums_Vnok r q k hE hq hgq hvq hk tx i1 e1 hp h1 hm1' hV va i2 e2 hp2 h2 hm2' hX
      · rw [if_pos h2]
        exact (nums_Vnvar r q k hE hq hgq hvq hk tx i1 e1 hp h1 hm1' hV va i2 e2 hp2 h2).mono fun _ _ ⟨x1, x2, _, x4⟩ => ⟨x1, x2, When.no h2, x4⟩
    | false =>
      rw [if_neg (by decide)]
      cases hX : hasX k with
      | true =>
        rw [if_pos rfl]
        have hm3 : (valS L i1).2.2 = 0 → (valS L i1).1 < 18446744073709551616 := fun hh => upS_val hh (by decide) (by decide)
        obtain ⟨p3, hp3⟩ : ∃ p, valS L i1 = p := ⟨_, rfl⟩
        obtain ⟨n, i3, e3⟩ := p3
        rw [hp3] at hm3
        rw [hp3]
        dsimp only at hm3 ⊢
        by_cases h3 : e3 = 0
        · rw [if_neg ((fun hh => fun hn => hn hh) h3)]
          exact nums_nXok r q k hE hq hgq hvq hk tx i1 e1 hp h1 hm1' hV hX n i3 e3 hp3 h3 (hm3 h3)
        · rw [if_pos h3]
          exact (nums_nXval r q k hE hq hgq hvq hk tx i1 e1 hp h1 hm1' hV hX n i3 e3 hp3 h3).mono fun _ _ ⟨x1, x2, _, x4⟩ => ⟨x1, x2, When.no h3, x4⟩
      | false =>
        rw [if_neg (by decide)]
        exact nums_nnok r q k hE hq hgq hvq hk tx i1 e1 hp h1 hm1' hV hX
  · rw [if_pos h1]
    exact (nums_nnname r q k hE hq hgq hvq hk tx i1 e1 hp h1).mono fun _ _ ⟨x1, x2, _, x4⟩ => ⟨x1, x2, When.no h1, x4⟩
end Go.Proofs.YtgdijlmfpboecaaDoor
