/- The walks of OrderHolds' closures. -/
import Derived.Test.YtampoikncgagkaaDoorOrdL
namespace Go.Proofs.YtampoikncgagkaaDoor.WPlain
end Go.Proofs.YtampoikncgagkaaDoor.WPlain
namespace Go.Proofs.YtampoikncgagkaaDoor.QPlain
end Go.Proofs.YtampoikncgagkaaDoor.QPlain
namespace Go.Proofs.YtampoikncgagkaaDoor.RPlain
end Go.Proofs.YtampoikncgagkaaDoor.RPlain
namespace Go.Proofs.YtampoikncgagkaaDoor
open Go.RowKit WPlain QPlain RPlain

/-- a cell that holds what is stored: no block has turned -/
theorem below_same {w : World} {b i : Nat} {cs : Array Value} {t : TypeId} {v : Value} (h : At w b cs t) (hv : cs.setIfInBounds i v = cs) : Below w.heap.size w (w.setCell ⟨b, i, none⟩ v) := by
  refine ⟨rfl, rfl, rfl, by simp [World.setCell], fun k _ => ?_⟩
  by_cases hk : k = b
  · subst hk
    have h1 := h.set i v
    rw [hv] at h1
    exact Eq.trans h1 (Eq.symm h)
  · exact Below.heap_setCell _ _ _ _ hk
/-- a place of any number -/
def plc (n : Nat) (x : Int) : Nat := ((x.tmod (n : Int) + n) % n).toNat
theorem plc_lt {n : Nat} (hn : 0 < n) (x : Int) : plc n x < n := by
  unfold plc
  have h1 := Int.emod_nonneg (x.tmod (n : Int) + n) (show (n : Int) ≠ 0 by omega)
  have h2 := Int.emod_lt_of_pos (x.tmod (n : Int) + n) (show (0 : Int) < n by omega)
  omega
set_option maxRecDepth 100000 in
theorem atH_any (x : Int) (n B c : Nat) (a : Option Addr) (w : World) (hn : 0 < n) (hn6 : n ≤ 6) (hx : w.cell? ⟨B, 0, none⟩ = some (.slice a n c)) :
    Calls Tryd.prog 17 #[.int .i64 x, .pointer (some ⟨B, 0, none⟩)] w fun e w' => e = .returned (.int .i64 (plc n x : Nat)) ∧ ∃ z, w' = w.drewN z := by
  have hp1 : x.tmod (n : Int) < (n : Int) := Int.tmod_lt_of_pos _ (by omega)
  have hp2 : -(n : Int) < x.tmod (n : Int) := Int.lt_tmod_of_pos _ (by omega)
  have hpl : ((plc n x : Nat) : Int) = (x.tmod (n : Int) + n) % n := by
    unfold plc
    have h1 := Int.emod_nonneg (x.tmod (n : Int) + n) (show (n : Int) ≠ 0 by omega)
    omega
  have hn0 : ((n : Int) == 0) = false := by simp; omega
  have hn1 : ¬ ((n : Int) = 0) := by omega
  rw [hpl]
  go_enter Tryd.func17, Tryd.ntmps17
  go_wp2_with fail
  go_quiet (fail)
  go_wp2
  go_ret
  exact ⟨rfl, _, rfl⟩
set_option maxRecDepth 100000 in
theorem befH_any (h : List Ev) (I K B5 B14 B11 m c : Nat) (a : Option Addr) (lv : Value) (w : World) (hK : HasK w) (h0 : (checkS h).2 = 0) (hl : h.length ≤ 65) (hI : I < (tableS h).length) (hKl : K < (tableS h).length)
    (h5 : At w B5 #[.slice a m c] 22) (h14 : At w B14 #[.bool true] 4) (h11 : At w B11 #[lv] 24) (hv : Evs w (.slice a m c) h) (hlv : Rd w lv (u32s (afterS (tableS h)))) :
    Calls Tryd.prog 18 #[.int .i64 (I : Int), .int .i64 (K : Int), .pointer (some ⟨B5, 0, none⟩), .pointer (some ⟨B14, 0, none⟩), .pointer (some ⟨B11, 0, none⟩)] w fun e w' => e = .returned (.bool (bfrAt (tableS h) I K)) ∧ Below w.heap.size w w' := by
  have HB := Lib.hid (before_any (.slice a m c) h I K w hK hv (by omega))
  have hc5 := h5.cell (i := 0) rfl
  have hth : thereS (tableS h) [(I : Int), (K : Int)] = true := by
    rw [thereS_iff]
    intro i hi
    rcases List.mem_cons.1 hi with rfl | hi
    · omega
    · rw [List.mem_singleton.1 hi]; omega
  have he : errP h [(I : Int), (K : Int)] = 0 := by unfold errP; rw [if_pos h0, if_pos hth]
  have hbe : befS h I K = bfrAt (tableS h) I K := by unfold befS; rw [if_pos he, Int.toNat_natCast, Int.toNat_natCast]
  rw [he, hbe] at HB
  have hget : (u32s (afterS (tableS h)))[I]? = some (.int .u32 (afterN (tableS h) (tableS h)[I] : Nat)) := by
    unfold u32s afterS
    simp [hI]
  have hal : (u32s (afterS (tableS h))).length = (tableS h).length := by simp [u32s, afterS]
  have hab := afterN_bit (l := tableS h) (tableS h)[I] hKl
  have hlt := pow_32 (table_six h0) (afterN_lt (tableS h) (tableS h)[I])
  rw [bfrAt_get hI hKl] at HB ⊢
  clear he hbe hth
  have hsix := table_six h0
  generalize bfr (tableS h)[I] (tableS h)[K] = bb at *
  generalize afterN (tableS h) (tableS h)[I] = ac at *
  generalize u32s (afterS (tableS h)) = L at *
  generalize (tableS h).length = ln at *
  have HV := Lib.hid hlv
  have H14 := Lib.hid h14
  have H11 := Lib.hid h11
  clear hK hv h5 h14 h11 hlv h0
  go_enter Tryd.func18, Tryd.ntmps18
  go_wp2_with fail
  refine HB.out.mono ?_
  rintro e w1 ⟨rfl, hb1⟩
  have HB1 := Lib.hid hb1
  have HV1 := Lib.hid (HV.out.below hb1 (Nat.le_refl _))
  obtain ⟨b, o, c', rfl, hbl, hcs⟩ := HV1.out.opened (by omega)
  have hcI := hcs I _ hget
  have A14 := Lib.hid (H14.out.below hb1 H14.out.lt)
  have hc14 := A14.out.cell (i := 0) rfl
  have hc11 := (H11.out.below hb1 H11.out.lt).cell (i := 0) rfl
  have hf14 := A14.out.free 0
  rw [hal] at hc11
  clear hb1 HV HB H14 H11 hcs hc5
  go_wp2_with fail
  have hbit : (bb == (bits BinOp.and IntKind.u32 ((ac : Int) / 2 ^ K) 1 == 1)) = true := by
    have hdl : ac / 2 ^ K ≤ ac := Nat.div_le_self _ _
    have hand := u32_and_nat (ac / 2 ^ K) 1 (by omega) (by omega)
    rw [Nat.and_one_is_mod, hab] at hand
    have hcast : ((ac / 2 ^ K : Nat) : Int) = (ac : Int) / 2 ^ K := by simp
    rw [hcast] at hand
    rw [show (1 : Int) = ((1 : Nat) : Int) from rfl, hand]
    cases bb <;> rfl
  rw [hbit]
  go_ret
  exact ⟨rfl, HB1.out.trans ((below_same A14.out rfl).mono HB1.out.size)⟩
end Go.Proofs.YtampoikncgagkaaDoor
