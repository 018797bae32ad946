/- The walk of alive; and of ProperChecks. -/
import Derived.Test.YtidgpphapehgnaaDoorPrpJ
import Derived.Test.YtidgpphapehgnaaDoorWalkG
namespace Go.Proofs.YtidgpphapehgnaaDoor.WPlain
end Go.Proofs.YtidgpphapehgnaaDoor.WPlain
namespace Go.Proofs.YtidgpphapehgnaaDoor.QPlain
end Go.Proofs.YtidgpphapehgnaaDoor.QPlain
namespace Go.Proofs.YtidgpphapehgnaaDoor
open Go.RowKit WPlain QPlain

theorem two_evs {w : World} {b : Nat} {t : TypeId} (c : Nat) (e f : Ev) (h : At w b #[.int .i64 e.k, .int .i64 e.t, .int .i64 e.v, .int .i64 e.x, .int .i64 f.k, .int .i64 f.t, .int .i64 f.v, .int .i64 f.x] t) : Evs w (.slice (some ⟨b, 0, none⟩) 2 c) [e, f] := by
  refine .inr ⟨by simp, b, 0, c, rfl, h.lt, fun i hi => ?_⟩
  have : i = 0 ∨ i = 1 := by simp at hi; omega
  rcases this with rfl | rfl
  · exact ⟨h.cell (i := 0) rfl, h.cell (i := 1) rfl, h.cell (i := 2) rfl, h.cell (i := 3) rfl⟩
  · exact ⟨h.cell (i := 4) rfl, h.cell (i := 5) rfl, h.cell (i := 6) rfl, h.cell (i := 7) rfl⟩
set_option maxRecDepth 100000 in
set_option maxHeartbeats 1000000 in
theorem alive_any (w : World) (hK : HasK w) : Calls Tryd.prog 9 #[] w fun e w' => e = .returned (.bool true) ∧ Below w.heap.size w w' := by
  have hb0 := (Below.refl w.heap.size w).alloc (Nat.le_refl _) (.cells #[.int .i64 0, .int .i64 1, .int .i64 0, .int .i64 0, .int .i64 1, .int .i64 1, .int .i64 0, .int .i64 0] 37)
  have hE := two_evs 2 ⟨0, 1, 0, 0⟩ ⟨1, 1, 0, 0⟩ (At.new w #[.int .i64 0, .int .i64 1, .int .i64 0, .int .i64 0, .int .i64 1, .int .i64 1, .int .i64 0, .int .i64 0] 37)
  have hN := next_any _ _ 1 _ (hK.later hb0 (Nat.le_refl _)) hE (by simp) (by decide)
  have hc : (checkS [⟨0, 1, 0, 0⟩, ⟨1, 1, 0, 0⟩]).2 = 0 := by decide +kernel
  have hks : kindsS ((flw0 [⟨0, 1, 0, 0⟩, ⟨1, 1, 0, 0⟩]).1 1) = [2, 4, 6, 8] := by decide +kernel
  unfold Nxt at hN
  rw [hks] at hN
  have HN := Lib.hid hN
  have HC := Lib.hid hc
  have HB0 := Lib.hid hb0
  clear hN hc hks hb0 hE hK
  go_enter Tryd.func9, Tryd.ntmps9
  go_wp2_with fail
  generalize w.alloc (.cells #[.int .i64 0, .int .i64 1, .int .i64 0, .int .i64 0, .int .i64 1, .int .i64 1, .int .i64 0, .int .i64 0] 37) = w1 at *
  refine HN.out.mono ?_
  rintro e w2 ⟨hb, -, h2⟩
  obtain ⟨v, rfl, hv, -⟩ := h2 HC.out
  have HV := Lib.hid hv
  have HB := Lib.hid (HB0.out.trans (hb.mono HB0.out.size))
  clear hv hb h2 HC
  go_wp2_with fail
  have hbA := (Below.refl w2.heap.size w2).alloc (Nat.le_refl _) (.cells #[.int .i64 2, .int .i64 4, .int .i64 6, .int .i64 8] 3)
  have hA := At.new w2 #[.int .i64 2, .int .i64 4, .int .i64 6, .int .i64 8] 3
  have hr2 : Rd (w2.alloc (.cells #[.int .i64 2, .int .i64 4, .int .i64 6, .int .i64 8] 3)) (.slice (some ⟨w2.heap.size, 0, none⟩) 4 4) (ints [2, 4, 6, 8]) :=
    .inr ⟨by simp [ints], w2.heap.size, 0, 4, rfl, fun i u hu => by rw [Nat.zero_add]; exact hA.cell (by simpa [ints] using hu)⟩
  refine (ints_same [2, 4, 6, 8] v _ _ (by simp) (HV.out.below hbA (Nat.le_refl _)) hr2).mono ?_
  rintro e w3 ⟨rfl, nd, rfl⟩
  have hbz := HB.out.trans (hbA.mono HB.out.size)
  go_wp2
  go_ret
  exact ⟨rfl, below_drewN hbz nd⟩
set_option maxRecDepth 100000 in
set_option maxHeartbeats 2000000 in
theorem checks_walk (a : Option Addr) (n m c : Nat) (h : List Ev) (w : World) (hK : HasK w) (hn : n ≤ c) (HAE : Hid ((min (n : Int) 65).toNat = m)) (hm : m ≤ n) (hv : Evs w (.slice a m c) h) (h1 : h.length = m) (hm1 : m ≤ 65) :
    Calls Tryd.prog 3 #[.slice a n c] w fun e w' => e = .returned (.bool true) ∧ Below w.heap.size w w' := by
  have HK := Lib.hid hK
  have HV := Lib.hid hv
  have HCH := Lib.hid (fun (W : World) (hW : Below w.heap.size w W) => check_any _ h W (hK.later hW (Nat.le_refl _)) (hv.below hW (Nat.le_refl _)) (by omega))
  have HRI := Lib.hid (fun (W : World) (hW : Below w.heap.size w W) => refRight_any _ h W (hv.below hW (Nat.le_refl _)) (by omega))
  have HWH := Lib.hid (fun (W : World) (hW : Below w.heap.size w W) => why_any _ h W (hv.below hW (Nat.le_refl _)) (by omega) (fun a' n' c' he => by simp at he; omega))
  have HFI : Hid (right h = true → ∀ W, Below w.heap.size w W → Calls Tryd.prog 10 #[.slice a m c] W fun e w' => e = .returned (.int .i64 (firstS h)) ∧ Below W.heap.size W w') :=
    fun hr W hW => first_any _ h W (hv.below hW (Nat.le_refl _)) (by omega) (fun e he => ((right_evs hr).2 e he).1) (fun a' n' c' he => by simp at he; omega)
  rw [whyS_check] at HWH
  clear hK hv
  cases hr : right h with
  | false =>
    have hc : checkS h = (0, 1) := by unfold checkS; rw [hr]; rfl
    rw [hc] at HCH
    rw [hr] at HRI
    clear HWH HFI hc hr
    go_enter Tryd.func3, Tryd.ntmps3
    go_wp2_with fail
    rw [HAE.out]
    refine (HCH.out _ (Below.refl _ _)).mono ?_
    rintro e w1 ⟨rfl, hb1⟩
    have HB1 := Lib.hid hb1
    clear hb1
    go_wp2_with fail
    refine (HRI.out _ HB1.out).mono ?_
    rintro e w2 ⟨rfl, hb2⟩
    have HB2 := Lib.hid (HB1.out.trans (hb2.mono HB1.out.size))
    clear hb2 HB1
    go_wp2_with fail
    refine (alive_any _ (HK.out.later HB2.out (Nat.le_refl _))).mono ?_
    rintro e w3 ⟨rfl, hb3⟩
    go_wp2
    go_ret
    exact ⟨rfl, HB2.out.trans (hb3.mono HB2.out.size)⟩
  | true =>
    have hc : (checkS h).1 = firstS h := by
      rw [check_first hr]
      by_cases he : firstS h = h.length
      · rw [if_pos he, he]
      · rw [if_neg he]
    rw [hc] at HCH
    have HF := Lib.hid (HFI.out hr)
    rw [hr] at HRI
    clear HFI hc hr
    generalize firstS h = f at *
    generalize (checkS h).2 = er at *
    go_enter Tryd.func3, Tryd.ntmps3
    go_wp2_with fail
    rw [HAE.out]
    refine (HCH.out _ (Below.refl _ _)).mono ?_
    rintro e w1 ⟨rfl, hb1⟩
    have HB1 := Lib.hid hb1
    clear hb1
    go_wp2_with fail
    refine (HRI.out _ HB1.out).mono ?_
    rintro e w2 ⟨rfl, hb2⟩
    have HB2 := Lib.hid (HB1.out.trans (hb2.mono HB1.out.size))
    clear hb2 HB1
    go_wp2_with fail
    refine (alive_any _ (HK.out.later HB2.out (Nat.le_refl _))).mono ?_
    rintro e w3 ⟨rfl, hb3⟩
    have HB3 := Lib.hid (HB2.out.trans (hb3.mono HB2.out.size))
    clear hb3 HB2
    go_wp2_with fail
    refine (HF.out _ HB3.out).mono ?_
    rintro e w4 ⟨rfl, hb4⟩
    have HB4 := Lib.hid (HB3.out.trans (hb4.mono HB3.out.size))
    clear hb4 HB3
    go_wp2_with fail
    refine (HWH.out _ HB4.out).mono ?_
    rintro e w5 ⟨rfl, hb5⟩
    have hbz := HB4.out.trans (hb5.mono HB4.out.size)
    go_wp2
    go_ret
    exact ⟨ret_bool (by simp), hbz⟩
theorem checks_any (a : Option Addr) (n c : Nat) (h : List Ev) (w : World) (hK : HasK w) (hn : n ≤ c) (hv : Evs w (.slice a (min (n : Int) 65).toNat c) h) :
    Calls Tryd.prog 3 #[.slice a n c] w fun e w' => e = .returned (.bool true) ∧ Below w.heap.size w w' := by
  obtain ⟨m, hm⟩ : ∃ m, (min (n : Int) 65).toNat = m := ⟨_, rfl⟩
  rw [hm] at hv
  exact checks_walk a n m c h w hK hn hm (by omega) hv hv.length.symm (by omega)
end Go.Proofs.YtidgpphapehgnaaDoor
