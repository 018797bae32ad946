/- The walk of the reference's event (2). (Written by gen_txtX.py.) -/
import Derived.Test.YtnbecfgoambbpaaDoorTxtX0
namespace Go.Proofs.YtnbecfgoambbpaaDoor
open Go.RowKit WPlain

set_option maxRecDepth 100000 in
set_option maxHeartbeats 1500000 in
theorem rev_ff_ok (b1 o1 m c1 b2 o2 c2 en : Nat) (av : Option Addr) (lh cv : Nat) (w : World) (s : ByteArray) (hb1 : b1 < w.heap.size) (hc1 : w.cell? ⟨b1, o1, none⟩ = some (.string s)) (hm : 0 < m) (h60 : ¬ lh = 60) (kk : Nat) (hk : kk < 10) (HK : RKind s w kk) (ns : List Int) (hns : ns.length ≤ 65536) (HNm : RNames (.slice av lh cv) w ns) (n1 : Int) (HN1 : RNum (.agg #[.slice (some ⟨b1, o1, none⟩) m c1, .slice (some ⟨b2, o2, none⟩) m c2]) w (#[.int .i64 kk, .int .i64 0, .int .i64 0, .int .i64 0, .int .i64 1, .int .i64 0, .int .i64 0, .int .i64 0]) (#[.int .i64 kk, .int .i64 0, .int .i64 0, .int .i64 0, .int .i64 2, .int .i64 n1, .int .i64 0, .int .i64 0]) 0 9999 en) (htm : ((ns.length == 6) && !ns.contains n1) = false) (hV : hasV kk = false) (hX : hasX kk = false) (hmore : ¬ 2 < m) :
    Calls Tryd.prog 20 #[.agg #[.slice (some ⟨b1, o1, none⟩) m c1, .slice (some ⟨b2, o2, none⟩) m c2], .slice av lh cv, .int .i64 en] w fun e w' => e = .returned (.agg #[.int .i64 kk, .int .i64 n1, .int .i64 0, .int .i64 0, .int .i64 2, .int .i64 n1, .int .i64 0, .int .i64 0]) ∧ Below w.heap.size w w' := by
  have HKh := Lib.hid HK
  clear HK
  have HNmh := Lib.hid HNm
  clear HNm
  have HN1h := Lib.hid HN1
  clear HN1
  have htmh := Lib.hid htm
  clear htm
  have hVh := Lib.hid hV
  clear hV
  have hXh := Lib.hid hX
  clear hX
  have tmo : decide ((2 : Int) < (m : Int)) = false := by simp; omega
  have tmo2 : decide (2 < m) = false := by simp; omega
  have hkn : ¬ (kk : Int) < 0 := by omega
  have t60 : ((lh : Int) == 60) = false := by simp; omega
  clear h60
  have hbA : b1 < w.heap.size + 1 := by omega
  have hbB : b1 < w.heap.size + 1 + 1 := by omega
  have hS := Sa.start w #[.slice (some ⟨b1, o1, none⟩) m c1, .slice (some ⟨b2, o2, none⟩) m c2] #[.int .i64 0, .int .i64 0, .int .i64 0, .int .i64 0, .int .i64 0, .int .i64 0, .int .i64 0, .int .i64 0]
  go_enter Tryd.func20, Tryd.ntmps20
  go_wp2_with fail
  generalize (w.alloc (.cells #[.slice (some ⟨b1, o1, none⟩) m c1, .slice (some ⟨b2, o2, none⟩) m c2] 50)).alloc (.cells #[.int .i64 0, .int .i64 0, .int .i64 0, .int .i64 0, .int .i64 0, .int .i64 0, .int .i64 0, .int .i64 0] 53) = w0 at *
  refine (HKh.out _ hS.2.2).mono ?_
  rintro e w1 ⟨rfl, hb'⟩
  have hS := hS.call hb'
  clear hb' hc1 hb1 hbA hbB
  have hA0 := hS.1.cell (i := 0) (v := .slice (some ⟨b1, o1, none⟩) m c1) rfl
  have hA1 := hS.1.cell (i := 1) (v := .slice (some ⟨b2, o2, none⟩) m c2) rfl
  go_wp2_with fail
  clear hA0 hA1
  refine (HN1h.out _ hS.2.2).mono ?_
  rintro e w2 ⟨rfl, hb'⟩
  have hS := hS.call hb'
  clear hb'
  go_wp2_with fail
  have hS := hS.event (#[.int .i64 kk, .int .i64 n1, .int .i64 0, .int .i64 0, .int .i64 2, .int .i64 n1, .int .i64 0, .int .i64 0])
  generalize w2.alloc (.cells #[.int .i64 kk, .int .i64 n1, .int .i64 0, .int .i64 0, .int .i64 2, .int .i64 n1, .int .i64 0, .int .i64 0] 53) = w3 at *
  generalize w2.heap.size = M at *
  refine (HNmh.out _ hS.1.2.2).mono ?_
  rintro e w4 ⟨v', rfl, hy, hb'⟩
  have hS := hS.call hb'
  have HRd := Lib.hid (Rd.of_row hy)
  obtain ⟨ya, yc, rfl⟩ := row_slice hy
  clear hb' hy
  have hE0 : w4.cell? ⟨M, 0, none⟩ = some (.int .i64 kk) := hS.2.1.cell (i := 0) rfl
  have hF0 := hS.2.1.free 0
  have hE1 : w4.cell? ⟨M, 1, none⟩ = some (.int .i64 n1) := hS.2.1.cell (i := 1) rfl
  have hF1 := hS.2.1.free 1
  have hE2 : w4.cell? ⟨M, 2, none⟩ = some (.int .i64 0) := hS.2.1.cell (i := 2) rfl
  have hF2 := hS.2.1.free 2
  have hE3 : w4.cell? ⟨M, 3, none⟩ = some (.int .i64 0) := hS.2.1.cell (i := 3) rfl
  have hF3 := hS.2.1.free 3
  have hE4 : w4.cell? ⟨M, 4, none⟩ = some (.int .i64 2) := hS.2.1.cell (i := 4) rfl
  have hF4 := hS.2.1.free 4
  have hE5 : w4.cell? ⟨M, 5, none⟩ = some (.int .i64 n1) := hS.2.1.cell (i := 5) rfl
  have hF5 := hS.2.1.free 5
  have hE6 : w4.cell? ⟨M, 6, none⟩ = some (.int .i64 0) := hS.2.1.cell (i := 6) rfl
  have hF6 := hS.2.1.free 6
  have hE7 : w4.cell? ⟨M, 7, none⟩ = some (.int .i64 0) := hS.2.1.cell (i := 7) rfl
  have hF7 := hS.2.1.free 7
  have hA0 := hS.1.1.cell (i := 0) (v := .slice (some ⟨b1, o1, none⟩) m c1) rfl
  have hA1 := hS.1.1.cell (i := 1) (v := .slice (some ⟨b2, o2, none⟩) m c2) rfl
  have hR0 := hS.1.2.1.cell (i := 0) rfl
  have hG0 := hS.1.2.1.free 0
  have hR1 := hS.1.2.1.cell (i := 1) rfl
  have hG1 := hS.1.2.1.free 1
  have hR2 := hS.1.2.1.cell (i := 2) rfl
  have hG2 := hS.1.2.1.free 2
  have hR3 := hS.1.2.1.cell (i := 3) rfl
  have hG3 := hS.1.2.1.free 3
  have hR4 := hS.1.2.1.cell (i := 4) rfl
  have hG4 := hS.1.2.1.free 4
  have hR5 := hS.1.2.1.cell (i := 5) rfl
  have hG5 := hS.1.2.1.free 5
  have hR6 := hS.1.2.1.cell (i := 6) rfl
  have hG6 := hS.1.2.1.free 6
  have hR7 := hS.1.2.1.cell (i := 7) rfl
  have hG7 := hS.1.2.1.free 7
  have hMl := hS.2.2
  have hMz := hS.2.1.lt
  go_upto_region 9 with fail
  go_cut [56] (fun c wx => c = .bool false ∧ wx = w4)
  case first =>
    by_cases h6 : ns.length = 6
    · have t6 : ((ns.length : Int) == 6) = true := by simp [h6]
      have hh : Hid ((!ns.contains n1) = false) := by
        have h := htmh.out
        unfold Hid
        rw [← h]
        simp [h6]
      clear h6
      go_wp2_with fail
      refine (has_any _ ns n1 _ HRd.out (by omega)).mono ?_
      rintro e w5 ⟨rfl, rfl⟩
      go_wp2_with fail
      go_meet
      exact ⟨congrArg Value.bool (by have h := hh.out; simpa using h), rfl⟩
    · have t6 : ((ns.length : Int) == 6) = false := by simp; omega
      clear h6
      go_wp2_with fail
      go_meet
      exact ⟨rfl, rfl⟩
  case rest =>
  obtain ⟨rfl, rfl⟩ := hcut
  go_wp2_with fail
  refine (variable_any kk hk _).mono ?_
  rintro e w5 ⟨rfl, rfl⟩
  rw [hVh.out]
  go_wp2_with fail
  refine (value_any kk hk _).mono ?_
  rintro e w7 ⟨rfl, rfl⟩
  rw [hXh.out]
  have hbz := hS.1.2.2
  go_wp2
  exact bodyPost_ret (v := .agg #[.int .i64 kk, .int .i64 n1, .int .i64 0, .int .i64 0, .int .i64 2, .int .i64 n1, .int .i64 0, .int .i64 0]) (by simp [results, Tryd.results20, go_sem, hR0, hR1, hR2, hR3, hR4, hR5, hR6, hR7]) rfl ⟨rfl, by repeat' (first | (with_reducible exact hbz) | (with_reducible refine Below.setCell ?_ (by simp) _))⟩

set_option maxRecDepth 100000 in
set_option maxHeartbeats 1500000 in
theorem rev_ff_more (b1 o1 m c1 b2 o2 c2 en : Nat) (av : Option Addr) (lh cv : Nat) (w : World) (s : ByteArray) (hb1 : b1 < w.heap.size) (hc1 : w.cell? ⟨b1, o1, none⟩ = some (.string s)) (hm : 0 < m) (h60 : ¬ lh = 60) (kk : Nat) (hk : kk < 10) (HK : RKind s w kk) (ns : List Int) (hns : ns.length ≤ 65536) (HNm : RNames (.slice av lh cv) w ns) (n1 : Int) (HN1 : RNum (.agg #[.slice (some ⟨b1, o1, none⟩) m c1, .slice (some ⟨b2, o2, none⟩) m c2]) w (#[.int .i64 kk, .int .i64 0, .int .i64 0, .int .i64 0, .int .i64 1, .int .i64 0, .int .i64 0, .int .i64 0]) (#[.int .i64 kk, .int .i64 0, .int .i64 0, .int .i64 0, .int .i64 2, .int .i64 n1, .int .i64 0, .int .i64 0]) 0 9999 en) (htm : ((ns.length == 6) && !ns.contains n1) = false) (hV : hasV kk = false) (hX : hasX kk = false) (hmore : 2 < m) (p : Nat) (HAt : RAt w b2 (o2 + 2) p) :
    Calls Tryd.prog 20 #[.agg #[.slice (some ⟨b1, o1, none⟩) m c1, .slice (some ⟨b2, o2, none⟩) m c2], .slice av lh cv, .int .i64 en] w fun e w' => e = .returned (.agg #[.int .i64 0, .int .i64 0, .int .i64 0, .int .i64 0, .int .i64 0, .int .i64 0, .int .i64 p, .int .i64 2]) ∧ Below w.heap.size w w' := by
  have HKh := Lib.hid HK
  clear HK
  have HNmh := Lib.hid HNm
  clear HNm
  have HN1h := Lib.hid HN1
  clear HN1
  have htmh := Lib.hid htm
  clear htm
  have hVh := Lib.hid hV
  clear hV
  have hXh := Lib.hid hX
  clear hX
  have HAth := Lib.hid HAt
  clear HAt
  have tmo : (2 : Int) < (m : Int) := by omega
  have hkn : ¬ (kk : Int) < 0 := by omega
  have t60 : ((lh : Int) == 60) = false := by simp; omega
  clear h60
  have hbA : b1 < w.heap.size + 1 := by omega
  have hbB : b1 < w.heap.size + 1 + 1 := by omega
  have hS := Sa.start w #[.slice (some ⟨b1, o1, none⟩) m c1, .slice (some ⟨b2, o2, none⟩) m c2] #[.int .i64 0, .int .i64 0, .int .i64 0, .int .i64 0, .int .i64 0, .int .i64 0, .int .i64 0, .int .i64 0]
  go_enter Tryd.func20, Tryd.ntmps20
  go_wp2_with fail
  generalize (w.alloc (.cells #[.slice (some ⟨b1, o1, none⟩) m c1, .slice (some ⟨b2, o2, none⟩) m c2] 50)).alloc (.cells #[.int .i64 0, .int .i64 0, .int .i64 0, .int .i64 0, .int .i64 0, .int .i64 0, .int .i64 0, .int .i64 0] 53) = w0 at *
  refine (HKh.out _ hS.2.2).mono ?_
  rintro e w1 ⟨rfl, hb'⟩
  have hS := hS.call hb'
  clear hb' hc1 hb1 hbA hbB
  have hA0 := hS.1.cell (i := 0) (v := .slice (some ⟨b1, o1, none⟩) m c1) rfl
  have hA1 := hS.1.cell (i := 1) (v := .slice (some ⟨b2, o2, none⟩) m c2) rfl
  go_wp2_with fail
  clear hA0 hA1
  refine (HN1h.out _ hS.2.2).mono ?_
  rintro e w2 ⟨rfl, hb'⟩
  have hS := hS.call hb'
  clear hb'
  go_wp2_with fail
  have hS := hS.event (#[.int .i64 kk, .int .i64 n1, .int .i64 0, .int .i64 0, .int .i64 2, .int .i64 n1, .int .i64 0, .int .i64 0])
  generalize w2.alloc (.cells #[.int .i64 kk, .int .i64 n1, .int .i64 0, .int .i64 0, .int .i64 2, .int .i64 n1, .int .i64 0, .int .i64 0] 53) = w3 at *
  generalize w2.heap.size = M at *
  refine (HNmh.out _ hS.1.2.2).mono ?_
  rintro e w4 ⟨v', rfl, hy, hb'⟩
  have hS := hS.call hb'
  have HRd := Lib.hid (Rd.of_row hy)
  obtain ⟨ya, yc, rfl⟩ := row_slice hy
  clear hb' hy
  have hE0 : w4.cell? ⟨M, 0, none⟩ = some (.int .i64 kk) := hS.2.1.cell (i := 0) rfl
  have hF0 := hS.2.1.free 0
  have hE1 : w4.cell? ⟨M, 1, none⟩ = some (.int .i64 n1) := hS.2.1.cell (i := 1) rfl
  have hF1 := hS.2.1.free 1
  have hE2 : w4.cell? ⟨M, 2, none⟩ = some (.int .i64 0) := hS.2.1.cell (i := 2) rfl
  have hF2 := hS.2.1.free 2
  have hE3 : w4.cell? ⟨M, 3, none⟩ = some (.int .i64 0) := hS.2.1.cell (i := 3) rfl
  have hF3 := hS.2.1.free 3
  have hE4 : w4.cell? ⟨M, 4, none⟩ = some (.int .i64 2) := hS.2.1.cell (i := 4) rfl
  have hF4 := hS.2.1.free 4
  have hE5 : w4.cell? ⟨M, 5, none⟩ = some (.int .i64 n1) := hS.2.1.cell (i := 5) rfl
  have hF5 := hS.2.1.free 5
  have hE6 : w4.cell? ⟨M, 6, none⟩ = some (.int .i64 0) := hS.2.1.cell (i := 6) rfl
  have hF6 := hS.2.1.free 6
  have hE7 : w4.cell? ⟨M, 7, none⟩ = some (.int .i64 0) := hS.2.1.cell (i := 7) rfl
  have hF7 := hS.2.1.free 7
  have hA0 := hS.1.1.cell (i := 0) (v := .slice (some ⟨b1, o1, none⟩) m c1) rfl
  have hA1 := hS.1.1.cell (i := 1) (v := .slice (some ⟨b2, o2, none⟩) m c2) rfl
  have hR0 := hS.1.2.1.cell (i := 0) rfl
  have hG0 := hS.1.2.1.free 0
  have hR1 := hS.1.2.1.cell (i := 1) rfl
  have hG1 := hS.1.2.1.free 1
  have hR2 := hS.1.2.1.cell (i := 2) rfl
  have hG2 := hS.1.2.1.free 2
  have hR3 := hS.1.2.1.cell (i := 3) rfl
  have hG3 := hS.1.2.1.free 3
  have hR4 := hS.1.2.1.cell (i := 4) rfl
  have hG4 := hS.1.2.1.free 4
  have hR5 := hS.1.2.1.cell (i := 5) rfl
  have hG5 := hS.1.2.1.free 5
  have hR6 := hS.1.2.1.cell (i := 6) rfl
  have hG6 := hS.1.2.1.free 6
  have hR7 := hS.1.2.1.cell (i := 7) rfl
  have hG7 := hS.1.2.1.free 7
  have hMl := hS.2.2
  have hMz := hS.2.1.lt
  go_upto_region 9 with fail
  go_cut [56] (fun c wx => c = .bool false ∧ wx = w4)
  case first =>
    by_cases h6 : ns.length = 6
    · have t6 : ((ns.length : Int) == 6) = true := by simp [h6]
      have hh : Hid ((!ns.contains n1) = false) := by
        have h := htmh.out
        unfold Hid
        rw [← h]
        simp [h6]
      clear h6
      go_wp2_with fail
      refine (has_any _ ns n1 _ HRd.out (by omega)).mono ?_
      rintro e w5 ⟨rfl, rfl⟩
      go_wp2_with fail
      go_meet
      exact ⟨congrArg Value.bool (by have h := hh.out; simpa using h), rfl⟩
    · have t6 : ((ns.length : Int) == 6) = false := by simp; omega
      clear h6
      go_wp2_with fail
      go_meet
      exact ⟨rfl, rfl⟩
  case rest =>
  obtain ⟨rfl, rfl⟩ := hcut
  go_wp2_with fail
  refine (variable_any kk hk _).mono ?_
  rintro e w5 ⟨rfl, rfl⟩
  rw [hVh.out]
  go_wp2_with fail
  refine (value_any kk hk _).mono ?_
  rintro e w7 ⟨rfl, rfl⟩
  rw [hXh.out]
  obtain ⟨hx1, hx2⟩ := HAth.out _ hS.1.2.2
  have hbz := hS.1.2.2
  go_wp2
  exact bodyPost_ret (v := .agg #[.int .i64 0, .int .i64 0, .int .i64 0, .int .i64 0, .int .i64 0, .int .i64 0, .int .i64 p, .int .i64 2]) (by simp [results, Tryd.results20, go_sem, hR0, hR1, hR2, hR3, hR4, hR5, hR6, hR7]) rfl ⟨rfl, by repeat' (first | (with_reducible exact hbz) | (with_reducible refine Below.setCell ?_ (by simp) _))⟩

set_option maxRecDepth 100000 in
set_option maxHeartbeats 1500000 in
theorem rev_tf_er (b1 o1 m c1 b2 o2 c2 en : Nat) (av : Option Addr) (lh cv : Nat) (w : World) (s : ByteArray) (hb1 : b1 < w.heap.size) (hc1 : w.cell? ⟨b1, o1, none⟩ = some (.string s)) (hm : 0 < m) (h60 : ¬ lh = 60) (kk : Nat) (hk : kk < 10) (HK : RKind s w kk) (ns : List Int) (hns : ns.length ≤ 65536) (HNm : RNames (.slice av lh cv) w ns) (n1 : Int) (HN1 : RNum (.agg #[.slice (some ⟨b1, o1, none⟩) m c1, .slice (some ⟨b2, o2, none⟩) m c2]) w (#[.int .i64 kk, .int .i64 0, .int .i64 0, .int .i64 0, .int .i64 1, .int .i64 0, .int .i64 0, .int .i64 0]) (#[.int .i64 kk, .int .i64 0, .int .i64 0, .int .i64 0, .int .i64 2, .int .i64 n1, .int .i64 0, .int .i64 0]) 0 9999 en) (htm : ((ns.length == 6) && !ns.contains n1) = false) (hV : hasV kk = true) (hX : hasX kk = false) (p2 : Nat) (er2 : Int) (he2 : ¬ er2 = 0) (HN2 : RNum (.agg #[.slice (some ⟨b1, o1, none⟩) m c1, .slice (some ⟨b2, o2, none⟩) m c2]) w (#[.int .i64 kk, .int .i64 n1, .int .i64 0, .int .i64 0, .int .i64 2, .int .i64 n1, .int .i64 0, .int .i64 0]) (#[.int .i64 0, .int .i64 0, .int .i64 0, .int .i64 0, .int .i64 0, .int .i64 0, .int .i64 p2, .int .i64 er2]) 0 7 en) :
    Calls Tryd.prog 20 #[.agg #[.slice (some ⟨b1, o1, none⟩) m c1, .slice (some ⟨b2, o2, none⟩) m c2], .slice av lh cv, .int .i64 en] w fun e w' => e = .returned (.agg #[.int .i64 0, .int .i64 0, .int .i64 0, .int .i64 0, .int .i64 0, .int .i64 0, .int .i64 p2, .int .i64 er2]) ∧ Below w.heap.size w w' := by
  have HKh := Lib.hid HK
  clear HK
  have HNmh := Lib.hid HNm
  clear HNm
  have HN1h := Lib.hid HN1
  clear HN1
  have htmh := Lib.hid htm
  clear htm
  have hVh := Lib.hid hV
  clear hV
  have hXh := Lib.hid hX
  clear hX
  have HN2h := Lib.hid HN2
  clear HN2
  have te2 : ((er2 : Int) == 0) = false := by simpa using he2
  have tf2 : ((er2 : Int) != 0) = true := by simpa using he2
  clear he2
  have hkn : ¬ (kk : Int) < 0 := by omega
  have t60 : ((lh : Int) == 60) = false := by simp; omega
  clear h60
  have hbA : b1 < w.heap.size + 1 := by omega
  have hbB : b1 < w.heap.size + 1 + 1 := by omega
  have hS := Sa.start w #[.slice (some ⟨b1, o1, none⟩) m c1, .slice (some ⟨b2, o2, none⟩) m c2] #[.int .i64 0, .int .i64 0, .int .i64 0, .int .i64 0, .int .i64 0, .int .i64 0, .int .i64 0, .int .i64 0]
  go_enter Tryd.func20, Tryd.ntmps20
  go_wp2_with fail
  generalize (w.alloc (.cells #[.slice (some ⟨b1, o1, none⟩) m c1, .slice (some ⟨b2, o2, none⟩) m c2] 50)).alloc (.cells #[.int .i64 0, .int .i64 0, .int .i64 0, .int .i64 0, .int .i64 0, .int .i64 0, .int .i64 0, .int .i64 0] 53) = w0 at *
  refine (HKh.out _ hS.2.2).mono ?_
  rintro e w1 ⟨rfl, hb'⟩
  have hS := hS.call hb'
  clear hb' hc1 hb1 hbA hbB
  have hA0 := hS.1.cell (i := 0) (v := .slice (some ⟨b1, o1, none⟩) m c1) rfl
  have hA1 := hS.1.cell (i := 1) (v := .slice (some ⟨b2, o2, none⟩) m c2) rfl
  go_wp2_with fail
  clear hA0 hA1
  refine (HN1h.out _ hS.2.2).mono ?_
  rintro e w2 ⟨rfl, hb'⟩
  have hS := hS.call hb'
  clear hb'
  go_wp2_with fail
  have hS := hS.event (#[.int .i64 kk, .int .i64 n1, .int .i64 0, .int .i64 0, .int .i64 2, .int .i64 n1, .int .i64 0, .int .i64 0])
  generalize w2.alloc (.cells #[.int .i64 kk, .int .i64 n1, .int .i64 0, .int .i64 0, .int .i64 2, .int .i64 n1, .int .i64 0, .int .i64 0] 53) = w3 at *
  generalize w2.heap.size = M at *
  refine (HNmh.out _ hS.1.2.2).mono ?_
  rintro e w4 ⟨v', rfl, hy, hb'⟩
  have hS := hS.call hb'
  have HRd := Lib.hid (Rd.of_row hy)
  obtain ⟨ya, yc, rfl⟩ := row_slice hy
  clear hb' hy
  have hE0 : w4.cell? ⟨M, 0, none⟩ = some (.int .i64 kk) := hS.2.1.cell (i := 0) rfl
  have hF0 := hS.2.1.free 0
  have hE1 : w4.cell? ⟨M, 1, none⟩ = some (.int .i64 n1) := hS.2.1.cell (i := 1) rfl
  have hF1 := hS.2.1.free 1
  have hE2 : w4.cell? ⟨M, 2, none⟩ = some (.int .i64 0) := hS.2.1.cell (i := 2) rfl
  have hF2 := hS.2.1.free 2
  have hE3 : w4.cell? ⟨M, 3, none⟩ = some (.int .i64 0) := hS.2.1.cell (i := 3) rfl
  have hF3 := hS.2.1.free 3
  have hE4 : w4.cell? ⟨M, 4, none⟩ = some (.int .i64 2) := hS.2.1.cell (i := 4) rfl
  have hF4 := hS.2.1.free 4
  have hE5 : w4.cell? ⟨M, 5, none⟩ = some (.int .i64 n1) := hS.2.1.cell (i := 5) rfl
  have hF5 := hS.2.1.free 5
  have hE6 : w4.cell? ⟨M, 6, none⟩ = some (.int .i64 0) := hS.2.1.cell (i := 6) rfl
  have hF6 := hS.2.1.free 6
  have hE7 : w4.cell? ⟨M, 7, none⟩ = some (.int .i64 0) := hS.2.1.cell (i := 7) rfl
  have hF7 := hS.2.1.free 7
  have hA0 := hS.1.1.cell (i := 0) (v := .slice (some ⟨b1, o1, none⟩) m c1) rfl
  have hA1 := hS.1.1.cell (i := 1) (v := .slice (some ⟨b2, o2, none⟩) m c2) rfl
  have hR0 := hS.1.2.1.cell (i := 0) rfl
  have hG0 := hS.1.2.1.free 0
  have hR1 := hS.1.2.1.cell (i := 1) rfl
  have hG1 := hS.1.2.1.free 1
  have hR2 := hS.1.2.1.cell (i := 2) rfl
  have hG2 := hS.1.2.1.free 2
  have hR3 := hS.1.2.1.cell (i := 3) rfl
  have hG3 := hS.1.2.1.free 3
  have hR4 := hS.1.2.1.cell (i := 4) rfl
  have hG4 := hS.1.2.1.free 4
  have hR5 := hS.1.2.1.cell (i := 5) rfl
  have hG5 := hS.1.2.1.free 5
  have hR6 := hS.1.2.1.cell (i := 6) rfl
  have hG6 := hS.1.2.1.free 6
  have hR7 := hS.1.2.1.cell (i := 7) rfl
  have hG7 := hS.1.2.1.free 7
  have hMl := hS.2.2
  have hMz := hS.2.1.lt
  go_upto_region 9 with fail
  go_cut [56] (fun c wx => c = .bool false ∧ wx = w4)
  case first =>
    by_cases h6 : ns.length = 6
    · have t6 : ((ns.length : Int) == 6) = true := by simp [h6]
      have hh : Hid ((!ns.contains n1) = false) := by
        have h := htmh.out
        unfold Hid
        rw [← h]
        simp [h6]
      clear h6
      go_wp2_with fail
      refine (has_any _ ns n1 _ HRd.out (by omega)).mono ?_
      rintro e w5 ⟨rfl, rfl⟩
      go_wp2_with fail
      go_meet
      exact ⟨congrArg Value.bool (by have h := hh.out; simpa using h), rfl⟩
    · have t6 : ((ns.length : Int) == 6) = false := by simp; omega
      clear h6
      go_wp2_with fail
      go_meet
      exact ⟨rfl, rfl⟩
  case rest =>
  obtain ⟨rfl, rfl⟩ := hcut
  go_wp2_with fail
  refine (variable_any kk hk _).mono ?_
  rintro e w5 ⟨rfl, rfl⟩
  rw [hVh.out]
  go_wp2_with fail
  refine (HN2h.out _ hS.1.2.2).mono ?_
  rintro e w6 ⟨rfl, hb'⟩
  have hS := hS.call hb'
  clear hb' hMz hA0 hA1 hE0 hF0 hE1 hF1 hE2 hF2 hE3 hF3 hE4 hF4 hE5 hF5 hE6 hF6 hE7 hF7 hR0 hG0 hR1 hG1 hR2 hG2 hR3 hG3 hR4 hG4 hR5 hG5 hR6 hG6 hR7 hG7
  have hE0 := hS.2.1.cell (i := 0) rfl
  have hF0 := hS.2.1.free 0
  have hE1 := hS.2.1.cell (i := 1) rfl
  have hF1 := hS.2.1.free 1
  have hE2 := hS.2.1.cell (i := 2) rfl
  have hF2 := hS.2.1.free 2
  have hE3 := hS.2.1.cell (i := 3) rfl
  have hF3 := hS.2.1.free 3
  have hE4 := hS.2.1.cell (i := 4) rfl
  have hF4 := hS.2.1.free 4
  have hE5 := hS.2.1.cell (i := 5) rfl
  have hF5 := hS.2.1.free 5
  have hE6 := hS.2.1.cell (i := 6) rfl
  have hF6 := hS.2.1.free 6
  have hE7 := hS.2.1.cell (i := 7) rfl
  have hF7 := hS.2.1.free 7
  go_upto_region 14 with fail
  have hS : Sb w (((((((((w6.setCell ⟨M, 0, none⟩ (.int .i64 0)).setCell ⟨M, 1, none⟩ (.int .i64 0)).setCell ⟨M, 2, none⟩ (.int .i64 0)).setCell ⟨M, 3, none⟩ (.int .i64 0)).setCell ⟨M, 4, none⟩ (.int .i64 0)).setCell ⟨M, 5, none⟩ (.int .i64 0)).setCell ⟨M, 6, none⟩ (.int .i64 p2)).setCell ⟨M, 7, none⟩ (.int .i64 er2)).setCell ⟨M, 2, none⟩ (.int .i64 0)) #[.slice (some ⟨b1, o1, none⟩) m c1, .slice (some ⟨b2, o2, none⟩) m c2] #[.int .i64 0, .int .i64 0, .int .i64 0, .int .i64 0, .int .i64 0, .int .i64 0, .int .i64 0, .int .i64 0] (#[.int .i64 0, .int .i64 0, .int .i64 0, .int .i64 0, .int .i64 0, .int .i64 0, .int .i64 p2, .int .i64 er2]) M := ((hS.put8 (.int .i64 0) (.int .i64 0) (.int .i64 0) (.int .i64 0) (.int .i64 0) (.int .i64 0) (.int .i64 p2) (.int .i64 er2)).put2' (.int .i64 0))
  generalize (((((((((w6.setCell ⟨M, 0, none⟩ (.int .i64 0)).setCell ⟨M, 1, none⟩ (.int .i64 0)).setCell ⟨M, 2, none⟩ (.int .i64 0)).setCell ⟨M, 3, none⟩ (.int .i64 0)).setCell ⟨M, 4, none⟩ (.int .i64 0)).setCell ⟨M, 5, none⟩ (.int .i64 0)).setCell ⟨M, 6, none⟩ (.int .i64 p2)).setCell ⟨M, 7, none⟩ (.int .i64 er2)).setCell ⟨M, 2, none⟩ (.int .i64 0)) = w6b at *
  clear hE0 hF0 hE1 hF1 hE2 hF2 hE3 hF3 hE4 hF4 hE5 hF5 hE6 hF6 hE7 hF7
  have hE0 : w6b.cell? ⟨M, 0, none⟩ = some (.int .i64 0) := hS.2.1.cell (i := 0) rfl
  have hF0 := hS.2.1.free 0
  have hE1 : w6b.cell? ⟨M, 1, none⟩ = some (.int .i64 0) := hS.2.1.cell (i := 1) rfl
  have hF1 := hS.2.1.free 1
  have hE2 : w6b.cell? ⟨M, 2, none⟩ = some (.int .i64 0) := hS.2.1.cell (i := 2) rfl
  have hF2 := hS.2.1.free 2
  have hE3 : w6b.cell? ⟨M, 3, none⟩ = some (.int .i64 0) := hS.2.1.cell (i := 3) rfl
  have hF3 := hS.2.1.free 3
  have hE4 : w6b.cell? ⟨M, 4, none⟩ = some (.int .i64 0) := hS.2.1.cell (i := 4) rfl
  have hF4 := hS.2.1.free 4
  have hE5 : w6b.cell? ⟨M, 5, none⟩ = some (.int .i64 0) := hS.2.1.cell (i := 5) rfl
  have hF5 := hS.2.1.free 5
  have hE6 : w6b.cell? ⟨M, 6, none⟩ = some (.int .i64 p2) := hS.2.1.cell (i := 6) rfl
  have hF6 := hS.2.1.free 6
  have hE7 : w6b.cell? ⟨M, 7, none⟩ = some (.int .i64 er2) := hS.2.1.cell (i := 7) rfl
  have hF7 := hS.2.1.free 7
  have hA0 := hS.1.1.cell (i := 0) (v := .slice (some ⟨b1, o1, none⟩) m c1) rfl
  have hA1 := hS.1.1.cell (i := 1) (v := .slice (some ⟨b2, o2, none⟩) m c2) rfl
  have hR0 := hS.1.2.1.cell (i := 0) rfl
  have hG0 := hS.1.2.1.free 0
  have hR1 := hS.1.2.1.cell (i := 1) rfl
  have hG1 := hS.1.2.1.free 1
  have hR2 := hS.1.2.1.cell (i := 2) rfl
  have hG2 := hS.1.2.1.free 2
  have hR3 := hS.1.2.1.cell (i := 3) rfl
  have hG3 := hS.1.2.1.free 3
  have hR4 := hS.1.2.1.cell (i := 4) rfl
  have hG4 := hS.1.2.1.free 4
  have hR5 := hS.1.2.1.cell (i := 5) rfl
  have hG5 := hS.1.2.1.free 5
  have hR6 := hS.1.2.1.cell (i := 6) rfl
  have hG6 := hS.1.2.1.free 6
  have hR7 := hS.1.2.1.cell (i := 7) rfl
  have hG7 := hS.1.2.1.free 7
  have hMz := hS.2.1.lt
  go_wp2_with fail
  refine (value_any kk hk _).mono ?_
  rintro e w7 ⟨rfl, rfl⟩
  rw [hXh.out]
  have hbz := hS.1.2.2
  go_wp2
  exact bodyPost_ret (v := .agg #[.int .i64 0, .int .i64 0, .int .i64 0, .int .i64 0, .int .i64 0, .int .i64 0, .int .i64 p2, .int .i64 er2]) (by simp [results, Tryd.results20, go_sem, hR0, hR1, hR2, hR3, hR4, hR5, hR6, hR7]) rfl ⟨rfl, by repeat' (first | (with_reducible exact hbz) | (with_reducible refine Below.setCell ?_ (by simp) _))⟩

set_option maxRecDepth 100000 in
set_option maxHeartbeats 1500000 in
theorem rev_tf_ok (b1 o1 m c1 b2 o2 c2 en : Nat) (av : Option Addr) (lh cv : Nat) (w : World) (s : ByteArray) (hb1 : b1 < w.heap.size) (hc1 : w.cell? ⟨b1, o1, none⟩ = some (.string s)) (hm : 0 < m) (h60 : ¬ lh = 60) (kk : Nat) (hk : kk < 10) (HK : RKind s w kk) (ns : List Int) (hns : ns.length ≤ 65536) (HNm : RNames (.slice av lh cv) w ns) (n1 : Int) (HN1 : RNum (.agg #[.slice (some ⟨b1, o1, none⟩) m c1, .slice (some ⟨b2, o2, none⟩) m c2]) w (#[.int .i64 kk, .int .i64 0, .int .i64 0, .int .i64 0, .int .i64 1, .int .i64 0, .int .i64 0, .int .i64 0]) (#[.int .i64 kk, .int .i64 0, .int .i64 0, .int .i64 0, .int .i64 2, .int .i64 n1, .int .i64 0, .int .i64 0]) 0 9999 en) (htm : ((ns.length == 6) && !ns.contains n1) = false) (hV : hasV kk = true) (hX : hasX kk = false) (n2 : Int) (HN2 : RNum (.agg #[.slice (some ⟨b1, o1, none⟩) m c1, .slice (some ⟨b2, o2, none⟩) m c2]) w (#[.int .i64 kk, .int .i64 n1, .int .i64 0, .int .i64 0, .int .i64 2, .int .i64 n1, .int .i64 0, .int .i64 0]) (#[.int .i64 kk, .int .i64 n1, .int .i64 0, .int .i64 0, .int .i64 3, .int .i64 n2, .int .i64 0, .int .i64 0]) 0 7 en) (hmore : ¬ 3 < m) :
    Calls Tryd.prog 20 #[.agg #[.slice (some ⟨b1, o1, none⟩) m c1, .slice (some ⟨b2, o2, none⟩) m c2], .slice av lh cv, .int .i64 en] w fun e w' => e = .returned (.agg #[.int .i64 kk, .int .i64 n1, .int .i64 n2, .int .i64 0, .int .i64 3, .int .i64 n2, .int .i64 0, .int .i64 0]) ∧ Below w.heap.size w w' := by
  have HKh := Lib.hid HK
  clear HK
  have HNmh := Lib.hid HNm
  clear HNm
  have HN1h := Lib.hid HN1
  clear HN1
  have htmh := Lib.hid htm
  clear htm
  have hVh := Lib.hid hV
  clear hV
  have hXh := Lib.hid hX
  clear hX
  have HN2h := Lib.hid HN2
  clear HN2
  have tmo : decide ((3 : Int) < (m : Int)) = false := by simp; omega
  have tmo2 : decide (3 < m) = false := by simp; omega
  have hkn : ¬ (kk : Int) < 0 := by omega
  have t60 : ((lh : Int) == 60) = false := by simp; omega
  clear h60
  have hbA : b1 < w.heap.size + 1 := by omega
  have hbB : b1 < w.heap.size + 1 + 1 := by omega
  have hS := Sa.start w #[.slice (some ⟨b1, o1, none⟩) m c1, .slice (some ⟨b2, o2, none⟩) m c2] #[.int .i64 0, .int .i64 0, .int .i64 0, .int .i64 0, .int .i64 0, .int .i64 0, .int .i64 0, .int .i64 0]
  go_enter Tryd.func20, Tryd.ntmps20
  go_wp2_with fail
  generalize (w.alloc (.cells #[.slice (some ⟨b1, o1, none⟩) m c1, .slice (some ⟨b2, o2, none⟩) m c2] 50)).alloc (.cells #[.int .i64 0, .int .i64 0, .int .i64 0, .int .i64 0, .int .i64 0, .int .i64 0, .int .i64 0, .int .i64 0] 53) = w0 at *
  refine (HKh.out _ hS.2.2).mono ?_
  rintro e w1 ⟨rfl, hb'⟩
  have hS := hS.call hb'
  clear hb' hc1 hb1 hbA hbB
  have hA0 := hS.1.cell (i := 0) (v := .slice (some ⟨b1, o1, none⟩) m c1) rfl
  have hA1 := hS.1.cell (i := 1) (v := .slice (some ⟨b2, o2, none⟩) m c2) rfl
  go_wp2_with fail
  clear hA0 hA1
  refine (HN1h.out _ hS.2.2).mono ?_
  rintro e w2 ⟨rfl, hb'⟩
  have hS := hS.call hb'
  clear hb'
  go_wp2_with fail
  have hS := hS.event (#[.int .i64 kk, .int .i64 n1, .int .i64 0, .int .i64 0, .int .i64 2, .int .i64 n1, .int .i64 0, .int .i64 0])
  generalize w2.alloc (.cells #[.int .i64 kk, .int .i64 n1, .int .i64 0, .int .i64 0, .int .i64 2, .int .i64 n1, .int .i64 0, .int .i64 0] 53) = w3 at *
  generalize w2.heap.size = M at *
  refine (HNmh.out _ hS.1.2.2).mono ?_
  rintro e w4 ⟨v', rfl, hy, hb'⟩
  have hS := hS.call hb'
  have HRd := Lib.hid (Rd.of_row hy)
  obtain ⟨ya, yc, rfl⟩ := row_slice hy
  clear hb' hy
  have hE0 : w4.cell? ⟨M, 0, none⟩ = some (.int .i64 kk) := hS.2.1.cell (i := 0) rfl
  have hF0 := hS.2.1.free 0
  have hE1 : w4.cell? ⟨M, 1, none⟩ = some (.int .i64 n1) := hS.2.1.cell (i := 1) rfl
  have hF1 := hS.2.1.free 1
  have hE2 : w4.cell? ⟨M, 2, none⟩ = some (.int .i64 0) := hS.2.1.cell (i := 2) rfl
  have hF2 := hS.2.1.free 2
  have hE3 : w4.cell? ⟨M, 3, none⟩ = some (.int .i64 0) := hS.2.1.cell (i := 3) rfl
  have hF3 := hS.2.1.free 3
  have hE4 : w4.cell? ⟨M, 4, none⟩ = some (.int .i64 2) := hS.2.1.cell (i := 4) rfl
  have hF4 := hS.2.1.free 4
  have hE5 : w4.cell? ⟨M, 5, none⟩ = some (.int .i64 n1) := hS.2.1.cell (i := 5) rfl
  have hF5 := hS.2.1.free 5
  have hE6 : w4.cell? ⟨M, 6, none⟩ = some (.int .i64 0) := hS.2.1.cell (i := 6) rfl
  have hF6 := hS.2.1.free 6
  have hE7 : w4.cell? ⟨M, 7, none⟩ = some (.int .i64 0) := hS.2.1.cell (i := 7) rfl
  have hF7 := hS.2.1.free 7
  have hA0 := hS.1.1.cell (i := 0) (v := .slice (some ⟨b1, o1, none⟩) m c1) rfl
  have hA1 := hS.1.1.cell (i := 1) (v := .slice (some ⟨b2, o2, none⟩) m c2) rfl
  have hR0 := hS.1.2.1.cell (i := 0) rfl
  have hG0 := hS.1.2.1.free 0
  have hR1 := hS.1.2.1.cell (i := 1) rfl
  have hG1 := hS.1.2.1.free 1
  have hR2 := hS.1.2.1.cell (i := 2) rfl
  have hG2 := hS.1.2.1.free 2
  have hR3 := hS.1.2.1.cell (i := 3) rfl
  have hG3 := hS.1.2.1.free 3
  have hR4 := hS.1.2.1.cell (i := 4) rfl
  have hG4 := hS.1.2.1.free 4
  have hR5 := hS.1.2.1.cell (i := 5) rfl
  have hG5 := hS.1.2.1.free 5
  have hR6 := hS.1.2.1.cell (i := 6) rfl
  have hG6 := hS.1.2.1.free 6
  have hR7 := hS.1.2.1.cell (i := 7) rfl
  have hG7 := hS.1.2.1.free 7
  have hMl := hS.2.2
  have hMz := hS.2.1.lt
  go_upto_region 9 with fail
  go_cut [56] (fun c wx => c = .bool false ∧ wx = w4)
  case first =>
    by_cases h6 : ns.length = 6
    · have t6 : ((ns.length : Int) == 6) = true := by simp [h6]
      have hh : Hid ((!ns.contains n1) = false) := by
        have h := htmh.out
        unfold Hid
        rw [← h]
        simp [h6]
      clear h6
      go_wp2_with fail
      refine (has_any _ ns n1 _ HRd.out (by omega)).mono ?_
      rintro e w5 ⟨rfl, rfl⟩
      go_wp2_with fail
      go_meet
      exact ⟨congrArg Value.bool (by have h := hh.out; simpa using h), rfl⟩
    · have t6 : ((ns.length : Int) == 6) = false := by simp; omega
      clear h6
      go_wp2_with fail
      go_meet
      exact ⟨rfl, rfl⟩
  case rest =>
  obtain ⟨rfl, rfl⟩ := hcut
  go_wp2_with fail
  refine (variable_any kk hk _).mono ?_
  rintro e w5 ⟨rfl, rfl⟩
  rw [hVh.out]
  go_wp2_with fail
  refine (HN2h.out _ hS.1.2.2).mono ?_
  rintro e w6 ⟨rfl, hb'⟩
  have hS := hS.call hb'
  clear hb' hMz hA0 hA1 hE0 hF0 hE1 hF1 hE2 hF2 hE3 hF3 hE4 hF4 hE5 hF5 hE6 hF6 hE7 hF7 hR0 hG0 hR1 hG1 hR2 hG2 hR3 hG3 hR4 hG4 hR5 hG5 hR6 hG6 hR7 hG7
  have hE0 := hS.2.1.cell (i := 0) rfl
  have hF0 := hS.2.1.free 0
  have hE1 := hS.2.1.cell (i := 1) rfl
  have hF1 := hS.2.1.free 1
  have hE2 := hS.2.1.cell (i := 2) rfl
  have hF2 := hS.2.1.free 2
  have hE3 := hS.2.1.cell (i := 3) rfl
  have hF3 := hS.2.1.free 3
  have hE4 := hS.2.1.cell (i := 4) rfl
  have hF4 := hS.2.1.free 4
  have hE5 := hS.2.1.cell (i := 5) rfl
  have hF5 := hS.2.1.free 5
  have hE6 := hS.2.1.cell (i := 6) rfl
  have hF6 := hS.2.1.free 6
  have hE7 := hS.2.1.cell (i := 7) rfl
  have hF7 := hS.2.1.free 7
  go_upto_region 14 with fail
  have hS : Sb w (((((((((w6.setCell ⟨M, 0, none⟩ (.int .i64 kk)).setCell ⟨M, 1, none⟩ (.int .i64 n1)).setCell ⟨M, 2, none⟩ (.int .i64 0)).setCell ⟨M, 3, none⟩ (.int .i64 0)).setCell ⟨M, 4, none⟩ (.int .i64 3)).setCell ⟨M, 5, none⟩ (.int .i64 n2)).setCell ⟨M, 6, none⟩ (.int .i64 0)).setCell ⟨M, 7, none⟩ (.int .i64 0)).setCell ⟨M, 2, none⟩ (.int .i64 n2)) #[.slice (some ⟨b1, o1, none⟩) m c1, .slice (some ⟨b2, o2, none⟩) m c2] #[.int .i64 0, .int .i64 0, .int .i64 0, .int .i64 0, .int .i64 0, .int .i64 0, .int .i64 0, .int .i64 0] (#[.int .i64 kk, .int .i64 n1, .int .i64 n2, .int .i64 0, .int .i64 3, .int .i64 n2, .int .i64 0, .int .i64 0]) M := ((hS.put8 (.int .i64 kk) (.int .i64 n1) (.int .i64 0) (.int .i64 0) (.int .i64 3) (.int .i64 n2) (.int .i64 0) (.int .i64 0)).put2' (.int .i64 n2))
  generalize (((((((((w6.setCell ⟨M, 0, none⟩ (.int .i64 kk)).setCell ⟨M, 1, none⟩ (.int .i64 n1)).setCell ⟨M, 2, none⟩ (.int .i64 0)).setCell ⟨M, 3, none⟩ (.int .i64 0)).setCell ⟨M, 4, none⟩ (.int .i64 3)).setCell ⟨M, 5, none⟩ (.int .i64 n2)).setCell ⟨M, 6, none⟩ (.int .i64 0)).setCell ⟨M, 7, none⟩ (.int .i64 0)).setCell ⟨M, 2, none⟩ (.int .i64 n2)) = w6b at *
  clear hE0 hF0 hE1 hF1 hE2 hF2 hE3 hF3 hE4 hF4 hE5 hF5 hE6 hF6 hE7 hF7
  have hE0 : w6b.cell? ⟨M, 0, none⟩ = some (.int .i64 kk) := hS.2.1.cell (i := 0) rfl
  have hF0 := hS.2.1.free 0
  have hE1 : w6b.cell? ⟨M, 1, none⟩ = some (.int .i64 n1) := hS.2.1.cell (i := 1) rfl
  have hF1 := hS.2.1.free 1
  have hE2 : w6b.cell? ⟨M, 2, none⟩ = some (.int .i64 n2) := hS.2.1.cell (i := 2) rfl
  have hF2 := hS.2.1.free 2
  have hE3 : w6b.cell? ⟨M, 3, none⟩ = some (.int .i64 0) := hS.2.1.cell (i := 3) rfl
  have hF3 := hS.2.1.free 3
  have hE4 : w6b.cell? ⟨M, 4, none⟩ = some (.int .i64 3) := hS.2.1.cell (i := 4) rfl
  have hF4 := hS.2.1.free 4
  have hE5 : w6b.cell? ⟨M, 5, none⟩ = some (.int .i64 n2) := hS.2.1.cell (i := 5) rfl
  have hF5 := hS.2.1.free 5
  have hE6 : w6b.cell? ⟨M, 6, none⟩ = some (.int .i64 0) := hS.2.1.cell (i := 6) rfl
  have hF6 := hS.2.1.free 6
  have hE7 : w6b.cell? ⟨M, 7, none⟩ = some (.int .i64 0) := hS.2.1.cell (i := 7) rfl
  have hF7 := hS.2.1.free 7
  have hA0 := hS.1.1.cell (i := 0) (v := .slice (some ⟨b1, o1, none⟩) m c1) rfl
  have hA1 := hS.1.1.cell (i := 1) (v := .slice (some ⟨b2, o2, none⟩) m c2) rfl
  have hR0 := hS.1.2.1.cell (i := 0) rfl
  have hG0 := hS.1.2.1.free 0
  have hR1 := hS.1.2.1.cell (i := 1) rfl
  have hG1 := hS.1.2.1.free 1
  have hR2 := hS.1.2.1.cell (i := 2) rfl
  have hG2 := hS.1.2.1.free 2
  have hR3 := hS.1.2.1.cell (i := 3) rfl
  have hG3 := hS.1.2.1.free 3
  have hR4 := hS.1.2.1.cell (i := 4) rfl
  have hG4 := hS.1.2.1.free 4
  have hR5 := hS.1.2.1.cell (i := 5) rfl
  have hG5 := hS.1.2.1.free 5
  have hR6 := hS.1.2.1.cell (i := 6) rfl
  have hG6 := hS.1.2.1.free 6
  have hR7 := hS.1.2.1.cell (i := 7) rfl
  have hG7 := hS.1.2.1.free 7
  have hMz := hS.2.1.lt
  go_wp2_with fail
  refine (value_any kk hk _).mono ?_
  rintro e w7 ⟨rfl, rfl⟩
  rw [hXh.out]
  have hbz := hS.1.2.2
  go_wp2
  exact bodyPost_ret (v := .agg #[.int .i64 kk, .int .i64 n1, .int .i64 n2, .int .i64 0, .int .i64 3, .int .i64 n2, .int .i64 0, .int .i64 0]) (by simp [results, Tryd.results20, go_sem, hR0, hR1, hR2, hR3, hR4, hR5, hR6, hR7]) rfl ⟨rfl, by repeat' (first | (with_reducible exact hbz) | (with_reducible refine Below.setCell ?_ (by simp) _))⟩

set_option maxRecDepth 100000 in
set_option maxHeartbeats 1500000 in
theorem rev_tf_more (b1 o1 m c1 b2 o2 c2 en : Nat) (av : Option Addr) (lh cv : Nat) (w : World) (s : ByteArray) (hb1 : b1 < w.heap.size) (hc1 : w.cell? ⟨b1, o1, none⟩ = some (.string s)) (hm : 0 < m) (h60 : ¬ lh = 60) (kk : Nat) (hk : kk < 10) (HK : RKind s w kk) (ns : List Int) (hns : ns.length ≤ 65536) (HNm : RNames (.slice av lh cv) w ns) (n1 : Int) (HN1 : RNum (.agg #[.slice (some ⟨b1, o1, none⟩) m c1, .slice (some ⟨b2, o2, none⟩) m c2]) w (#[.int .i64 kk, .int .i64 0, .int .i64 0, .int .i64 0, .int .i64 1, .int .i64 0, .int .i64 0, .int .i64 0]) (#[.int .i64 kk, .int .i64 0, .int .i64 0, .int .i64 0, .int .i64 2, .int .i64 n1, .int .i64 0, .int .i64 0]) 0 9999 en) (htm : ((ns.length == 6) && !ns.contains n1) = false) (hV : hasV kk = true) (hX : hasX kk = false) (n2 : Int) (HN2 : RNum (.agg #[.slice (some ⟨b1, o1, none⟩) m c1, .slice (some ⟨b2, o2, none⟩) m c2]) w (#[.int .i64 kk, .int .i64 n1, .int .i64 0, .int .i64 0, .int .i64 2, .int .i64 n1, .int .i64 0, .int .i64 0]) (#[.int .i64 kk, .int .i64 n1, .int .i64 0, .int .i64 0, .int .i64 3, .int .i64 n2, .int .i64 0, .int .i64 0]) 0 7 en) (hmore : 3 < m) (p : Nat) (HAt : RAt w b2 (o2 + 3) p) :
    Calls Tryd.prog 20 #[.agg #[.slice (some ⟨b1, o1, none⟩) m c1, .slice (some ⟨b2, o2, none⟩) m c2], .slice av lh cv, .int .i64 en] w fun e w' => e = .returned (.agg #[.int .i64 0, .int .i64 0, .int .i64 0, .int .i64 0, .int .i64 0, .int .i64 0, .int .i64 p, .int .i64 2]) ∧ Below w.heap.size w w' := by
  have HKh := Lib.hid HK
  clear HK
  have HNmh := Lib.hid HNm
  clear HNm
  have HN1h := Lib.hid HN1
  clear HN1
  have htmh := Lib.hid htm
  clear htm
  have hVh := Lib.hid hV
  clear hV
  have hXh := Lib.hid hX
  clear hX
  have HN2h := Lib.hid HN2
  clear HN2
  have HAth := Lib.hid HAt
  clear HAt
  have tmo : (3 : Int) < (m : Int) := by omega
  have hkn : ¬ (kk : Int) < 0 := by omega
  have t60 : ((lh : Int) == 60) = false := by simp; omega
  clear h60
  have hbA : b1 < w.heap.size + 1 := by omega
  have hbB : b1 < w.heap.size + 1 + 1 := by omega
  have hS := Sa.start w #[.slice (some ⟨b1, o1, none⟩) m c1, .slice (some ⟨b2, o2, none⟩) m c2] #[.int .i64 0, .int .i64 0, .int .i64 0, .int .i64 0, .int .i64 0, .int .i64 0, .int .i64 0, .int .i64 0]
  go_enter Tryd.func20, Tryd.ntmps20
  go_wp2_with fail
  generalize (w.alloc (.cells #[.slice (some ⟨b1, o1, none⟩) m c1, .slice (some ⟨b2, o2, none⟩) m c2] 50)).alloc (.cells #[.int .i64 0, .int .i64 0, .int .i64 0, .int .i64 0, .int .i64 0, .int .i64 0, .int .i64 0, .int .i64 0] 53) = w0 at *
  refine (HKh.out _ hS.2.2).mono ?_
  rintro e w1 ⟨rfl, hb'⟩
  have hS := hS.call hb'
  clear hb' hc1 hb1 hbA hbB
  have hA0 := hS.1.cell (i := 0) (v := .slice (some ⟨b1, o1, none⟩) m c1) rfl
  have hA1 := hS.1.cell (i := 1) (v := .slice (some ⟨b2, o2, none⟩) m c2) rfl
  go_wp2_with fail
  clear hA0 hA1
  refine (HN1h.out _ hS.2.2).mono ?_
  rintro e w2 ⟨rfl, hb'⟩
  have hS := hS.call hb'
  clear hb'
  go_wp2_with fail
  have hS := hS.event (#[.int .i64 kk, .int .i64 n1, .int .i64 0, .int .i64 0, .int .i64 2, .int .i64 n1, .int .i64 0, .int .i64 0])
  generalize w2.alloc (.cells #[.int .i64 kk, .int .i64 n1, .int .i64 0, .int .i64 0, .int .i64 2, .int .i64 n1, .int .i64 0, .int .i64 0] 53) = w3 at *
  generalize w2.heap.size = M at *
  refine (HNmh.out _ hS.1.2.2).mono ?_
  rintro e w4 ⟨v', rfl, hy, hb'⟩
  have hS := hS.call hb'
  have HRd := Lib.hid (Rd.of_row hy)
  obtain ⟨ya, yc, rfl⟩ := row_slice hy
  clear hb' hy
  have hE0 : w4.cell? ⟨M, 0, none⟩ = some (.int .i64 kk) := hS.2.1.cell (i := 0) rfl
  have hF0 := hS.2.1.free 0
  have hE1 : w4.cell? ⟨M, 1, none⟩ = some (.int .i64 n1) := hS.2.1.cell (i := 1) rfl
  have hF1 := hS.2.1.free 1
  have hE2 : w4.cell? ⟨M, 2, none⟩ = some (.int .i64 0) := hS.2.1.cell (i := 2) rfl
  have hF2 := hS.2.1.free 2
  have hE3 : w4.cell? ⟨M, 3, none⟩ = some (.int .i64 0) := hS.2.1.cell (i := 3) rfl
  have hF3 := hS.2.1.free 3
  have hE4 : w4.cell? ⟨M, 4, none⟩ = some (.int .i64 2) := hS.2.1.cell (i := 4) rfl
  have hF4 := hS.2.1.free 4
  have hE5 : w4.cell? ⟨M, 5, none⟩ = some (.int .i64 n1) := hS.2.1.cell (i := 5) rfl
  have hF5 := hS.2.1.free 5
  have hE6 : w4.cell? ⟨M, 6, none⟩ = some (.int .i64 0) := hS.2.1.cell (i := 6) rfl
  have hF6 := hS.2.1.free 6
  have hE7 : w4.cell? ⟨M, 7, none⟩ = some (.int .i64 0) := hS.2.1.cell (i := 7) rfl
  have hF7 := hS.2.1.free 7
  have hA0 := hS.1.1.cell (i := 0) (v := .slice (some ⟨b1, o1, none⟩) m c1) rfl
  have hA1 := hS.1.1.cell (i := 1) (v := .slice (some ⟨b2, o2, none⟩) m c2) rfl
  have hR0 := hS.1.2.1.cell (i := 0) rfl
  have hG0 := hS.1.2.1.free 0
  have hR1 := hS.1.2.1.cell (i := 1) rfl
  have hG1 := hS.1.2.1.free 1
  have hR2 := hS.1.2.1.cell (i := 2) rfl
  have hG2 := hS.1.2.1.free 2
  have hR3 := hS.1.2.1.cell (i := 3) rfl
  have hG3 := hS.1.2.1.free 3
  have hR4 := hS.1.2.1.cell (i := 4) rfl
  have hG4 := hS.1.2.1.free 4
  have hR5 := hS.1.2.1.cell (i := 5) rfl
  have hG5 := hS.1.2.1.free 5
  have hR6 := hS.1.2.1.cell (i := 6) rfl
  have hG6 := hS.1.2.1.free 6
  have hR7 := hS.1.2.1.cell (i := 7) rfl
  have hG7 := hS.1.2.1.free 7
  have hMl := hS.2.2
  have hMz := hS.2.1.lt
  go_upto_region 9 with fail
  go_cut [56] (fun c wx => c = .bool false ∧ wx = w4)
  case first =>
    by_cases h6 : ns.length = 6
    · have t6 : ((ns.length : Int) == 6) = true := by simp [h6]
      have hh : Hid ((!ns.contains n1) = false) := by
        have h := htmh.out
        unfold Hid
        rw [← h]
        simp [h6]
      clear h6
      go_wp2_with fail
      refine (has_any _ ns n1 _ HRd.out (by omega)).mono ?_
      rintro e w5 ⟨rfl, rfl⟩
      go_wp2_with fail
      go_meet
      exact ⟨congrArg Value.bool (by have h := hh.out; simpa using h), rfl⟩
    · have t6 : ((ns.length : Int) == 6) = false := by simp; omega
      clear h6
      go_wp2_with fail
      go_meet
      exact ⟨rfl, rfl⟩
  case rest =>
  obtain ⟨rfl, rfl⟩ := hcut
  go_wp2_with fail
  refine (variable_any kk hk _).mono ?_
  rintro e w5 ⟨rfl, rfl⟩
  rw [hVh.out]
  go_wp2_with fail
  refine (HN2h.out _ hS.1.2.2).mono ?_
  rintro e w6 ⟨rfl, hb'⟩
  have hS := hS.call hb'
  clear hb' hMz hA0 hA1 hE0 hF0 hE1 hF1 hE2 hF2 hE3 hF3 hE4 hF4 hE5 hF5 hE6 hF6 hE7 hF7 hR0 hG0 hR1 hG1 hR2 hG2 hR3 hG3 hR4 hG4 hR5 hG5 hR6 hG6 hR7 hG7
  have hE0 := hS.2.1.cell (i := 0) rfl
  have hF0 := hS.2.1.free 0
  have hE1 := hS.2.1.cell (i := 1) rfl
  have hF1 := hS.2.1.free 1
  have hE2 := hS.2.1.cell (i := 2) rfl
  have hF2 := hS.2.1.free 2
  have hE3 := hS.2.1.cell (i := 3) rfl
  have hF3 := hS.2.1.free 3
  have hE4 := hS.2.1.cell (i := 4) rfl
  have hF4 := hS.2.1.free 4
  have hE5 := hS.2.1.cell (i := 5) rfl
  have hF5 := hS.2.1.free 5
  have hE6 := hS.2.1.cell (i := 6) rfl
  have hF6 := hS.2.1.free 6
  have hE7 := hS.2.1.cell (i := 7) rfl
  have hF7 := hS.2.1.free 7
  go_upto_region 14 with fail
  have hS : Sb w (((((((((w6.setCell ⟨M, 0, none⟩ (.int .i64 kk)).setCell ⟨M, 1, none⟩ (.int .i64 n1)).setCell ⟨M, 2, none⟩ (.int .i64 0)).setCell ⟨M, 3, none⟩ (.int .i64 0)).setCell ⟨M, 4, none⟩ (.int .i64 3)).setCell ⟨M, 5, none⟩ (.int .i64 n2)).setCell ⟨M, 6, none⟩ (.int .i64 0)).setCell ⟨M, 7, none⟩ (.int .i64 0)).setCell ⟨M, 2, none⟩ (.int .i64 n2)) #[.slice (some ⟨b1, o1, none⟩) m c1, .slice (some ⟨b2, o2, none⟩) m c2] #[.int .i64 0, .int .i64 0, .int .i64 0, .int .i64 0, .int .i64 0, .int .i64 0, .int .i64 0, .int .i64 0] (#[.int .i64 kk, .int .i64 n1, .int .i64 n2, .int .i64 0, .int .i64 3, .int .i64 n2, .int .i64 0, .int .i64 0]) M := ((hS.put8 (.int .i64 kk) (.int .i64 n1) (.int .i64 0) (.int .i64 0) (.int .i64 3) (.int .i64 n2) (.int .i64 0) (.int .i64 0)).put2' (.int .i64 n2))
  generalize (((((((((w6.setCell ⟨M, 0, none⟩ (.int .i64 kk)).setCell ⟨M, 1, none⟩ (.int .i64 n1)).setCell ⟨M, 2, none⟩ (.int .i64 0)).setCell ⟨M, 3, none⟩ (.int .i64 0)).setCell ⟨M, 4, none⟩ (.int .i64 3)).setCell ⟨M, 5, none⟩ (.int .i64 n2)).setCell ⟨M, 6, none⟩ (.int .i64 0)).setCell ⟨M, 7, none⟩ (.int .i64 0)).setCell ⟨M, 2, none⟩ (.int .i64 n2)) = w6b at *
  clear hE0 hF0 hE1 hF1 hE2 hF2 hE3 hF3 hE4 hF4 hE5 hF5 hE6 hF6 hE7 hF7
  have hE0 : w6b.cell? ⟨M, 0, none⟩ = some (.int .i64 kk) := hS.2.1.cell (i := 0) rfl
  have hF0 := hS.2.1.free 0
  have hE1 : w6b.cell? ⟨M, 1, none⟩ = some (.int .i64 n1) := hS.2.1.cell (i := 1) rfl
  have hF1 := hS.2.1.free 1
  have hE2 : w6b.cell? ⟨M, 2, none⟩ = some (.int .i64 n2) := hS.2.1.cell (i := 2) rfl
  have hF2 := hS.2.1.free 2
  have hE3 : w6b.cell? ⟨M, 3, none⟩ = some (.int .i64 0) := hS.2.1.cell (i := 3) rfl
  have hF3 := hS.2.1.free 3
  have hE4 : w6b.cell? ⟨M, 4, none⟩ = some (.int .i64 3) := hS.2.1.cell (i := 4) rfl
  have hF4 := hS.2.1.free 4
  have hE5 : w6b.cell? ⟨M, 5, none⟩ = some (.int .i64 n2) := hS.2.1.cell (i := 5) rfl
  have hF5 := hS.2.1.free 5
  have hE6 : w6b.cell? ⟨M, 6, none⟩ = some (.int .i64 0) := hS.2.1.cell (i := 6) rfl
  have hF6 := hS.2.1.free 6
  have hE7 : w6b.cell? ⟨M, 7, none⟩ = some (.int .i64 0) := hS.2.1.cell (i := 7) rfl
  have hF7 := hS.2.1.free 7
  have hA0 := hS.1.1.cell (i := 0) (v := .slice (some ⟨b1, o1, none⟩) m c1) rfl
  have hA1 := hS.1.1.cell (i := 1) (v := .slice (some ⟨b2, o2, none⟩) m c2) rfl
  have hR0 := hS.1.2.1.cell (i := 0) rfl
  have hG0 := hS.1.2.1.free 0
  have hR1 := hS.1.2.1.cell (i := 1) rfl
  have hG1 := hS.1.2.1.free 1
  have hR2 := hS.1.2.1.cell (i := 2) rfl
  have hG2 := hS.1.2.1.free 2
  have hR3 := hS.1.2.1.cell (i := 3) rfl
  have hG3 := hS.1.2.1.free 3
  have hR4 := hS.1.2.1.cell (i := 4) rfl
  have hG4 := hS.1.2.1.free 4
  have hR5 := hS.1.2.1.cell (i := 5) rfl
  have hG5 := hS.1.2.1.free 5
  have hR6 := hS.1.2.1.cell (i := 6) rfl
  have hG6 := hS.1.2.1.free 6
  have hR7 := hS.1.2.1.cell (i := 7) rfl
  have hG7 := hS.1.2.1.free 7
  have hMz := hS.2.1.lt
  go_wp2_with fail
  refine (value_any kk hk _).mono ?_
  rintro e w7 ⟨rfl, rfl⟩
  rw [hXh.out]
  obtain ⟨hx1, hx2⟩ := HAth.out _ hS.1.2.2
  have hbz := hS.1.2.2
  go_wp2
  exact bodyPost_ret (v := .agg #[.int .i64 0, .int .i64 0, .int .i64 0, .int .i64 0, .int .i64 0, .int .i64 0, .int .i64 p, .int .i64 2]) (by simp [results, Tryd.results20, go_sem, hR0, hR1, hR2, hR3, hR4, hR5, hR6, hR7]) rfl ⟨rfl, by repeat' (first | (with_reducible exact hbz) | (with_reducible refine Below.setCell ?_ (by simp) _))⟩

end Go.Proofs.YtnbecfgoambbpaaDoor
