/- Merged: GphJ, GphK. -/
import Derived.Test.YtmnblljenobofaaGreatDoorMg17
/- The walk of package graph's putRead. (Written by gen_gphJ.py.) -/
namespace Go.Proofs.YtmnblljenobofaaGreatDoor.WPlain
end Go.Proofs.YtmnblljenobofaaGreatDoor.WPlain
namespace Go.Proofs.YtmnblljenobofaaGreatDoor.QPlain
end Go.Proofs.YtmnblljenobofaaGreatDoor.QPlain
namespace Go.Proofs.YtmnblljenobofaaGreatDoor.RPlain
end Go.Proofs.YtmnblljenobofaaGreatDoor.RPlain
namespace Go.Proofs.YtmnblljenobofaaGreatDoor.RPlain
open WPlain QPlain

/-- the graph, as far as a read's other writers are put -/
def sdA (l : List Tx) (c : Nat) (row : List Nat) (t : Nat) (s v : Int) (A : List Nat) (k : Nat) : List Nat := ((List.range k).flatMap (sideE l c row t s v)).foldl putGe A
theorem sdA_next (l : List Tx) (c : Nat) (row : List Nat) (t : Nat) (s v : Int) (A : List Nat) (k : Nat) : sdA l c row t s v A (k + 1) = (sideE l c row t s v k).foldl putGe (sdA l c row t s v A k) := by
  unfold sdA
  rw [← List.foldl_append]
  congr 1
  rw [List.range_succ, List.flatMap_append]
  simp
theorem sdA_len (l : List Tx) (c : Nat) (row : List Nat) (t : Nat) (s v : Int) (A : List Nat) (k : Nat) : (sdA l c row t s v A k).length = A.length := puts_len _ _
theorem sdA_fit {l : List Tx} (h6 : l.length ≤ 6) (c : Nat) (row : List Nat) {t : Nat} {s : Int} (v : Int) {A : List Nat} {k : Nat} (ht : t < l.length) (hs : s.toNat < l.length) (hk : k ≤ l.length) (hA : Fit32 A) : Fit32 (sdA l c row t s v A k) := by
  refine puts_fit h6 _ _ (fun p hp => ?_) hA
  obtain ⟨x, hx, hp⟩ := List.mem_flatMap.1 hp
  exact (side_lt ht hs (by have := List.mem_range.1 hx; omega) p hp).2
theorem read_first (l : List Tx) (c : Nat) (row : List Nat) (t : Nat) (v : Int) (A : List Nat) : (readE l c row t (-1) v).foldl putGe A = sdA l c row t (-1) v A l.length := by
  unfold readE sdA headE
  rw [if_pos rfl, List.nil_append]
theorem read_other (l : List Tx) (c : Nat) (row : List Nat) (t j : Nat) (v : Int) (A : List Nat) : (readE l c row t (j : Int) v).foldl putGe A = sdA l c row t (j : Int) v (putGe A (j, t)) l.length := by
  unfold readE sdA headE
  rw [if_neg (by omega), Int.toNat_natCast, List.foldl_append]
  rfl
theorem side_self (l : List Tx) (c : Nat) (row : List Nat) (t : Nat) (s v : Int) : sideE l c row t s v t = [] := by unfold sideE; rw [if_pos (.inl (.inl rfl))]
theorem side_src (l : List Tx) (c : Nat) (row : List Nat) (t : Nat) (v : Int) (k : Nat) : sideE l c row t (k : Int) v k = [] := by unfold sideE; rw [if_pos (.inl (.inr rfl))]
theorem side_not {l : List Tx} {c : Nat} (row : List Nat) (t : Nat) (s : Int) {v : Int} {k : Nat} (h : wrt l c k v = false) : sideE l c row t s v k = [] := by unfold sideE; rw [if_pos (.inr h)]
theorem side_first {l : List Tx} {c : Nat} (row : List Nat) {t : Nat} {v : Int} {k : Nat} (hk : k ≠ t) (h : wrt l c k v = true) : sideE l c row t (-1) v k = [(t, k)] := by
  unfold sideE
  rw [if_neg (by rw [h]; simp [hk]), if_pos (.inl rfl)]
theorem side_ahead {l : List Tx} {c : Nat} {row : List Nat} {t j : Nat} {v : Int} {k : Nat} (hk : k ≠ t) (hj : k ≠ j) (h : wrt l c k v = true) (ha : aheadB j k row = true) : sideE l c row t (j : Int) v k = [(t, k)] := by
  unfold sideE
  rw [if_neg (by rw [h]; simp [hk]; omega), if_pos (.inr (by rw [Int.toNat_natCast]; exact ha))]
theorem side_behind {l : List Tx} {c : Nat} {row : List Nat} {t j : Nat} {v : Int} {k : Nat} (hk : k ≠ t) (hj : k ≠ j) (h : wrt l c k v = true) (ha : aheadB j k row = false) : sideE l c row t (j : Int) v k = [(k, j)] := by
  unfold sideE
  rw [if_neg (by rw [h]; simp [hk]; omega), if_neg (fun hc => hc.elim (fun h => by omega) (fun h => by rw [Int.toNat_natCast, ha] at h; cases h)), Int.toNat_natCast]
end Go.Proofs.YtmnblljenobofaaGreatDoor.RPlain
namespace Go.Proofs.YtmnblljenobofaaGreatDoor
open Go.RowKit WPlain QPlain RPlain

theorem wholeR_len {l : List Tx} {rn : List Nat} (hw : Whole l rn) : rn.length = l.length := by
  have h1 : rn.Perm (List.range l.length) := (List.perm_ext_iff_of_nodup hw.nodup List.nodup_range).2 (fun a => by rw [hw.mem a, List.mem_range])
  rw [h1.length_eq, List.length_range]
set_option maxRecDepth 100000 in
set_option maxHeartbeats 8000000 in
theorem putFirst_walk (ta sa : Option Addr) (ln tc sn sc cm : Nat) (l : List Tx) (hln : l.length = ln) (rn : List Nat) (hw : Whole l rn) (ra : Option Addr) (rc M PA PR t : Nat) (v : Int) (A : List Nat) (hA : A.length = ln) (hfit : Fit32 A) (ht : t < ln) (hf : Fine l) (hcm : cm < 4294967296)
    (wt : World) (hv : Txs wt (.slice ta ln tc) l) (_hr : Rd wt (.slice ra ln rc) (ints (rn.map (fun x : Nat => (x : Int))))) (w : World) (hB : Below wt.heap.size wt w) (hMt : wt.heap.size ≤ M) (hM : M < w.heap.size) (hne1 : PA ≠ M) (hne2 : PR ≠ M) (hj : GrJ M PA PR ln ra rc A w) :
    Calls Tryz.prog 66 #[.agg #[.slice ta ln tc, .slice sa sn sc, .int .u32 (cm : Int)], .int .i64 (t : Int), .int .i64 (-1), .int .i64 v, .func (.func 60) #[] #[.pointer (some ⟨PA, 0, none⟩)], .func (.func 62) #[] #[.pointer (some ⟨PR, 0, none⟩)]] w fun e w' =>
      (∃ x, e = .returned x) ∧ GrJ M PA PR ln ra rc ((readE l cm rn t (-1) v).foldl putGe A) w' ∧ Only (fun b => b = M) w w' := by
  have hl6 := hf.six
  rw [hln] at hl6
  have hrl := wholeR_len hw
  rw [hln] at hrl
  obtain ⟨tb, tq, tcc, he⟩ := hv.opened (by omega)
  simp only [Value.slice.injEq] at he
  obtain ⟨rfl, -, -⟩ := he
  have HPUT : Hid (∀ (B : List Nat) (i k : Nat) (W : World), B.length = ln → i < ln → k < ln → Fit32 B → GrJ M PA PR ln ra rc B W → Calls Tryz.prog 60 #[.int .i64 (i : Int), .int .i64 (k : Int), .pointer (some ⟨PA, 0, none⟩)] W fun e w' =>
      (∃ x, e = .returned x) ∧ GrJ M PA PR ln ra rc (putGe B (i, k)) w' ∧ Only (fun b => b = M) W w') := fun B i k W h1 h2 h3 h4 h5 => putC_any B i k M PA PR ln ra rc h1 h2 hl6 h3 h4 hne1 hne2 W h5
  have HCT : Hid (∀ (k : Nat) (W : World), k < ln → Calls Tryz.prog 96 #[.agg #[.slice (some ⟨tb, tq, none⟩) ln tc, .slice sa sn sc, .int .u32 (cm : Int)], .int .i64 (k : Int)] W fun e w' => e = .returned (.bool (cm.testBit k)) ∧ Below W.heap.size W w') := fun k W hk => commitG_any _ _ _ _ _ _ _ _ (by omega) hcm W
  have HV := Lib.hid hv
  have HF := Lib.hid hf
  have HMT := Lib.hid hMt
  have HLN := Lib.hid hln
  have HNM : Hid (w.heap.size ≠ M) := by unfold Hid; omega
  have hba0 : Below w.heap.size w (w.alloc (.cells #[.slice (some ⟨tb, tq, none⟩) ln tc, .slice sa sn sc, .int .u32 (cm : Int)] 90)) := (Below.refl _ w).alloc (Nat.le_refl _) _
  have HJ0 := Lib.hid (hj.below hba0)
  have HA0 := Lib.hid (At.new w #[.slice (some ⟨tb, tq, none⟩) ln tc, .slice sa sn sc, .int .u32 (cm : Int)] 90)
  have HB0 := Lib.hid (hB.trans (hba0.mono hB.size))
  have HO0 : Hid (Only (fun b => b = M) w (w.alloc (.cells #[.slice (some ⟨tb, tq, none⟩) ln tc, .slice sa sn sc, .int .u32 (cm : Int)] 90))) := (Only.refl _ w).alloc _
  have HFT := Lib.hid (fun (k : Nat) (hk : k ≤ ln) => sdA_fit (l := l) (by rw [hln]; exact hl6) cm rn (s := -1) v (k := k) (by rw [hln]; exact ht) (by rw [hln]; omega) (by rw [hln]; exact hk) hfit)
  have HLEN := Lib.hid (fun (k : Nat) => (sdA_len l cm rn t (-1) v A k).trans hA)
  have HFIN := Lib.hid (read_first l cm rn t v A)
  have HNX := Lib.hid (fun (k : Nat) => sdA_next l cm rn t (-1) v A k)
  have HSZ : Hid (sdA l cm rn t (-1) v A 0 = A) := rfl
  rw [hln] at HFIN
  rw [HFIN.out]
  clear hv _hr hw hf hB hMt hM hj hba0 hfit hA hln
  go_enter Tryz.func66, Tryz.ntmps66
  go_wp2_with fail
  rw [← HSZ.out] at HJ0
  go_loopw [23] (fun x wr => ∃ k : Nat, k ≤ ln ∧ x = .int .i64 k ∧ Hid (GrJ M PA PR ln ra rc (sdA l cm rn t (-1) v A k) wr) ∧ Hid (At wr w.heap.size #[.slice (some ⟨tb, tq, none⟩) ln tc, .slice sa sn sc, .int .u32 (cm : Int)] 90) ∧ Hid (Below wt.heap.size wt wr) ∧ Hid (Only (fun b => b = M) w wr)) (fun x _ => ln - (intOf x).toNat)
  case atStart => exact ⟨0, by omega, rfl, HJ0, HA0, HB0, HO0⟩
  case round =>
    clear HJ0 HA0 HB0 HO0
    obtain ⟨k, hkl, rfl, HG, HA, HB, HO⟩ := hrel
    by_cases hlt : k < ln
    · have hltl : k < l.length := by rw [HLN.out]; exact hlt
      obtain ⟨u, x0, x1, x2, x3, x4, q⟩ := HV.out.get k hltl
      have y0 := (HB.out.cell (p := ⟨tb, tq + k * 5, none⟩) (cell_lt x0)).trans x0
      have y1 := (HB.out.cell (p := ⟨tb, tq + k * 5 + 1, none⟩) (cell_lt x1)).trans x1
      have y2 := (HB.out.cell (p := ⟨tb, tq + k * 5 + 2, none⟩) (cell_lt x2)).trans x2
      have y3 := (HB.out.cell (p := ⟨tb, tq + k * 5 + 3, none⟩) (cell_lt x3)).trans x3
      have y4 := (HB.out.cell (p := ⟨tb, tq + k * 5 + 4, none⟩) (cell_lt x4)).trans x4
      have hoe := opsAt_eq hltl
      have hol := (HF.out.ops _ (List.getElem_mem hltl)).1
      have hnx := HNX.out k
      have hft := HFT.out k (Nat.le_of_lt hlt)
      have hln' := HLEN.out k
      have hwrt : wrt l cm k v = (cm.testBit k && ownsB (opsAt l k) v) := rfl
      rw [hoe] at hwrt
      have hs0 : k = t → sideE l cm rn t (-1) v k = [] := fun h => by rw [h]; exact side_self l cm rn t (-1) v
      have hs1 := fun (h : wrt l cm k v = false) => side_not (row := rn) (t := t) (s := (-1)) h
      have hs2 := fun (h1 : k ≠ t) (h : wrt l cm k v = true) => side_first (row := rn) h1 h
      rw [hwrt] at hs1 hs2
      clear x0 x1 x2 x3 x4 hoe hwrt
      obtain ⟨G1, hG1⟩ : ∃ G1, sdA l cm rn t (-1) v A (k + 1) = G1 := ⟨_, rfl⟩
      rw [hG1] at hnx
      have HGE := Lib.hid hG1
      clear hG1
      generalize sdA l cm rn t (-1) v A k = G0 at *
      generalize sideE l cm rn t (-1) v k = E at *
      generalize l[k] = X at *
      obtain ⟨Xn, Xf, Xl, Xs, Xo⟩ := X
      dsimp only at *
      obtain ⟨ua, uc, rfl, huc⟩ := q.len
      have hba : Below wr.heap.size wr (wr.alloc (.cells #[.int .i64 Xn, .int .i64 Xf, .int .i64 Xl, .int .i64 Xs, .slice ua Xo.length uc] 64)) := (Below.refl _ wr).alloc (Nat.le_refl _) _
      have HG1 := Lib.hid (HG.out.below hba)
      have HA1 := Lib.hid (HA.out.alloc (.cells #[.int .i64 Xn, .int .i64 Xf, .int .i64 Xl, .int .i64 Xs, .slice ua Xo.length uc] 64))
      have HB1 := Lib.hid (HB.out.trans (hba.mono HB.out.size))
      have HO1 := Lib.hid (HO.out.alloc (.cells #[.int .i64 Xn, .int .i64 Xf, .int .i64 Xl, .int .i64 Xs, .slice ua Xo.length uc] 64))
      have HT1 := Lib.hid (At.new wr #[.int .i64 Xn, .int .i64 Xf, .int .i64 Xl, .int .i64 Xs, .slice ua Xo.length uc] 64)
      have HQ := Lib.hid q
      have HFT0 := Lib.hid hft
      have HLE0 := Lib.hid hln'
      have HNX0 := Lib.hid hnx
      have HS1 := Lib.hid hs1
      have HS2 := Lib.hid hs2
      have tj : ((k : Int) == -1) = false := by simp
      clear hs2
      clear hba HG HA HB HO q hft hln' hnx hs1
      by_cases hkt : k = t
      · have tk : ((k : Int) == (t : Int)) = true := by simp [hkt]
        have HG2 : Hid (GrJ M PA PR ln ra rc G1 (wr.alloc (.cells #[.int .i64 Xn, .int .i64 Xf, .int .i64 Xl, .int .i64 Xs, .slice ua Xo.length uc] 64))) := by unfold Hid; rw [HNX0.out, hs0 hkt]; exact HG1.out
        clear hkt hs0
        go_wp2
        go_roundw
        case rel => exact ⟨k + 1, by omega, by go_num, (by rw [HGE.out]; exact HG2), HA1, HB1, HO1⟩
        case measure => simp [intOf]; omega
      · have tk : ((k : Int) == (t : Int)) = false := by simp; omega
        have HKT := Lib.hid hkt
        clear hs0 hkt
        have a0 := HA1.out.cell (i := 0) rfl
        have a1 := HA1.out.cell (i := 1) rfl
        have a2 := HA1.out.cell (i := 2) rfl
        have HC := Lib.hid (HCT.out k (wr.alloc (.cells #[.int .i64 Xn, .int .i64 Xf, .int .i64 Xl, .int .i64 Xs, .slice ua Xo.length uc] 64)) hlt)
        cases hb : cm.testBit k with
        | false =>
          rw [hb] at HC HS1
          have HG2 : Hid (GrJ M PA PR ln ra rc G1 (wr.alloc (.cells #[.int .i64 Xn, .int .i64 Xf, .int .i64 Xl, .int .i64 Xs, .slice ua Xo.length uc] 64))) := by unfold Hid; rw [HNX0.out, HS1.out (by trivial)]; exact HG1.out
          clear hb
          go_wp2_with fail
          refine HC.out.mono ?_
          rintro e w5 ⟨rfl, hb5⟩
          have HG5 := Lib.hid (HG2.out.below hb5)
          have HA5 := Lib.hid (HA1.out.below hb5 HA1.out.lt)
          have HB5 := Lib.hid (HB1.out.trans (hb5.mono HB1.out.size))
          have HO5 := Lib.hid (HO1.out.call hb5)
          clear hb5 HC a0 a1 a2 HG1 HG2 HA1 HB1 HO1
          go_wp2
          go_roundw
          case rel => exact ⟨k + 1, by omega, by go_num, (by rw [HGE.out]; exact HG5), HA5, HB5, HO5⟩
          case measure => simp [intOf]; omega
        | true =>
          rw [hb] at HC HS1 HS2
          simp only [Bool.true_and] at HS1 HS2
          clear hb
          go_wp2_with fail
          refine HC.out.mono ?_
          rintro e w5 ⟨rfl, hb5⟩
          have HG5 := Lib.hid (HG1.out.below hb5)
          have HA5 := Lib.hid (HA1.out.below hb5 HA1.out.lt)
          have HB5 := Lib.hid (HB1.out.trans (hb5.mono HB1.out.size))
          have HO5 := Lib.hid (HO1.out.call hb5)
          have HT5 := Lib.hid (HT1.out.below hb5 HT1.out.lt)
          have HW := Lib.hid (writesG_any Xn Xf Xl Xs (.slice ua Xo.length uc) Xo v w5 (HQ.out.below HB5.out (Nat.le_refl _)) hol)
          have c0 := HT5.out.cell (i := 0) rfl
          have c1 := HT5.out.cell (i := 1) rfl
          have c2 := HT5.out.cell (i := 2) rfl
          have c3 := HT5.out.cell (i := 3) rfl
          have c4 := HT5.out.cell (i := 4) rfl
          clear hb5 HC a0 a1 a2 HG1 HA1 HB1 HO1 HT1
          generalize wr.heap.size = NT at *
          cases hw : ownsB Xo v with
          | false =>
            rw [hw] at HW HS1
            have HG2 : Hid (GrJ M PA PR ln ra rc G1 w5) := by unfold Hid; rw [HNX0.out, HS1.out (by trivial)]; exact HG5.out
            clear hw
            go_wp2_with fail
            refine HW.out.mono ?_
            rintro e w6 ⟨rfl, hb6⟩
            have HG6 := Lib.hid (HG2.out.below hb6)
            have HA6 := Lib.hid (HA5.out.below hb6 HA5.out.lt)
            have HB6 := Lib.hid (HB5.out.trans (hb6.mono HB5.out.size))
            have HO6 := Lib.hid (HO5.out.call hb6)
            clear hb6 HW HG2 HG5 HA5 HB5 HO5 HT5 c0 c1 c2 c3 c4
            go_wp2
            go_roundw
            case rel => exact ⟨k + 1, by omega, by go_num, (by rw [HGE.out]; exact HG6), HA6, HB6, HO6⟩
            case measure => simp [intOf]; omega
          | true =>
            rw [hw] at HW HS2
            clear hw
            go_wp2_with fail
            refine HW.out.mono ?_
            rintro e w6 ⟨rfl, hb6⟩
            have HG6 := Lib.hid (HG5.out.below hb6)
            have HA6 := Lib.hid (HA5.out.below hb6 HA5.out.lt)
            have HB6 := Lib.hid (HB5.out.trans (hb6.mono HB5.out.size))
            have HO6 := Lib.hid (HO5.out.call hb6)
            clear hb6 HW HG5 HA5 HB5 HO5 HT5 c0 c1 c2 c3 c4
            have HSA := Lib.hid (HS2.out HKT.out (by trivial))
            have HE : Hid (G1 = putGe G0 (t, k)) := by unfold Hid; rw [HNX0.out, HSA.out]; rfl
            have HP := Lib.hid (HPUT.out G0 t k w6 HLE0.out ht hlt HFT0.out HG6.out)
            go_wp2_with fail
            refine HP.out.mono ?_
            rintro e w7 ⟨⟨rv, rfl⟩, hj7, ho7⟩
            rw [← HE.out] at hj7
            have HG7 := Lib.hid hj7
            have HA7 := Lib.hid (HA6.out.only ho7 HNM.out)
            have HB7 := Lib.hid (HB6.out.trans (ho7.below HB6.out.size (fun k _ hk => by rw [hk]; exact HMT.out)))
            have HO7 := Lib.hid (HO6.out.trans ho7 (fun _ _ h => h))
            clear hj7 ho7 HP HG6 HA6 HB6 HO6
            go_wp2
            go_roundw
            case rel => exact ⟨k + 1, by omega, by go_num, (by rw [HGE.out]; exact HG7), HA7, HB7, HO7⟩
            case measure => simp [intOf]; omega
    · obtain rfl : k = ln := by omega
      go_wp2
      go_end0
      exact ⟨⟨_, rfl⟩, HG.out, HO.out⟩
end Go.Proofs.YtmnblljenobofaaGreatDoor
/- The walk of package graph's putRead, of another one's. (Written by gen_gphJ.py.) -/
namespace Go.Proofs.YtmnblljenobofaaGreatDoor.WPlain
end Go.Proofs.YtmnblljenobofaaGreatDoor.WPlain
namespace Go.Proofs.YtmnblljenobofaaGreatDoor.QPlain
end Go.Proofs.YtmnblljenobofaaGreatDoor.QPlain
namespace Go.Proofs.YtmnblljenobofaaGreatDoor.RPlain
end Go.Proofs.YtmnblljenobofaaGreatDoor.RPlain
namespace Go.Proofs.YtmnblljenobofaaGreatDoor
open Go.RowKit WPlain QPlain RPlain

set_option maxRecDepth 100000 in
set_option maxHeartbeats 8000000 in
theorem putOther_walk (ta sa : Option Addr) (ln tc sn sc cm : Nat) (l : List Tx) (hln : l.length = ln) (rn : List Nat) (hw : Whole l rn) (ra : Option Addr) (rc M PA PR t j : Nat) (v : Int) (A : List Nat) (hA : A.length = ln) (hfit : Fit32 A) (ht : t < ln) (hjl : j < ln) (_hjt : j ≠ t) (hf : Fine l) (hcm : cm < 4294967296)
    (wt : World) (hv : Txs wt (.slice ta ln tc) l) (hr : Rd wt (.slice ra ln rc) (ints (rn.map (fun x : Nat => (x : Int))))) (w : World) (hB : Below wt.heap.size wt w) (hMt : wt.heap.size ≤ M) (hM : M < w.heap.size) (hne1 : PA ≠ M) (hne2 : PR ≠ M) (hj : GrJ M PA PR ln ra rc A w) :
    Calls Tryz.prog 66 #[.agg #[.slice ta ln tc, .slice sa sn sc, .int .u32 (cm : Int)], .int .i64 (t : Int), .int .i64 (j : Int), .int .i64 v, .func (.func 60) #[] #[.pointer (some ⟨PA, 0, none⟩)], .func (.func 62) #[] #[.pointer (some ⟨PR, 0, none⟩)]] w fun e w' =>
      (∃ x, e = .returned x) ∧ GrJ M PA PR ln ra rc ((readE l cm rn t (j : Int) v).foldl putGe A) w' ∧ Only (fun b => b = M) w w' := by
  have hl6 := hf.six
  rw [hln] at hl6
  have hrl := wholeR_len hw
  rw [hln] at hrl
  obtain ⟨tb, tq, tcc, he⟩ := hv.opened (by omega)
  simp only [Value.slice.injEq] at he
  obtain ⟨rfl, -, -⟩ := he
  have HPUT : Hid (∀ (B : List Nat) (i k : Nat) (W : World), B.length = ln → i < ln → k < ln → Fit32 B → GrJ M PA PR ln ra rc B W → Calls Tryz.prog 60 #[.int .i64 (i : Int), .int .i64 (k : Int), .pointer (some ⟨PA, 0, none⟩)] W fun e w' =>
      (∃ x, e = .returned x) ∧ GrJ M PA PR ln ra rc (putGe B (i, k)) w' ∧ Only (fun b => b = M) W w') := fun B i k W h1 h2 h3 h4 h5 => putC_any B i k M PA PR ln ra rc h1 h2 hl6 h3 h4 hne1 hne2 W h5
  have HAH : Hid (∀ (a b : Nat) (W : World), a < ln → b < ln → Below wt.heap.size wt W → At W PR #[.slice ra ln rc] 24 → Calls Tryz.prog 62 #[.int .i64 (a : Int), .int .i64 (b : Int), .pointer (some ⟨PR, 0, none⟩)] W fun e w' =>
      e = .returned (.bool (aheadB a b rn)) ∧ Below W.heap.size W w') := fun a b W h1 h2 h3 h4 => by
    have h5 := hr.below h3 (Nat.le_refl _)
    have h6 := h4.cell (i := 0) rfl
    rw [← hrl] at h5 h6
    exact aheadC_any ra rc rn hw.nodup (by omega) PR a b ((hw.mem a).2 (by omega)) ((hw.mem b).2 (by omega)) W h5 h6
  have HCT : Hid (∀ (k : Nat) (W : World), k < ln → Calls Tryz.prog 96 #[.agg #[.slice (some ⟨tb, tq, none⟩) ln tc, .slice sa sn sc, .int .u32 (cm : Int)], .int .i64 (k : Int)] W fun e w' => e = .returned (.bool (cm.testBit k)) ∧ Below W.heap.size W w') := fun k W hk => commitG_any _ _ _ _ _ _ _ _ (by omega) hcm W
  have HV := Lib.hid hv
  have HF := Lib.hid hf
  have HMT := Lib.hid hMt
  have HLN := Lib.hid hln
  have HNM : Hid (w.heap.size ≠ M) := by unfold Hid; omega
  have hba0 : Below w.heap.size w (w.alloc (.cells #[.slice (some ⟨tb, tq, none⟩) ln tc, .slice sa sn sc, .int .u32 (cm : Int)] 90)) := (Below.refl _ w).alloc (Nat.le_refl _) _
  have HJ0 := Lib.hid (hj.below hba0)
  have HA0 := Lib.hid (At.new w #[.slice (some ⟨tb, tq, none⟩) ln tc, .slice sa sn sc, .int .u32 (cm : Int)] 90)
  have HB0 := Lib.hid (hB.trans (hba0.mono hB.size))
  have HO0 : Hid (Only (fun b => b = M) w (w.alloc (.cells #[.slice (some ⟨tb, tq, none⟩) ln tc, .slice sa sn sc, .int .u32 (cm : Int)] 90))) := (Only.refl _ w).alloc _
  have hfit2 : Fit32 (putGe A (j, t)) := puts_fit (n := ln) hl6 [(j, t)] A (fun p hp => by rw [List.mem_singleton.1 hp]; exact ht) hfit
  have hlen2 : (putGe A (j, t)).length = ln := by rw [← hA]; exact puts_len [(j, t)] A
  have HFT := Lib.hid (fun (k : Nat) (hk : k ≤ ln) => sdA_fit (l := l) (by rw [hln]; exact hl6) cm rn (s := (j : Int)) v (k := k) (by rw [hln]; exact ht) (by rw [hln, Int.toNat_natCast]; exact hjl) (by rw [hln]; exact hk) hfit2)
  have HLEN := Lib.hid (fun (k : Nat) => (sdA_len l cm rn t (j : Int) v (putGe A (j, t)) k).trans hlen2)
  have HFIN := Lib.hid (read_other l cm rn t j v A)
  have HNX := Lib.hid (fun (k : Nat) => sdA_next l cm rn t (j : Int) v (putGe A (j, t)) k)
  have HSZ : Hid (sdA l cm rn t (j : Int) v (putGe A (j, t)) 0 = putGe A (j, t)) := rfl
  rw [hln] at HFIN
  rw [HFIN.out]
  have HP0 := Lib.hid (HPUT.out A j t _ hA hjl ht hfit HJ0.out)
  have t0 : ((j : Int) != -1) = true := by simp
  have tm1 : ((j : Int) == -1) = false := by simp
  clear hv hr hw hf hB hMt hM hj hba0 hfit hA hfit2 hlen2 hln
  go_enter Tryz.func66, Tryz.ntmps66
  go_wp2_with fail
  refine HP0.out.mono ?_
  rintro e w1 ⟨⟨rv, rfl⟩, hj1, ho1⟩
  have HA1 := Lib.hid (HA0.out.only ho1 HNM.out)
  have HB1 := Lib.hid (HB0.out.trans (ho1.below HB0.out.size (fun k _ hk => by rw [hk]; exact HMT.out)))
  have HO1 := Lib.hid (HO0.out.trans ho1 (fun _ _ h => h))
  have HJ1 := Lib.hid hj1
  clear hj1 ho1 HP0 HJ0 HA0 HB0 HO0
  have HJ0 := HJ1
  have HA0 := HA1
  have HB0 := HB1
  have HO0 := HO1
  clear HJ1 HA1 HB1 HO1
  rw [← HSZ.out] at HJ0
  have a0 := HA0.out.cell (i := 0) rfl
  go_wp2_with fail
  clear a0
  go_loopw [23] (fun x wr => ∃ k : Nat, k ≤ ln ∧ x = .int .i64 k ∧ Hid (GrJ M PA PR ln ra rc (sdA l cm rn t (j : Int) v (putGe A (j, t)) k) wr) ∧ Hid (At wr w.heap.size #[.slice (some ⟨tb, tq, none⟩) ln tc, .slice sa sn sc, .int .u32 (cm : Int)] 90) ∧ Hid (Below wt.heap.size wt wr) ∧ Hid (Only (fun b => b = M) w wr)) (fun x _ => ln - (intOf x).toNat)
  case atStart => exact ⟨0, by omega, rfl, HJ0, HA0, HB0, HO0⟩
  case round =>
    clear HJ0 HA0 HB0 HO0
    obtain ⟨k, hkl, rfl, HG, HA, HB, HO⟩ := hrel
    by_cases hlt : k < ln
    · have hltl : k < l.length := by rw [HLN.out]; exact hlt
      obtain ⟨u, x0, x1, x2, x3, x4, q⟩ := HV.out.get k hltl
      have y0 := (HB.out.cell (p := ⟨tb, tq + k * 5, none⟩) (cell_lt x0)).trans x0
      have y1 := (HB.out.cell (p := ⟨tb, tq + k * 5 + 1, none⟩) (cell_lt x1)).trans x1
      have y2 := (HB.out.cell (p := ⟨tb, tq + k * 5 + 2, none⟩) (cell_lt x2)).trans x2
      have y3 := (HB.out.cell (p := ⟨tb, tq + k * 5 + 3, none⟩) (cell_lt x3)).trans x3
      have y4 := (HB.out.cell (p := ⟨tb, tq + k * 5 + 4, none⟩) (cell_lt x4)).trans x4
      have hoe := opsAt_eq hltl
      have hol := (HF.out.ops _ (List.getElem_mem hltl)).1
      have hnx := HNX.out k
      have hft := HFT.out k (Nat.le_of_lt hlt)
      have hln' := HLEN.out k
      have hwrt : wrt l cm k v = (cm.testBit k && ownsB (opsAt l k) v) := rfl
      rw [hoe] at hwrt
      have hs0 : k = t → sideE l cm rn t (j : Int) v k = [] := fun h => by rw [h]; exact side_self l cm rn t (j : Int) v
      have hs1 := fun (h : wrt l cm k v = false) => side_not (row := rn) (t := t) (s := (j : Int)) h
      have hs3 := fun (h1 : k ≠ t) (h2 : k ≠ j) (h : wrt l cm k v = true) (ha : aheadB j k rn = true) => side_ahead h1 h2 h ha
      have hs4 := fun (h1 : k ≠ t) (h2 : k ≠ j) (h : wrt l cm k v = true) (ha : aheadB j k rn = false) => side_behind h1 h2 h ha
      have hs2 : k = j → sideE l cm rn t (j : Int) v k = [] := fun h => by rw [h]; exact side_src l cm rn t v j
      rw [hwrt] at hs1 hs3 hs4
      clear x0 x1 x2 x3 x4 hoe hwrt
      obtain ⟨G1, hG1⟩ : ∃ G1, sdA l cm rn t (j : Int) v (putGe A (j, t)) (k + 1) = G1 := ⟨_, rfl⟩
      rw [hG1] at hnx
      have HGE := Lib.hid hG1
      clear hG1
      generalize sdA l cm rn t (j : Int) v (putGe A (j, t)) k = G0 at *
      generalize sideE l cm rn t (j : Int) v k = E at *
      generalize l[k] = X at *
      obtain ⟨Xn, Xf, Xl, Xs, Xo⟩ := X
      dsimp only at *
      obtain ⟨ua, uc, rfl, huc⟩ := q.len
      have hba : Below wr.heap.size wr (wr.alloc (.cells #[.int .i64 Xn, .int .i64 Xf, .int .i64 Xl, .int .i64 Xs, .slice ua Xo.length uc] 64)) := (Below.refl _ wr).alloc (Nat.le_refl _) _
      have HG1 := Lib.hid (HG.out.below hba)
      have HA1 := Lib.hid (HA.out.alloc (.cells #[.int .i64 Xn, .int .i64 Xf, .int .i64 Xl, .int .i64 Xs, .slice ua Xo.length uc] 64))
      have HB1 := Lib.hid (HB.out.trans (hba.mono HB.out.size))
      have HO1 := Lib.hid (HO.out.alloc (.cells #[.int .i64 Xn, .int .i64 Xf, .int .i64 Xl, .int .i64 Xs, .slice ua Xo.length uc] 64))
      have HT1 := Lib.hid (At.new wr #[.int .i64 Xn, .int .i64 Xf, .int .i64 Xl, .int .i64 Xs, .slice ua Xo.length uc] 64)
      have HQ := Lib.hid q
      have HFT0 := Lib.hid hft
      have HLE0 := Lib.hid hln'
      have HNX0 := Lib.hid hnx
      have HS1 := Lib.hid hs1
      have HS2 := Lib.hid hs3
      have HS3 := Lib.hid hs4
      clear hs3 hs4
      clear hba HG HA HB HO q hft hln' hnx hs1
      by_cases hkt : k = t
      · have tk : ((k : Int) == (t : Int)) = true := by simp [hkt]
        have HG2 : Hid (GrJ M PA PR ln ra rc G1 (wr.alloc (.cells #[.int .i64 Xn, .int .i64 Xf, .int .i64 Xl, .int .i64 Xs, .slice ua Xo.length uc] 64))) := by unfold Hid; rw [HNX0.out, hs0 hkt]; exact HG1.out
        clear hkt hs0
        go_wp2
        go_roundw
        case rel => exact ⟨k + 1, by omega, by go_num, (by rw [HGE.out]; exact HG2), HA1, HB1, HO1⟩
        case measure => simp [intOf]; omega
      · have tk : ((k : Int) == (t : Int)) = false := by simp; omega
        have HKT := Lib.hid hkt
        clear hs0 hkt
        by_cases hkj : k = j
        · have tj : ((k : Int) == (j : Int)) = true := by simp [hkj]
          have HG2 : Hid (GrJ M PA PR ln ra rc G1 (wr.alloc (.cells #[.int .i64 Xn, .int .i64 Xf, .int .i64 Xl, .int .i64 Xs, .slice ua Xo.length uc] 64))) := by unfold Hid; rw [HNX0.out, hs2 hkj]; exact HG1.out
          clear hkj hs2
          go_wp2
          go_roundw
          case rel => exact ⟨k + 1, by omega, by go_num, (by rw [HGE.out]; exact HG2), HA1, HB1, HO1⟩
          case measure => simp [intOf]; omega
        have tj : ((k : Int) == (j : Int)) = false := by simp; omega
        have HKJ := Lib.hid hkj
        clear hs2 hkj
        have a0 := HA1.out.cell (i := 0) rfl
        have a1 := HA1.out.cell (i := 1) rfl
        have a2 := HA1.out.cell (i := 2) rfl
        have HC := Lib.hid (HCT.out k (wr.alloc (.cells #[.int .i64 Xn, .int .i64 Xf, .int .i64 Xl, .int .i64 Xs, .slice ua Xo.length uc] 64)) hlt)
        cases hb : cm.testBit k with
        | false =>
          rw [hb] at HC HS1
          have HG2 : Hid (GrJ M PA PR ln ra rc G1 (wr.alloc (.cells #[.int .i64 Xn, .int .i64 Xf, .int .i64 Xl, .int .i64 Xs, .slice ua Xo.length uc] 64))) := by unfold Hid; rw [HNX0.out, HS1.out (by trivial)]; exact HG1.out
          clear hb
          go_wp2_with fail
          refine HC.out.mono ?_
          rintro e w5 ⟨rfl, hb5⟩
          have HG5 := Lib.hid (HG2.out.below hb5)
          have HA5 := Lib.hid (HA1.out.below hb5 HA1.out.lt)
          have HB5 := Lib.hid (HB1.out.trans (hb5.mono HB1.out.size))
          have HO5 := Lib.hid (HO1.out.call hb5)
          clear hb5 HC a0 a1 a2 HG1 HG2 HA1 HB1 HO1
          go_wp2
          go_roundw
          case rel => exact ⟨k + 1, by omega, by go_num, (by rw [HGE.out]; exact HG5), HA5, HB5, HO5⟩
          case measure => simp [intOf]; omega
        | true =>
          rw [hb] at HC HS1 HS2 HS3
          simp only [Bool.true_and] at HS1 HS2 HS3
          clear hb
          go_wp2_with fail
          refine HC.out.mono ?_
          rintro e w5 ⟨rfl, hb5⟩
          have HG5 := Lib.hid (HG1.out.below hb5)
          have HA5 := Lib.hid (HA1.out.below hb5 HA1.out.lt)
          have HB5 := Lib.hid (HB1.out.trans (hb5.mono HB1.out.size))
          have HO5 := Lib.hid (HO1.out.call hb5)
          have HT5 := Lib.hid (HT1.out.below hb5 HT1.out.lt)
          have HW := Lib.hid (writesG_any Xn Xf Xl Xs (.slice ua Xo.length uc) Xo v w5 (HQ.out.below HB5.out (Nat.le_refl _)) hol)
          have c0 := HT5.out.cell (i := 0) rfl
          have c1 := HT5.out.cell (i := 1) rfl
          have c2 := HT5.out.cell (i := 2) rfl
          have c3 := HT5.out.cell (i := 3) rfl
          have c4 := HT5.out.cell (i := 4) rfl
          clear hb5 HC a0 a1 a2 HG1 HA1 HB1 HO1 HT1
          generalize wr.heap.size = NT at *
          cases hw : ownsB Xo v with
          | false =>
            rw [hw] at HW HS1
            have HG2 : Hid (GrJ M PA PR ln ra rc G1 w5) := by unfold Hid; rw [HNX0.out, HS1.out (by trivial)]; exact HG5.out
            clear hw
            go_wp2_with fail
            refine HW.out.mono ?_
            rintro e w6 ⟨rfl, hb6⟩
            have HG6 := Lib.hid (HG2.out.below hb6)
            have HA6 := Lib.hid (HA5.out.below hb6 HA5.out.lt)
            have HB6 := Lib.hid (HB5.out.trans (hb6.mono HB5.out.size))
            have HO6 := Lib.hid (HO5.out.call hb6)
            clear hb6 HW HG2 HG5 HA5 HB5 HO5 HT5 c0 c1 c2 c3 c4
            go_wp2
            go_roundw
            case rel => exact ⟨k + 1, by omega, by go_num, (by rw [HGE.out]; exact HG6), HA6, HB6, HO6⟩
            case measure => simp [intOf]; omega
          | true =>
            rw [hw] at HW HS2 HS3
            clear hw
            go_wp2_with fail
            refine HW.out.mono ?_
            rintro e w6 ⟨rfl, hb6⟩
            have HG6 := Lib.hid (HG5.out.below hb6)
            have HA6 := Lib.hid (HA5.out.below hb6 HA5.out.lt)
            have HB6 := Lib.hid (HB5.out.trans (hb6.mono HB5.out.size))
            have HO6 := Lib.hid (HO5.out.call hb6)
            clear hb6 HW HG5 HA5 HB5 HO5 HT5 c0 c1 c2 c3 c4
            have HAC := Lib.hid (HAH.out j k w6 hjl hlt HB6.out HG6.out.who)
            cases ha : aheadB j k rn with
            | true =>
              rw [ha] at HAC
              have HSA := Lib.hid (HS2.out HKT.out HKJ.out (by trivial) ha)
              clear ha
              go_wp2_with fail
              refine HAC.out.mono ?_
              rintro e w8 ⟨rfl, hb8⟩
              have HG8 := Lib.hid (HG6.out.below hb8)
              have HA8 := Lib.hid (HA6.out.below hb8 HA6.out.lt)
              have HB8 := Lib.hid (HB6.out.trans (hb8.mono HB6.out.size))
              have HO8 := Lib.hid (HO6.out.call hb8)
              clear hb8 HAC HG6 HA6 HB6 HO6
              have HG6 := HG8
              have HA6 := HA8
              have HB6 := HB8
              have HO6 := HO8
              clear HG8 HA8 HB8 HO8
              have HE : Hid (G1 = putGe G0 (t, k)) := by unfold Hid; rw [HNX0.out, HSA.out]; rfl
              have HP := Lib.hid (HPUT.out G0 t k w8 HLE0.out ht hlt HFT0.out HG6.out)
              go_wp2_with fail
              refine HP.out.mono ?_
              rintro e w7 ⟨⟨rv, rfl⟩, hj7, ho7⟩
              rw [← HE.out] at hj7
              have HG7 := Lib.hid hj7
              have HA7 := Lib.hid (HA6.out.only ho7 HNM.out)
              have HB7 := Lib.hid (HB6.out.trans (ho7.below HB6.out.size (fun k _ hk => by rw [hk]; exact HMT.out)))
              have HO7 := Lib.hid (HO6.out.trans ho7 (fun _ _ h => h))
              clear hj7 ho7 HP HG6 HA6 HB6 HO6
              go_wp2
              go_roundw
              case rel => exact ⟨k + 1, by omega, by go_num, (by rw [HGE.out]; exact HG7), HA7, HB7, HO7⟩
              case measure => simp [intOf]; omega
            | false =>
              rw [ha] at HAC
              have HSA := Lib.hid (HS3.out HKT.out HKJ.out (by trivial) ha)
              clear ha
              go_wp2_with fail
              refine HAC.out.mono ?_
              rintro e w8 ⟨rfl, hb8⟩
              have HG8 := Lib.hid (HG6.out.below hb8)
              have HA8 := Lib.hid (HA6.out.below hb8 HA6.out.lt)
              have HB8 := Lib.hid (HB6.out.trans (hb8.mono HB6.out.size))
              have HO8 := Lib.hid (HO6.out.call hb8)
              clear hb8 HAC HG6 HA6 HB6 HO6
              have HG6 := HG8
              have HA6 := HA8
              have HB6 := HB8
              have HO6 := HO8
              clear HG8 HA8 HB8 HO8
              have HE : Hid (G1 = putGe G0 (k, j)) := by unfold Hid; rw [HNX0.out, HSA.out]; rfl
              have HP := Lib.hid (HPUT.out G0 k j w8 HLE0.out hlt hjl HFT0.out HG6.out)
              go_wp2_with fail
              refine HP.out.mono ?_
              rintro e w7 ⟨⟨rv, rfl⟩, hj7, ho7⟩
              rw [← HE.out] at hj7
              have HG7 := Lib.hid hj7
              have HA7 := Lib.hid (HA6.out.only ho7 HNM.out)
              have HB7 := Lib.hid (HB6.out.trans (ho7.below HB6.out.size (fun k _ hk => by rw [hk]; exact HMT.out)))
              have HO7 := Lib.hid (HO6.out.trans ho7 (fun _ _ h => h))
              clear hj7 ho7 HP HG6 HA6 HB6 HO6
              go_wp2
              go_roundw
              case rel => exact ⟨k + 1, by omega, by go_num, (by rw [HGE.out]; exact HG7), HA7, HB7, HO7⟩
              case measure => simp [intOf]; omega
    · obtain rfl : k = ln := by omega
      go_wp2
      go_end0
      exact ⟨⟨_, rfl⟩, HG.out, HO.out⟩
end Go.Proofs.YtmnblljenobofaaGreatDoor
