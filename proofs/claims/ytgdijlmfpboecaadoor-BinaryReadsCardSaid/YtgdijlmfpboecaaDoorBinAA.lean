/- The walk of the reference's Parse. (Written by gen_binAA.py.) -/
import Derived.Test.YtgdijlmfpboecaaDoorBinZ
import Derived.Test.YtgdijlmfpboecaaDoorBinH
namespace Go.Proofs.YtgdijlmfpboecaaDoor.WPlain
end Go.Proofs.YtgdijlmfpboecaaDoor.WPlain
namespace Go.Proofs.YtgdijlmfpboecaaDoor.VPlain
end Go.Proofs.YtgdijlmfpboecaaDoor.VPlain
namespace Go.Proofs.YtgdijlmfpboecaaDoor
open Go.RowKit WPlain VPlain BPlain

theorem row_belowY {w w' : World} {B : Nat} {e : TypeId} {s : Nat} {v : Value} {n : Nat} {xs : List Value} (h : w.ownsRow B e s v n xs) (hb : Below w.heap.size w w') : w'.ownsRow B e s v n xs := by
  refine ⟨h.1, ?_⟩
  rcases h.2 with hn | ⟨g, cap, cur, rfl, hB, hgg, rest⟩
  · exact .inl hn
  · refine .inr ⟨g, cap, cur, rfl, hB, ?_, rest⟩
    rw [hb.block g (Array.getElem?_eq_some_iff.1 hgg).1]
    exact hgg
theorem evsCells_snocY (h : List Ev) (e : Ev) : evsCells h ++ evsCells [e] = evsCells (h ++ [e]) := by simp [evsCells]
/-- what Parse keeps: its answer's block, the number's, the events so far -/
structure SpE (w wr : World) (nk : Nat) (s : Nat × Nat × Nat) (x : Value) (H : List Ev) : Prop where
  r : At wr w.heap.size #[.slice none 0 0, .int .i64 0, .int .i64 0] 28
  n : At wr nk #[.int .u64 (s.1 : Nat), .int .i64 (s.2.1 : Nat), .int .i64 (s.2.2 : Nat)] 40
  x : wr.ownsRow w.heap.size 44 4 x H.length (evsCells H)
  below : Below w.heap.size w wr
theorem SpE.call {w w' w2 : World} {nk : Nat} {s : Nat × Nat × Nat} {x : Value} {H : List Ev} (h : SpE w w' nk s x H) (hb : Below w'.heap.size w' w2) : SpE w w2 nk s x H :=
  ⟨h.r.below hb h.r.lt, h.n.below hb h.n.lt, row_belowY h.x hb, h.below.trans (hb.mono h.below.size)⟩
theorem SpE.alloc {w w' : World} {nk : Nat} {s : Nat × Nat × Nat} {x : Value} {H : List Ev} (h : SpE w w' nk s x H) (o : Obj) : SpE w (w'.alloc o) nk s x H :=
  ⟨h.r.alloc _, h.n.alloc _, h.x.alloc _, h.below.alloc h.below.size _⟩
set_option maxRecDepth 100000 in
set_option maxHeartbeats 2000000 in
theorem refParseB_any (a : Option Addr) (c : Nat) (L : List Nat) (w : World) (hB : Bin w.heap.size w a c L) :
    Calls Tryd.prog 5 #[.slice a L.length c] w fun e w' => ∃ v, e = .returned (.agg #[v, .int .i64 (parseB L).2.1, .int .i64 (parseB L).2.2]) ∧ Evs w' v (parseB L).1 ∧ Below w.heap.size w w' := by
  have hL := hB.small
  have hR := At.new w #[.slice none 0 0, .int .i64 0, .int .i64 0] 28
  have hb1 := (Below.refl w.heap.size w).alloc (Nat.le_refl _) (.cells #[.slice none 0 0, .int .i64 0, .int .i64 0] 28)
  have hN := rnum_ok w.heap.size a c L 0 0 L.length _ (hB.below hb1) hb1.size (Nat.le_refl _) (Nat.zero_le _)
  rw [List.take_length] at hN
  have hnlt := numS_lt hB.byte 0
  have hple := (numS_le (Nat.zero_le L.length)).2
  have hEV := fun (W : World) (H : List Ev) (q : Nat) (va : Option Addr) (vc : Nat) (hW : Below w.heap.size w W) (hq : q ≤ L.length) (hE : Evs W (.slice va H.length vc) H) (hr : right H = true) (hl : H.length ≤ 59) => revent_any w.heap.size a va c vc L H q H.length W (hB.below hW) hW.size hq hE hr hl
  have hOK := fun (q : Nat) (H : List Ev) (hq : q ≤ L.length) (he : (eventS L q H).2.2 = 0) => eventS_ok hB.byte (h := H) hq he
  obtain ⟨P, hP⟩ : ∃ P, P = parseB L := ⟨_, rfl⟩
  rw [← hP]
  unfold parseB readS upS at hP
  obtain ⟨z, hz⟩ : ∃ z, numS L 0 = z := ⟨_, rfl⟩
  rw [hz] at hN hnlt hple hP
  obtain ⟨n, p, er⟩ := z
  unfold nv at hN
  dsimp only at hN hnlt hple hP
  have HR := Lib.hid hR
  have HB1 := Lib.hid hb1
  have HN := Lib.hid hN
  have HEV := Lib.hid hEV
  have HOK := Lib.hid hOK
  have HP := Lib.hid hP
  have hwn : n ≤ 60 → IntKind.i64.wrap (n : Int) = (n : Int) := fun h => IntWalk.i64_in _ (by omega)
  have HWN := Lib.hid hwn
  obtain ⟨j0, hj0, hy0, hy1', hy2'⟩ := info_parts info44
  clear hR hb1 hN hz hEV hOK hP hwn hB
  go_enter Tryd.func5, Tryd.ntmps5
  go_wp2_with fail
  generalize w.alloc (.cells #[.slice none 0 0, .int .i64 0, .int .i64 0] 28) = w1 at *
  refine HN.out.mono ?_
  rintro e w2 ⟨rfl, hb2⟩
  have hR2 := (HR.out.below hb2 HR.out.lt).alloc (.cells #[.int .u64 (n : Int), .int .i64 (p : Int), .int .i64 (er : Int)] 40)
  have hN2 := At.new w2 #[.int .u64 (n : Int), .int .i64 (p : Int), .int .i64 (er : Int)] 40
  have HB3 := Lib.hid ((HB1.out.trans (hb2.mono HB1.out.size)).alloc (Nat.le_trans HB1.out.size hb2.size) (.cells #[.int .u64 (n : Int), .int .i64 (p : Int), .int .i64 (er : Int)] 40))
  have n0 := hN2.cell (i := 0) (v := .int .u64 (n : Int)) rfl
  have n1 := hN2.cell (i := 1) (v := .int .i64 (p : Int)) rfl
  have n2 := hN2.cell (i := 2) (v := .int .i64 (er : Int)) rfl
  have r0 := hR2.cell (i := 0) (v := .slice none 0 0) rfl
  have r1 := hR2.cell (i := 1) (v := .int .i64 0) rfl
  have r2 := hR2.cell (i := 2) (v := .int .i64 0) rfl
  have f0 := hR2.free 0
  have f1 := hR2.free 1
  have f2 := hR2.free 2
  have HR2 := Lib.hid hR2
  have HN2 := Lib.hid hN2
  clear HR HB1 hb2 HN hR2 hN2
  by_cases h0 : er = 0
  · have t0 : ((er : Int) != 0) = false := by simp [h0]
    by_cases h60 : 60 < n
    · have t1 : decide (60 < n) = true := decide_eq_true h60
      have HW : Hid (P = ([], 0, 5)) := by have := HP.out; rw [if_pos (c := er = 0 ∧ 60 < n) ⟨h0, h60⟩] at this; exact this
      have HFin := Lib.hid (((HR2.out.set 0 (.slice none 0 0)).set 1 (.int .i64 0)).set 2 (.int .i64 5))
      clear h0 HP
      go_wp2_with fail
      have e0 := HFin.out.cell (i := 0) (v := .slice none 0 0) rfl
      have e1 := HFin.out.cell (i := 1) (v := .int .i64 0) rfl
      have e2 := HFin.out.cell (i := 2) (v := .int .i64 5) rfl
      refine bodyPost_ret (v := .agg #[.slice none 0 0, .int .i64 0, .int .i64 5]) (by simp [results, Tryd.results5, go_sem, e0, e1, e2]) rfl ?_
      rw [HW.out]
      exact ⟨_, rfl, Evs.nil _ none 0, ((HB3.out.setCell (p := ⟨w.heap.size, 0, none⟩) (by simp) _).setCell (p := ⟨w.heap.size, 1, none⟩) (by simp) _).setCell (p := ⟨w.heap.size, 2, none⟩) (by simp) _⟩
    · have t1 : decide (60 < n) = false := decide_eq_false h60
      have hwn := HWN.out (by omega)
      have HW : Hid (P = if (eventsS L n p []).2.2 ≠ 0 then ([], (eventsS L n p []).2.1, (eventsS L n p []).2.2) else ((eventsS L n p []).1, 0, 0)) := by
        have := HP.out
        rw [if_neg (c := er = 0 ∧ 60 < n) (fun hh => h60 hh.2), if_neg (c := er ≠ 0) (fun hh => hh h0)] at this
        exact this
      obtain ⟨Z, hZ⟩ : ∃ Z, eventsS L n p [] = Z := ⟨_, rfl⟩
      rw [hZ] at HW
      have HZ := Lib.hid hZ
      have hrow := World.ownsRow_made (size := 4) (e := 44) (base := w.heap.size) (w2.alloc (.cells #[.int .u64 (n : Int), .int .i64 (p : Int), .int .i64 (er : Int)] 40)) #[] 0 (by have := HB3.out.size; simp at this ⊢; omega) (by unfold maxLen; omega) rfl
      rw [World.size_alloc] at hrow
      have HS : Hid (SpE w ((w2.alloc (.cells #[.int .u64 (n : Int), .int .i64 (p : Int), .int .i64 (er : Int)] 40)).alloc (.cells #[] 44)) w2.heap.size (n, p, er) (.slice (some ⟨w2.heap.size + 1, 0, none⟩) 0 0) []) :=
        ⟨HR2.out.alloc _, HN2.out.alloc _, hrow, HB3.out.alloc HB3.out.size _⟩
      clear h0 HP hZ HR2 HN2 HB3 hrow
      go_wp2_with fail
      generalize (w2.alloc (.cells #[.int .u64 (n : Int), .int .i64 (p : Int), .int .i64 (er : Int)] 40)).alloc (.cells #[] 44) = w3 at *
      go_loopw [4, 5, 6] (fun x y z wr => ∃ (j q : Nat) (H : List Ev), j ≤ n ∧ z = .int .i64 j ∧ y = .int .i64 q ∧ q ≤ L.length ∧ Hid (H.length = j) ∧ Hid (right H = true) ∧ Hid (eventsS L (n - j) q H = Z) ∧ Hid (SpE w wr w2.heap.size (n, p, er) x H)) (fun _ _ z _ => n - (intOf z).toNat)
      case atStart => exact ⟨0, p, [], Nat.zero_le _, rfl, rfl, hple, rfl, (by unfold Hid; decide), HZ, HS⟩
      case round =>
        clear HS HZ
        obtain ⟨j, q, H, hj, rfl, rfl, hq, HLEN, HRT, HZ, HS⟩ := hrel
        have hx := HS.out.x
        obtain ⟨xa, xc, rfl⟩ := row_slice hx
        have n0 := HS.out.n.cell (i := 0) (v := .int .u64 (n : Int)) rfl
        by_cases hlt : j < n
        · have tl : decide (j < n) = true := decide_eq_true hlt
          have HC := Lib.hid (HEV.out _ H q xa xc HS.out.below hq (Evs.of_row hx) HRT.out (by have := HLEN.out; omega))
          have hz := HZ.out
          rw [show n - j = (n - (j + 1)) + 1 from by omega] at hz
          have HO := Lib.hid (HOK.out q H hq)
          have hql : (eventS L q H).2.1 ≤ L.length := (eventS_le H hq).2
          by_cases he : (eventS L q H).2.2 = 0
          · rw [eventsS_more he] at hz
            obtain ⟨ev, hev, hrt, -⟩ := HO.out he
            generalize hs : eventS L q H = s at *
            obtain ⟨s1, s2, s3⟩ := s
            dsimp only at he hev hz hql
            subst he hev
            have HZ2 := Lib.hid hz
            have HRT2 := Lib.hid hrt
            have HS0 := Lib.hid hs
            clear hz hrt hs HZ HRT HO hx
            go_wp2_with fail
            refine HC.out.mono ?_
            rintro e w4 hrb
            obtain ⟨ev2, hev2, b, rfl, hbl, hat, hb4⟩ := hrb.2 rfl
            obtain rfl : ev = ev2 := by simpa using hev2
            have HS4 := Lib.hid ((HS.out.call hb4).alloc (.cells #[.slice (some ⟨b, 0, none⟩) 1 1, .int .i64 (s2 : Int), .int .i64 0] 28))
            have HE4 := Lib.hid (one_ev (hat.alloc (.cells #[.slice (some ⟨b, 0, none⟩) 1 1, .int .i64 (s2 : Int), .int .i64 0] 28)) 1)
            have hM := At.new w4 #[.slice (some ⟨b, 0, none⟩) 1 1, .int .i64 (s2 : Int), .int .i64 0] 28
            have HM := Lib.hid hM
            clear hev2 hbl hat hb4 hrb HS n0 HC hM
            go_wp2_with (at_builtin; refine wpList_append_src rfl _ _ rfl w.heap.size (.slice xa H.length xc) H.length (evsCells H) rfl HS4.out.x (.slice (some ⟨b, 0, none⟩) 1 1) [ev] rfl HE4.out (.inr ⟨_, _, _, rfl⟩) ?c1 ?c2 ?_)
            case c1 => have := HLEN.out; simp; omega
            case c2 => exact HS4.out.below.size
            intro v7 w7 hv7 hg7
            have HS7 : Hid (SpE w w7 w2.heap.size (n, p, er) v7 (H ++ [ev])) := by
              refine ⟨HS4.out.r.grown hg7 (Ne.symm (row_not HS4.out.x HS4.out.r (by decide))), HS4.out.n.grown hg7 (Ne.symm (row_not HS4.out.x HS4.out.n (by decide))), ?_, HS4.out.below.grown hg7 HS4.out.below.size (fun k' hk' => (HS4.out.x.lt k' hk').1)⟩
              rw [← evsCells_snocY, List.length_append]
              exact hv7
            have hM7 := HM.out.grown hg7 (Ne.symm (row_not HS4.out.x HM.out (by decide)))
            have m1 := hM7.cell (i := 1) (v := .int .i64 (s2 : Int)) rfl
            have HLEN2 : Hid ((H ++ [ev]).length = j + 1) := by have := HLEN.out; unfold Hid; simp; omega
            clear hv7 hg7 hM7 HM HS4 HE4 HLEN
            go_wp2
            go_roundw
            case rel => exact ⟨j + 1, s2, H ++ [ev], by omega, by go_num, rfl, hql, HLEN2, HRT2, HZ2, HS7⟩
            case measure => simp [intOf]; omega
          · rw [eventsS_bad he] at hz
            have te : ((((eventS L q H).2.2 : Nat) : Int) != 0) = true := by simp; omega
            have HZ2 := Lib.hid hz
            have H0 := Lib.hid he
            clear hz HZ HRT HO hx he
            go_wp2_with fail
            refine HC.out.mono ?_
            rintro e w4 hrb
            obtain ⟨rfl, hb4⟩ := hrb.1 H0.out
            have HR4 := Lib.hid ((HS.out.call hb4).alloc (.cells #[.slice none 0 0, .int .i64 ((eventS L q H).2.1 : Int), .int .i64 ((eventS L q H).2.2 : Int)] 28))
            have hM := At.new w4 #[.slice none 0 0, .int .i64 ((eventS L q H).2.1 : Int), .int .i64 ((eventS L q H).2.2 : Int)] 28
            have m0 := hM.cell (i := 0) (v := .slice none 0 0) rfl
            have m1 := hM.cell (i := 1) (v := .int .i64 ((eventS L q H).2.1 : Int)) rfl
            have m2 := hM.cell (i := 2) (v := .int .i64 ((eventS L q H).2.2 : Int)) rfl
            have r0 := HR4.out.r.cell (i := 0) (v := .slice none 0 0) rfl
            have r1 := HR4.out.r.cell (i := 1) (v := .int .i64 0) rfl
            have r2 := HR4.out.r.cell (i := 2) (v := .int .i64 0) rfl
            have f0 := HR4.out.r.free 0
            have f1 := HR4.out.r.free 1
            have f2 := HR4.out.r.free 2
            have HW2 : Hid (P = ([], (eventS L q H).2.1, (eventS L q H).2.2)) := by
              have := HW.out
              rw [← HZ2.out, if_pos H0.out] at this
              exact this
            have HB3 := Lib.hid HR4.out.below
            generalize hs : eventS L q H = s at *
            have HFin := Lib.hid (((HR4.out.r.set 0 (.slice none 0 0)).set 1 (.int .i64 (s.2.1 : Int))).set 2 (.int .i64 (s.2.2 : Int)))
            clear hrb HS n0 HC hM HW hb4 HR4 hs HZ2
            go_wp2_with fail
            have e0 := HFin.out.cell (i := 0) (v := .slice none 0 0) rfl
            have e1 := HFin.out.cell (i := 1) (v := .int .i64 (s.2.1 : Int)) rfl
            have e2 := HFin.out.cell (i := 2) (v := .int .i64 (s.2.2 : Int)) rfl
            refine bodyPost_ret (v := .agg #[.slice none 0 0, .int .i64 (s.2.1 : Int), .int .i64 (s.2.2 : Int)]) (by simp [results, Tryd.results5, go_sem, e0, e1, e2]) rfl ?_
            rw [HW2.out]
            exact ⟨_, rfl, Evs.nil _ none 0, ((HB3.out.setCell (p := ⟨w.heap.size, 0, none⟩) (by simp) _).setCell (p := ⟨w.heap.size, 1, none⟩) (by simp) _).setCell (p := ⟨w.heap.size, 2, none⟩) (by simp) _⟩
        · obtain rfl : j = n := by omega
          have tl : decide (j < j) = false := decide_eq_false (by omega)
          have hz := HZ.out
          rw [Nat.sub_self, eventsS_zero] at hz
          have r0 := HS.out.r.cell (i := 0) (v := .slice none 0 0) rfl
          have r1 := HS.out.r.cell (i := 1) (v := .int .i64 0) rfl
          have r2 := HS.out.r.cell (i := 2) (v := .int .i64 0) rfl
          have f0 := HS.out.r.free 0
          have f1 := HS.out.r.free 1
          have f2 := HS.out.r.free 2
          have HB3 := Lib.hid HS.out.below
          by_cases hqe : q = L.length
          · have tq : ((q : Int) != (L.length : Int)) = false := by simp [hqe]
            have HW2 : Hid (P = (H, 0, 0)) := by
              have := HW.out
              rw [← hz, if_neg (c := q < L.length) (by omega), if_neg (by simp)] at this
              exact this
            have HFin := Lib.hid (((HS.out.r.set 0 (.slice xa H.length xc)).set 1 (.int .i64 0)).set 2 (.int .i64 0))
            have HX := Lib.hid hx
            have HR := Lib.hid HS.out.r
            clear HW hz HZ hqe hx HRT HS
            go_wp2_with fail
            have hq1 := ownsRow_setCell_other HX.out (a := ⟨w.heap.size, 0, none⟩) (row_not HX.out HR.out (by decide)) (.slice xa H.length xc)
            have hq2 := ownsRow_setCell_other hq1 (a := ⟨w.heap.size, 1, none⟩) (row_not HX.out HR.out (by decide)) (.int .i64 0)
            have hq3 := ownsRow_setCell_other hq2 (a := ⟨w.heap.size, 2, none⟩) (row_not HX.out HR.out (by decide)) (.int .i64 0)
            have e0 := HFin.out.cell (i := 0) (v := .slice xa H.length xc) rfl
            have e1 := HFin.out.cell (i := 1) (v := .int .i64 0) rfl
            have e2 := HFin.out.cell (i := 2) (v := .int .i64 0) rfl
            refine bodyPost_ret (v := .agg #[.slice xa H.length xc, .int .i64 0, .int .i64 0]) (by simp [results, Tryd.results5, go_sem, e0, e1, e2]) rfl ?_
            rw [HW2.out]
            exact ⟨_, rfl, Evs.of_row hq3, ((HB3.out.setCell (p := ⟨w.heap.size, 0, none⟩) (by simp) _).setCell (p := ⟨w.heap.size, 1, none⟩) (by simp) _).setCell (p := ⟨w.heap.size, 2, none⟩) (by simp) _⟩
          · have tq : ((q : Int) != (L.length : Int)) = true := by simp; omega
            have HW2 : Hid (P = ([], q, 2)) := by
              have := HW.out
              rw [← hz, if_pos (c := q < L.length) (by omega), if_pos (by simp)] at this
              exact this
            have HFin := Lib.hid (((HS.out.r.set 0 (.slice none 0 0)).set 1 (.int .i64 (q : Int))).set 2 (.int .i64 2))
            clear HW hz HZ hqe hx HRT HS
            go_wp2_with fail
            have e0 := HFin.out.cell (i := 0) (v := .slice none 0 0) rfl
            have e1 := HFin.out.cell (i := 1) (v := .int .i64 (q : Int)) rfl
            have e2 := HFin.out.cell (i := 2) (v := .int .i64 2) rfl
            refine bodyPost_ret (v := .agg #[.slice none 0 0, .int .i64 (q : Int), .int .i64 2]) (by simp [results, Tryd.results5, go_sem, e0, e1, e2]) rfl ?_
            rw [HW2.out]
            exact ⟨_, rfl, Evs.nil _ none 0, ((HB3.out.setCell (p := ⟨w.heap.size, 0, none⟩) (by simp) _).setCell (p := ⟨w.heap.size, 1, none⟩) (by simp) _).setCell (p := ⟨w.heap.size, 2, none⟩) (by simp) _⟩
  · have t0 : ((er : Int) != 0) = true := by simp; omega
    have HW : Hid (P = ([], p, er)) := by
      have := HP.out
      rw [if_neg (c := er = 0 ∧ 60 < n) (fun hh => h0 hh.1), if_pos (c := er ≠ 0) h0, if_pos (c := er ≠ 0) h0] at this
      exact this
    have HFin := Lib.hid (((HR2.out.set 0 (.slice none 0 0)).set 1 (.int .i64 (p : Int))).set 2 (.int .i64 (er : Int)))
    clear h0 HP
    go_wp2_with fail
    have e0 := HFin.out.cell (i := 0) (v := .slice none 0 0) rfl
    have e1 := HFin.out.cell (i := 1) (v := .int .i64 (p : Int)) rfl
    have e2 := HFin.out.cell (i := 2) (v := .int .i64 (er : Int)) rfl
    refine bodyPost_ret (v := .agg #[.slice none 0 0, .int .i64 (p : Int), .int .i64 (er : Int)]) (by simp [results, Tryd.results5, go_sem, e0, e1, e2]) rfl ?_
    rw [HW.out]
    exact ⟨_, rfl, Evs.nil _ none 0, ((HB3.out.setCell (p := ⟨w.heap.size, 0, none⟩) (by simp) _).setCell (p := ⟨w.heap.size, 1, none⟩) (by simp) _).setCell (p := ⟨w.heap.size, 2, none⟩) (by simp) _⟩
end Go.Proofs.YtgdijlmfpboecaaDoor
