/- Merged: TabJ, TabN, OrdC, OrdK. -/
import Derived.Test.YtmnblljenobofaaGreatDoorMg10
import Derived.Test.YtmnblljenobofaaGreatDoorMg8
import Derived.Test.YtmnblljenobofaaGreatDoorMg9
import Derived.Test.YtmnblljenobofaaGreatDoorMg4
import Derived.Test.YtmnblljenobofaaGreatDoorRows
import Derived.Laws.BitsAllLaws
import Derived.Deep.RegionHeld
import Derived.OrdersIn
import Derived.RangeFuncCalls
import Derived.OwnWalkIn
/- The walk of the reference's Table. -/
namespace Go.Proofs.YtmnblljenobofaaGreatDoor.WPlain
end Go.Proofs.YtmnblljenobofaaGreatDoor.WPlain
namespace Go.Proofs.YtmnblljenobofaaGreatDoor.QPlain
end Go.Proofs.YtmnblljenobofaaGreatDoor.QPlain
namespace Go.Proofs.YtmnblljenobofaaGreatDoor.RPlain
end Go.Proofs.YtmnblljenobofaaGreatDoor.RPlain
namespace Go.Proofs.YtmnblljenobofaaGreatDoor
open Go.RowKit WPlain QPlain RPlain

theorem own_monoT {w : World} {B B' : Nat} {e : TypeId} {z : Nat} {v : Value} {n : Nat} {xs : List Value} (h : w.ownsRow B e z v n xs) (hB : B' ≤ B) : w.ownsRow B' e z v n xs := by
  refine ⟨h.1, ?_⟩
  rcases h.2 with h0 | ⟨g, cap, cur, rfl, hb, rest⟩
  · exact .inl h0
  · exact .inr ⟨g, cap, cur, rfl, Nat.le_trans hB hb, rest⟩
theorem fst_take {h : List Ev} {k : Nat} (hk : k < h.length) (t : Int) : fstOf (h.take (k + 1)) t = if fstOf (h.take k) t = -1 then (if h[k].t = t then (k : Int) else -1) else fstOf (h.take k) t := by
  have h1 := fstOf_snoc (h.take k) h[k] t
  rw [← List.take_succ_eq_append_getElem hk] at h1
  rw [h1, List.length_take, Nat.min_eq_left (Nat.le_of_lt hk)]
theorem lst_take {h : List Ev} {k : Nat} (hk : k < h.length) (t : Int) : lstOf (h.take (k + 1)) t = if h[k].t = t then (k : Int) else lstOf (h.take k) t := by
  have h1 := lstOf_snoc (h.take k) h[k] t
  rw [← List.take_succ_eq_append_getElem hk] at h1
  rw [h1, List.length_take, Nat.min_eq_left (Nat.le_of_lt hk)]
theorem fst_ge (g : List Ev) (t : Int) : fstOf g t = -1 ∨ 0 ≤ fstOf g t := by
  unfold fstOf
  split
  · right; omega
  · left; rfl
/-- transactions whose rows of reads and writes are the call's own -/
def Own (B : Nat) (w : World) (ps : List (Tx × Value)) : Prop := ∀ p ∈ ps, w.ownsRow B 82 3 p.2 p.1.o.length (p.1.o.flatMap opC)
set_option maxRecDepth 100000 in
set_option maxHeartbeats 4000000 in
theorem refTableO_any (v : Value) (h : List Ev) (w : World) (hv : Evs w v h) (hl : h.length ≤ 65536) (hcap : ∀ a n c, v = .slice a n c → n ≤ c) :
    Calls Tryz.prog 10 #[v] w fun e w' => ∃ v' ps, e = .returned v' ∧ ps.map (·.1) = tableS h ∧ w'.ownsRow w.heap.size 64 5 v' ps.length (ps.flatMap txC) ∧ Own w.heap.size w' ps ∧ Below w.heap.size w w' := by
  obtain ⟨i0, hi0, hz0, hz1, hz2⟩ := info_parts infoTx
  have HV := Lib.hid hv
  have HOPS : Hid (∀ W t, Below w.heap.size w W → Calls Tryz.prog 30 #[v, .int .i64 t] W fun e w' => ∃ v', e = .returned v' ∧ w'.ownsRow W.heap.size 82 3 v' (opsOf h t).length ((opsOf h t).flatMap opC) ∧ Below W.heap.size W w') :=
    fun W t hW => refOps_any v h t W (hv.below hW (Nat.le_refl _)) hl hcap
  have HLST : Hid (∀ W t, Below w.heap.size w W → Calls Tryz.prog 29 #[v, .int .i64 t] W fun e w' => e = .returned (.int .i64 (lastOf h t)) ∧ Below W.heap.size W w') :=
    fun W t hW => last_any v h t W (hv.below hW (Nat.le_refl _)) hl
  have HNA : Hid (∀ W, Below w.heap.size w W → Calls Tryz.prog 27 #[v] W fun e w' => ∃ v', e = .returned v' ∧ w'.ownsRow W.heap.size 3 1 v' (namesOf h).length (ints (namesOf h)) ∧ Below W.heap.size W w') :=
    fun W hW => refNames_any v h W (hv.below hW (Nat.le_refl _)) hl
  obtain ⟨a, c, rfl⟩ := hv.len
  have hb0 := (Below.refl w.heap.size w).alloc (Nat.le_refl _) (.cells #[] 64)
  have HB0 := Lib.hid hb0
  have HR0 : Hid ((w.alloc (.cells #[] 64)).ownsRow w.heap.size 64 5 (.slice (some ⟨w.heap.size, 0, none⟩) 0 0) 0 []) := World.ownsRow_made w #[] 0 (Nat.le_refl _) (by unfold maxLen; omega) rfl
  clear hv hcap hb0
  go_enter Tryz.func10, Tryz.ntmps10
  go_wp2_with fail
  refine (HNA.out _ HB0.out).mono ?_
  rintro e w1 ⟨vn, rfl, hn1, hb1⟩
  have HB1 := Lib.hid (HB0.out.trans (hb1.mono HB0.out.size))
  have HN1 := Lib.hid (own_monoT hn1 HB0.out.size)
  have HR1 := Lib.hid (row_belowT HR0.out hb1)
  have hnl := namesOf_len h
  have HTS : Hid (tableS h = (namesOf h).map (txOf h)) := rfl
  have HXE : Hid (∀ t, txOf h t = ⟨t, fstOf (h.take h.length) t, lstOf (h.take h.length) t, stateS (lastOf h t), opsOf h t⟩) := fun t => by rw [List.take_length]; rfl
  obtain ⟨na, nc, rfl⟩ := row_slice hn1
  clear hb1 hn1 HNA HB0 HR0
  generalize namesOf h = ns at *
  have HP1 : Hid (∃ ps : List (Tx × Value), ps.length = 0 ∧ ps.map (·.1) = (ns.take 0).map (txOf h) ∧ w1.ownsRow w.heap.size 64 5 (.slice (some ⟨w.heap.size, 0, none⟩) 0 0) 0 (ps.flatMap txC) ∧ Own w.heap.size w1 ps) := ⟨[], rfl, rfl, HR1.out, fun _ hp => (List.not_mem_nil hp).elim⟩
  clear HR1
  go_wp2_with fail
  go_loopw [3, 13] (fun y x wr => ∃ j : Nat, j ≤ ns.length ∧ x = .int .i64 j ∧ Hid (∃ ps : List (Tx × Value), ps.length = j ∧ ps.map (·.1) = (ns.take j).map (txOf h) ∧ wr.ownsRow w.heap.size 64 5 y j (ps.flatMap txC) ∧ Own w.heap.size wr ps) ∧
    Hid (wr.ownsRow w.heap.size 3 1 (.slice na ns.length nc) ns.length (ints ns)) ∧ Hid (Below w.heap.size w wr)) (fun _ x _ => ns.length - (intOf x).toNat)
  case atStart => exact ⟨0, by omega, rfl, HP1, HN1, HB1⟩
  case round =>
    clear HP1 HN1 HB1
    obtain ⟨j, hj, rfl, HP, HN, HB⟩ := hrel
    obtain ⟨ps, hpl, hpm, hrow, hown⟩ := HP.out
    obtain ⟨ya, yc, rfl⟩ := row_slice hrow
    have HROW := Lib.hid hrow
    have HOWN := Lib.hid hown
    have HPM := Lib.hid hpm
    clear hrow hown hpm HP
    by_cases hlj : j < ns.length
    · have hc0 : ∃ gb oo, na = some ⟨gb, oo, none⟩ ∧ wr.cell? ⟨gb, oo + j, none⟩ = some (.int .i64 ns[j]) := by
        rcases (Rd.of_row HN.out).opened (by rw [ints_len]; omega) with ⟨gb, oo, cc', he, _, hcs⟩
        simp only [Value.slice.injEq] at he
        exact ⟨gb, oo, he.1, hcs j _ (by unfold ints; rw [List.getElem?_map, List.getElem?_eq_getElem hlj]; rfl)⟩
      obtain ⟨gb, oo, rfl, hcj⟩ := hc0
      have HTK : Hid ((ns.take (j + 1)).map (txOf h) = (ns.take j).map (txOf h) ++ [txOf h ns[j]]) := by unfold Hid; rw [List.take_succ_eq_append_getElem hlj, List.map_append]; rfl
      generalize ns[j] = t at *
      have HLS := Lib.hid (HLST.out wr t HB.out)
      go_wp2_with fail
      refine HLS.out.mono ?_
      rintro e w2 ⟨rfl, hb2⟩
      have HB2 := Lib.hid (HB.out.trans (hb2.mono HB.out.size))
      have HN2 := Lib.hid (row_belowT HN.out hb2)
      have HROW2 := Lib.hid (row_belowT HROW.out hb2)
      have HOWN2 : Hid (Own w.heap.size w2 ps) := fun p hp => row_belowT (HOWN.out p hp) hb2
      clear hb2 HB HN HROW HOWN HLS hcj
      go_wp2_with fail
      refine (state_any _ _).mono ?_
      rintro e w3 ⟨rfl, rfl⟩
      have HOP := Lib.hid (HOPS.out w2 t HB2.out)
      go_wp2_with fail
      refine HOP.out.mono ?_
      rintro e w3 ⟨vo, rfl, ho3, hb3⟩
      have HO3 := Lib.hid (own_monoT ho3 HB2.out.size)
      have HB3 := Lib.hid (HB2.out.trans (hb3.mono HB2.out.size))
      have HN3 := Lib.hid (row_belowT HN2.out hb3)
      have HROW3 := Lib.hid (row_belowT HROW2.out hb3)
      have HOWN3 : Hid (Own w.heap.size w3 ps) := fun p hp => row_belowT (HOWN2.out p hp) hb3
      obtain ⟨oa, oc, rfl⟩ := row_slice ho3
      clear ho3 hb3 HB2 HN2 HROW2 HOWN2 HOP
      obtain ⟨ss, hss⟩ : ∃ ss, stateS (lastOf h t) = ss := ⟨_, rfl⟩
      have HSS := Lib.hid hss
      rw [hss]
      clear hss
      have HT5 : Hid (At (w3.alloc (.cells #[.int .i64 t, .int .i64 (-1), .int .i64 0, .int .i64 ss, .slice oa (opsOf h t).length oc] 64)) w3.heap.size #[.int .i64 t, .int .i64 (fstOf (h.take 0) t), .int .i64 (lstOf (h.take 0) t), .int .i64 ss, .slice oa (opsOf h t).length oc] 64) := At.new w3 _ _
      have HB5 := Lib.hid (HB3.out.alloc HB3.out.size (.cells #[.int .i64 t, .int .i64 (-1), .int .i64 0, .int .i64 ss, .slice oa (opsOf h t).length oc] 64))
      have HN5 := Lib.hid (HN3.out.alloc (.cells #[.int .i64 t, .int .i64 (-1), .int .i64 0, .int .i64 ss, .slice oa (opsOf h t).length oc] 64))
      have HO5 := Lib.hid (HO3.out.alloc (.cells #[.int .i64 t, .int .i64 (-1), .int .i64 0, .int .i64 ss, .slice oa (opsOf h t).length oc] 64))
      have HROW5 := Lib.hid (HROW3.out.alloc (.cells #[.int .i64 t, .int .i64 (-1), .int .i64 0, .int .i64 ss, .slice oa (opsOf h t).length oc] 64))
      have HOWN5 : Hid (Own w.heap.size (w3.alloc (.cells #[.int .i64 t, .int .i64 (-1), .int .i64 0, .int .i64 ss, .slice oa (opsOf h t).length oc] 64)) ps) := fun p hp => (HOWN3.out p hp).alloc _
      have HRLT : Hid (∀ k, (Value.slice ya j yc).ownBlock = some k → k ≠ w3.heap.size) := fun k hk => by have := (own_base HROW3.out hk).2; omega
      have HTB : Hid (w.heap.size ≤ w3.heap.size) := HB3.out.size
      clear HB3 HN3 HO3 HROW3 HOWN3
      go_wp2_with fail
      generalize w3.alloc (.cells #[.int .i64 t, .int .i64 (-1), .int .i64 0, .int .i64 ss, .slice oa (opsOf h t).length oc] 64) = w5 at *
      generalize w3.heap.size = T at *
      have HOO : Hid (Only (fun b => b = T) w5 w5) := Only.refl _ _
      have HNn : Hid (∀ k, (Value.slice (some ⟨gb, oo, none⟩) ns.length nc).ownBlock = some k → ¬ k = T) := fun k hk hc => row_not HN5.out HT5.out (by decide) (hc ▸ hk)
      have HOn : Hid (∀ k, (Value.slice oa (opsOf h t).length oc).ownBlock = some k → ¬ k = T) := fun k hk hc => row_not HO5.out HT5.out (by decide) (hc ▸ hk)
      have HWn : Hid (∀ p ∈ ps, ∀ k, p.2.ownBlock = some k → ¬ k = T) := fun p hp k hk hc => row_not (HOWN5.out p hp) HT5.out (by decide) (hc ▸ hk)
      go_loopw [28] (fun x wr => ∃ k : Nat, k ≤ h.length ∧ x = .int .i64 k ∧ Hid (At wr T #[.int .i64 t, .int .i64 (fstOf (h.take k) t), .int .i64 (lstOf (h.take k) t), .int .i64 ss, .slice oa (opsOf h t).length oc] 64) ∧ Hid (Only (fun b => b = T) w5 wr)) (fun x _ => h.length - (intOf x).toNat)
      case atStart => exact ⟨0, by omega, rfl, HT5, HOO⟩
      case round =>
        clear HT5 HOO
        obtain ⟨k, hk, rfl, HT, HO⟩ := hrel
        have HBW : Hid (Below w.heap.size w wr) := HB5.out.trans (HO.out.below HB5.out.size (fun b _ hb => by rw [hb]; exact HTB.out))
        have hTl : T < wr.heap.size := HT.out.lt
        by_cases hlt : k < h.length
        · have HF := Lib.hid (fst_take hlt t)
          have HL := Lib.hid (lst_take hlt t)
          have hge := fst_ge (h.take k) t
          have hv2 := HV.out.below HBW.out (Nat.le_refl _)
          rcases hv2 with ⟨e0, _⟩ | ⟨l0, b, o, c', he, hbl, hc⟩
          · rw [e0] at hlt; simp at hlt
          · obtain ⟨rfl, rfl⟩ : a = some ⟨b, o, none⟩ ∧ c = c' := by simpa using he
            clear he
            obtain ⟨c0, c1, c2, c3⟩ := hc k hlt
            clear hc
            generalize h[k] = ev at *
            generalize fstOf (h.take k) t = F at *
            generalize lstOf (h.take k) t = L at *
            have hE := At.new wr #[.int .i64 ev.k, .int .i64 ev.t, .int .i64 ev.v, .int .i64 ev.x] 53
            have e1 := hE.cell (i := 1) (v := .int .i64 ev.t) rfl
            have HT1 := Lib.hid (HT.out.alloc (.cells #[.int .i64 ev.k, .int .i64 ev.t, .int .i64 ev.v, .int .i64 ev.x] 53))
            have HO1 := Lib.hid (HO.out.alloc (.cells #[.int .i64 ev.k, .int .i64 ev.t, .int .i64 ev.v, .int .i64 ev.x] 53))
            clear hE HT HO HBW
            by_cases het : ev.t = t
            · have tq : ((ev.t : Int) == t) = true := by simp [het]
              have HL2 : Hid (lstOf (h.take (k + 1)) t = k) := by unfold Hid; rw [HL.out, if_pos het]
              by_cases hf : F = -1
              · have HF2 : Hid (fstOf (h.take (k + 1)) t = k) := by unfold Hid; rw [HF.out, if_pos hf, if_pos het]
                subst hf
                have hST : At (((wr.alloc (.cells #[.int .i64 ev.k, .int .i64 ev.t, .int .i64 ev.v, .int .i64 ev.x] 53)).setCell ⟨T, 2, none⟩ (.int .i64 k)).setCell ⟨T, 1, none⟩ (.int .i64 k)) T #[.int .i64 t, .int .i64 k, .int .i64 k, .int .i64 ss, .slice oa (opsOf h t).length oc] 64 := (HT1.out.set 2 (.int .i64 k)).set 1 (.int .i64 k)
                have HST := Lib.hid hST
                have HO2 := Lib.hid ((HO1.out.setCell (p := ⟨T, 2, none⟩) (fun _ => rfl) (.int .i64 k)).setCell (p := ⟨T, 1, none⟩) (fun _ => rfl) (.int .i64 k))
                clear het HL HF hge hST
                go_upto_region 10 with fail
                generalize wr.alloc (.cells #[.int .i64 ev.k, .int .i64 ev.t, .int .i64 ev.v, .int .i64 ev.x] 53) = wq at *
                have f1 := HT1.out.free 1
                have f2 := HT1.out.free 2
                have d1 := HT1.out.cell (i := 1) (v := .int .i64 (-1)) rfl
                have d2 := HT1.out.cell (i := 2) (v := .int .i64 L) rfl
                go_wp2
                go_roundw
                case rel => exact ⟨k + 1, by omega, by go_num, by rw [HF2.out, HL2.out]; exact HST.out, HO2.out⟩
                case measure => simp [intOf]; omega
              · have HF2 : Hid (fstOf (h.take (k + 1)) t = F) := by unfold Hid; rw [HF.out, if_neg hf]
                have hF0 : 0 ≤ F := by omega
                have hST : At ((wr.alloc (.cells #[.int .i64 ev.k, .int .i64 ev.t, .int .i64 ev.v, .int .i64 ev.x] 53)).setCell ⟨T, 2, none⟩ (.int .i64 k)) T #[.int .i64 t, .int .i64 F, .int .i64 k, .int .i64 ss, .slice oa (opsOf h t).length oc] 64 := HT1.out.set 2 (.int .i64 k)
                have HST := Lib.hid hST
                have HO2 := Lib.hid (HO1.out.setCell (p := ⟨T, 2, none⟩) (fun _ => rfl) (.int .i64 k))
                clear het HL HF hge hST hf
                go_upto_region 10 with fail
                generalize wr.alloc (.cells #[.int .i64 ev.k, .int .i64 ev.t, .int .i64 ev.v, .int .i64 ev.x] 53) = wq at *
                have f1 := HT1.out.free 1
                have f2 := HT1.out.free 2
                have d1 := HT1.out.cell (i := 1) (v := .int .i64 F) rfl
                have d2 := HT1.out.cell (i := 2) (v := .int .i64 L) rfl
                go_wp2
                go_roundw
                case rel => exact ⟨k + 1, by omega, by go_num, by rw [HF2.out, HL2.out]; exact HST.out, HO2.out⟩
                case measure => simp [intOf]; omega
            · have tq : ((ev.t : Int) == t) = false := by simp [het]
              have HL2 : Hid (lstOf (h.take (k + 1)) t = L) := by unfold Hid; rw [HL.out, if_neg het]
              have HF2 : Hid (fstOf (h.take (k + 1)) t = F) := by
                unfold Hid
                rw [HF.out, if_neg het]
                split
                · rename_i hc; exact hc.symm
                · rfl
              clear het HL HF hge
              go_wp2
              go_roundw
              case rel => exact ⟨k + 1, by omega, by go_num, by rw [HF2.out, HL2.out]; exact HT1.out, HO1.out⟩
              case measure => simp [intOf]; omega
        · obtain rfl : k = h.length := by omega
          obtain ⟨w6, hw6⟩ : ∃ w6 : World, w6 = wr := ⟨wr, rfl⟩
          subst hw6
          have HX := HXE.out t
          rw [HSS.out] at HX
          have HXX := Lib.hid HX
          clear HX
          have HN6 := Lib.hid (own_only HN5.out HO.out HNn.out)
          have HO6 := Lib.hid (own_only HO5.out HO.out HOn.out)
          have HROW6 := Lib.hid (own_only HROW5.out HO.out HRLT.out)
          have HOWN6 : Hid (Own w.heap.size w6 ps) := fun p hp => own_only (HOWN5.out p hp) HO.out (HWn.out p hp)
          generalize fstOf (h.take h.length) t = F at *
          generalize lstOf (h.take h.length) t = L at *
          have d0 := HT.out.cell (i := 0) (v := .int .i64 t) rfl
          have d1 := HT.out.cell (i := 1) (v := .int .i64 F) rfl
          have d2 := HT.out.cell (i := 2) (v := .int .i64 L) rfl
          have d3 := HT.out.cell (i := 3) (v := .int .i64 ss) rfl
          have d4 := HT.out.cell (i := 4) (v := .slice oa (opsOf h t).length oc) rfl
          have HNA6 := Lib.hid (HN6.out.alloc (.cells #[.int .i64 t, .int .i64 F, .int .i64 L, .int .i64 ss, .slice oa (opsOf h t).length oc] 64))
          have HOA6 := Lib.hid (HO6.out.alloc (.cells #[.int .i64 t, .int .i64 F, .int .i64 L, .int .i64 ss, .slice oa (opsOf h t).length oc] 64))
          have HRA6 := Lib.hid (HROW6.out.alloc (.cells #[.int .i64 t, .int .i64 F, .int .i64 L, .int .i64 ss, .slice oa (opsOf h t).length oc] 64))
          have HWA6 : Hid (Own w.heap.size (w6.alloc (.cells #[.int .i64 t, .int .i64 F, .int .i64 L, .int .i64 ss, .slice oa (opsOf h t).length oc] 64)) ps) := fun p hp => (HOWN6.out p hp).alloc _
          have HBA6 := Lib.hid (HBW.out.alloc HBW.out.size (.cells #[.int .i64 t, .int .i64 F, .int .i64 L, .int .i64 ss, .slice oa (opsOf h t).length oc] 64))
          have HTX : Hid (txC (txOf h t, Value.slice oa (opsOf h t).length oc) = [.int .i64 t, .int .i64 F, .int .i64 L, .int .i64 ss, .slice oa (opsOf h t).length oc]) := by unfold Hid; rw [HXX.out]; rfl
          have HOX : Hid ((txOf h t).o = opsOf h t) := rfl
          clear HN5 HO5 HROW5 HOWN5 HNn HOn HWn HRLT HO HBW HN6 HO6 HROW6 HOWN6 HB5 HT
          obtain ⟨X, hX⟩ : ∃ X, txOf h t = X := ⟨_, rfl⟩
          rw [hX] at HTX HTK HOX
          clear hX HXX
          generalize opsOf h t = q at *
          obtain ⟨PS, hPS⟩ : ∃ PS, ps.flatMap txC = PS := ⟨_, rfl⟩
          rw [hPS] at HRA6
          have HPS := Lib.hid hPS
          clear hPS
          go_wp2_with (at_builtin; refine wpList_append_own _ rfl _ _ 34 rfl w.heap.size 64 i0 _ 5 56 Tryz.underlying34 hi0 hz0 hz1 hz2 rfl (by decide) (.slice ya j yc) j PS rfl HRA6.out ⟨w6.heap.size, 0, none⟩ 1 1 [.int .i64 t, .int .i64 F, .int .i64 L, .int .i64 ss, .slice oa q.length oc] rfl rfl (cells_at (At.new w6 #[.int .i64 t, .int .i64 F, .int .i64 L, .int .i64 ss, .slice oa q.length oc] _)) (by intro u hu; simp at hu; rcases hu with rfl | rfl | rfl | rfl | rfl <;> rfl) (by unfold maxLen; omega) (by omega) HBA6.out.size ?_)
          intro v7 w7 hr7 hg7 _
          obtain ⟨ya7, yc7, rfl⟩ := row_slice hr7
          have HN7 := Lib.hid (HNA6.out.kept hg7 (row_apart HNA6.out HRA6.out (by decide)))
          have HB7 : Hid (Below w.heap.size w w7) := HBA6.out.grown hg7 HBA6.out.size (fun k' hk' => (HRA6.out.lt k' hk').1)
          have HP7 : Hid (∃ ps : List (Tx × Value), ps.length = j + 1 ∧ ps.map (·.1) = (ns.take (j + 1)).map (txOf h) ∧ w7.ownsRow w.heap.size 64 5 (.slice ya7 (j + 1) yc7) (j + 1) (ps.flatMap txC) ∧ Own w.heap.size w7 ps) := by
            refine ⟨ps ++ [(X, .slice oa q.length oc)], by rw [List.length_append, hpl]; rfl, by rw [List.map_append, HPM.out, HTK.out]; rfl, ?_, fun p hp => ?_⟩
            · rw [List.flatMap_append, HPS.out, List.flatMap_singleton, HTX.out]
              exact hr7
            · rcases List.mem_append.1 hp with hp | hp
              · exact (HWA6.out p hp).kept hg7 (row_apart (HWA6.out p hp) HRA6.out (by decide))
              · rw [List.mem_singleton.1 hp]
                show w7.ownsRow _ _ _ (.slice oa q.length oc) X.o.length (X.o.flatMap opC)
                rw [HOX.out]
                exact HOA6.out.kept hg7 (row_apart HOA6.out HRA6.out (by decide))
          clear hr7 hg7
          go_wp2
          go_roundw
          case rel => exact ⟨j + 1, by omega, by go_num, HP7, HN7, HB7⟩
          case measure => simp [intOf]; omega
    · obtain rfl : j = ns.length := by omega
      have HRES : Hid (∃ qs : List (Tx × Value), qs.map (·.1) = tableS h ∧ wr.ownsRow w.heap.size 64 5 (.slice ya ns.length yc) qs.length (qs.flatMap txC) ∧ Own w.heap.size wr qs) := ⟨ps, by rw [HPM.out, List.take_length, HTS.out], by rw [hpl]; exact HROW.out, HOWN.out⟩
      go_wp2
      obtain ⟨qs, q1, q2, q3⟩ := HRES.out
      refine bodyPost_ret (v := .slice ya ns.length yc) (by simp [results, Tryz.results10, go_sem]) rfl ⟨_, qs, rfl, q1, q2, q3, HB.out⟩
theorem refTable_any (v : Value) (h : List Ev) (w : World) (hv : Evs w v h) (hl : h.length ≤ 65536) (hcap : ∀ a n c, v = .slice a n c → n ≤ c) :
    Calls Tryz.prog 10 #[v] w fun e w' => ∃ v', e = .returned v' ∧ Txs w' v' (tableS h) ∧ Below w.heap.size w w' := by
  refine (refTableO_any v h w hv hl hcap).mono ?_
  rintro e w' ⟨v', ps, rfl, h1, h2, h3, hb⟩
  exact ⟨v', rfl, ⟨ps, h1, Rws.of_row txC_len h2, fun p hp => Opv.of_row (h3 p hp)⟩, hb⟩
end Go.Proofs.YtmnblljenobofaaGreatDoor
/- The walks of the laws' alive, and of TableTells. -/
namespace Go.Proofs.YtmnblljenobofaaGreatDoor.WPlain
end Go.Proofs.YtmnblljenobofaaGreatDoor.WPlain
namespace Go.Proofs.YtmnblljenobofaaGreatDoor.QPlain
end Go.Proofs.YtmnblljenobofaaGreatDoor.QPlain
namespace Go.Proofs.YtmnblljenobofaaGreatDoor.RPlain
end Go.Proofs.YtmnblljenobofaaGreatDoor.RPlain
namespace Go.Proofs.YtmnblljenobofaaGreatDoor
open Go.RowKit WPlain QPlain RPlain

theorem evs_at {w : World} {b : Nat} {t : TypeId} (c : Nat) (l : List Ev) (h : At w b (evsCells l).toArray t) : Evs w (.slice (some ⟨b, 0, none⟩) l.length c) l := by
  by_cases h0 : 0 < l.length
  · refine .inr ⟨h0, b, 0, c, rfl, h.lt, fun i hi => ?_⟩
    have hq : ∀ j, j < 4 → w.cell? ⟨b, 0 + i * 4 + j, none⟩ = (evCells l[i])[j]? := by
      intro j hj
      have h1 := evsCells_get l i hi j hj
      have hj4 : j < (evCells l[i]).length := hj
      rw [List.getElem?_eq_getElem hj4] at h1 ⊢
      rw [Nat.zero_add]
      exact h.cell (by simpa using h1)
    exact ⟨hq 0 (by omega), hq 1 (by omega), hq 2 (by omega), hq 3 (by omega)⟩
  · have : l = [] := List.length_eq_zero_iff.1 (by omega)
    subst this
    exact Evs.nil _ _ _
end Go.Proofs.YtmnblljenobofaaGreatDoor
/- The walks of package order's bit and isBefore. -/
namespace Go.Proofs.YtmnblljenobofaaGreatDoor.WPlain
end Go.Proofs.YtmnblljenobofaaGreatDoor.WPlain
namespace Go.Proofs.YtmnblljenobofaaGreatDoor.QPlain
end Go.Proofs.YtmnblljenobofaaGreatDoor.QPlain
namespace Go.Proofs.YtmnblljenobofaaGreatDoor.RPlain
end Go.Proofs.YtmnblljenobofaaGreatDoor.RPlain
namespace Go.Proofs.YtmnblljenobofaaGreatDoor
open Go.RowKit WPlain QPlain RPlain

theorem pow_u32 {k : Nat} (hk : k < 32) : (2 : Int) ^ k % 4294967296 = ((2 ^ k : Nat) : Int) := by
  have h1 : 2 ^ k < 4294967296 := Nat.pow_lt_pow_right (a := 2) (m := k) (n := 32) (by decide) hk
  have h2 : (2 : Int) ^ k = ((2 ^ k : Nat) : Int) := (Int.natCast_pow 2 k).symm
  rw [h2]
  generalize 2 ^ k = x at *
  omega
theorem bit_any (k : Nat) (hk : k < 32) (w : World) : Calls Tryz.prog 83 #[.int .i64 (k : Int)] w fun e w' => e = .returned (.int .u32 ((2 ^ k : Nat) : Int)) ∧ w' = w := by
  go_enter Tryz.func83, Tryz.ntmps83
  go_wp2
  go_ret
  exact ⟨by rw [pow_u32 hk]; rfl, rfl⟩
set_option maxRecDepth 100000 in
theorem isBefore_any (X Y : Tx) (a1 a2 : Option Addr) (n1 n2 c1 c2 : Nat) (w : World) :
    Calls Tryz.prog 82 #[.agg #[.int .i64 X.n, .int .i64 X.f, .int .i64 X.l, .int .i64 X.s, .slice a1 n1 c1], .agg #[.int .i64 Y.n, .int .i64 Y.f, .int .i64 Y.l, .int .i64 Y.s, .slice a2 n2 c2]] w fun e w' => e = .returned (.bool (bfr X Y)) ∧ Below w.heap.size w w' := by
  go_enter Tryz.func82, Tryz.ntmps82
  go_wp2
  all_goals go_ret
  all_goals exact ⟨by unfold bfr; simp [*], ((Below.refl _ _).alloc (Nat.le_refl _) _).alloc (by simp) _⟩
end Go.Proofs.YtmnblljenobofaaGreatDoor
/- A region that draws its order, within a round of a loop over a function, walked by the plain law of a region that holds a condition on the world. -/
namespace Go.Proofs.YtmnblljenobofaaGreatDoor

def noDefer (ops : Array Oper) : Bool := ops.all fun o => match o.op with | .defer _ => false | _ => true
theorem noDefer_spec {ops : Array Oper} (h : noDefer ops = true) {i : Nat} {o : Oper} (ho : ops[i]? = some o) : ∀ c, o.op ≠ .defer c := by
  intro c hc
  have h1 := Array.all_eq_true.1 h i (Array.getElem?_eq_some_iff.1 ho).1
  rw [(Array.getElem?_eq_some_iff.1 ho).2, hc] at h1
  cases h1
theorem rows_round {l n : Nat} {P : Program} {row : String} {args : Array Value} {w : World} {R : Value → World → Prop} (h : Rows P row args w R) : RowsIn (Fence.wide.inRound l) n P row args w R :=
  fun c cs _ => let ⟨v, w', r, s⟩ := h c cs; ⟨v, w', r, stepsIn_wide.2 s⟩
theorem oper_round {l n : Nat} {P : Program} {o : Oper} {a : Act} {w : World} {K : Act → World → Prop} {Q : Exit → Act → World → Prop} (ho : ∀ c, o.op ≠ .defer c)
    (h : o.wp P a w K Q) : o.wpIn (Fence.wide.inRound l) n P a w K Q := by
  unfold Oper.wp at h
  unfold Oper.wpIn
  refine ⟨fun _ _ => trivial, ?_⟩
  rw [Oper.semAt_eq _ _ _ ho]
  generalize (execOp a.eval o).run P w = r at *
  cases r with
  | ok x w' =>
    cases x <;> simp only [Oper.upon, Oper.uponIn] at h ⊢
    case value => exact h
    case skip => exact h
    case defer => exact h
    case enter f args => exact ⟨fun hh => by simp [Fence.wide] at hh, (CallsIn.inRound l (callsIn_wide.2 h)).mono fun e w'' he => by cases e <;> exact he⟩
    case row row args => exact ⟨fun hh => by simp [Fence.wide] at hh, rows_round h⟩
  | halt x w' => cases x <;> simp only [Oper.upon, Oper.uponIn] at h ⊢ <;> exact h
theorem wpOp_round {l n : Nat} {P : Program} {ops : Array Oper} {Q : Exit → Act → World → Prop} (hd : noDefer ops = true) (hl : ¬ LetsOut Q) {i : Nat} {a : Act} {w : World} {K K' : Act → World → Prop} (hK : ∀ a w, K a w → K' a w)
    (h : wpOp P ops Q i K a w) : wpOpIn (Fence.wide.inRound l) n P ops Q i K' a w := by
  unfold wpOp at h
  unfold wpOpIn
  cases ho : ops[i]? with
  | none => simp only [ho] at h ⊢; exact hK _ _ h
  | some o =>
    simp only [ho] at h ⊢
    split
    · rename_i hw
      simp only [hw, if_true] at h
      rcases h with h | ⟨_, h⟩
      · exact Oper.wpIn_mono hK (oper_round (noDefer_spec hd ho) h)
      · exact absurd h hl
    · rename_i hw
      simp only [hw] at h
      exact ⟨fun _ _ => trivial, hK _ _ h⟩
theorem wpAny_round {l n : Nat} {P : Program} {md : Region.Mode} {ops : Array Oper} {Q : Exit → Act → World → Prop} (hd : noDefer ops = true) (hl : ¬ LetsOut Q) : ∀ (fuel : Nat) (listed : Array Bool) (a : Act) (w : World),
    wpAny P md ops Q fuel listed a w → wpAnyIn (Fence.wide.inRound l) n P md ops Q fuel listed a w
  | 0, _, _, _, h => h
  | fuel + 1, _, _, _, h => ⟨h.1, fun i hi => wpOp_round hd hl (fun _ _ h' => wpAny_round hd hl fuel _ _ _ h') (h.2 i hi)⟩
theorem region_round {l n : Nat} {P : Program} {ops : Array Oper} {id : Nat} {Q : Exit → Act → World → Prop} {a : Act} {w : World} (S : World → Prop) (hm : P.follows .mixedOrders = true) (hd : noDefer ops = true) (hl : ¬ LetsOut Q)
    (h : wpAnyH P .any ops Q S ops.size (Array.replicate ops.size false) a w.drew) : (Code.region id ops true).wpIn (Fence.wide.inRound l) n P Q a w :=
  wpIn_region_any hm (wpAny_round hd hl _ _ _ _ (wpAny_of_held _ _ _ _ h))
end Go.Proofs.YtmnblljenobofaaGreatDoor
