/- The walk of the reference's Source. -/
import Derived.Test.YtkliahdgciajjaaDoorUnqH
import Derived.Test.YtkliahdgciajjaaDoorMg8
import Derived.Test.YtkliahdgciajjaaDoorPrpJ
import Derived.Deep.RegionHeldLaw
import Derived.Deep.DeepMust
namespace Go.Proofs.YtkliahdgciajjaaDoor.WPlain
end Go.Proofs.YtkliahdgciajjaaDoor.WPlain
namespace Go.Proofs.YtkliahdgciajjaaDoor.QPlain
end Go.Proofs.YtkliahdgciajjaaDoor.QPlain
namespace Go.Proofs.YtkliahdgciajjaaDoor.RPlain
end Go.Proofs.YtkliahdgciajjaaDoor.RPlain
namespace Go.Proofs.YtkliahdgciajjaaDoor.RPlain
open WPlain QPlain

theorem src_self {l : List Tx} {t i : Nat} {o : Rwo} (ho : (opsAt l t)[i]? = some o) (h : o.w = true ∨ ownsB ((opsAt l t).take i) o.v = true) : srcS l t i = (t : Int) := by
  unfold srcS
  rw [ho]
  dsimp only
  rw [if_pos h]
/-- the first that writes it -/
def firstW (l : List Tx) (t : Nat) (v x : Int) : Option Nat := (List.range l.length).find? (fun k => !decide (k = t) && writesB (opsAt l k) v x)
/-- the source that it tells -/
def asSrc : Option Nat → Int
  | some k => (k : Int)
  | none => -2
theorem src_read {l : List Tx} {t i : Nat} {o : Rwo} (ho : (opsAt l t)[i]? = some o) (h : ¬ (o.w = true ∨ ownsB ((opsAt l t).take i) o.v = true)) :
    srcS l t i = if o.x = 0 then -1 else asSrc (firstW l t o.v o.x) := by
  unfold srcS
  rw [ho]
  dsimp only
  rw [if_neg h]
  by_cases hx : o.x = 0
  · rw [if_pos hx, if_pos hx]
  · rw [if_neg hx, if_neg hx]
    unfold firstW
    cases (List.range l.length).find? (fun k => !decide (k = t) && writesB (opsAt l k) o.v o.x) <;> rfl
theorem range_find {n k : Nat} {p : Nat → Bool} (hk : k < n) (hn : ∀ j, j < k → p j = false) (hp : p k = true) : (List.range n).find? p = some k := by
  have h1 : List.range n = List.range k ++ (List.range (n - k)).map (k + ·) := by
    conv => lhs; rw [show n = k + (n - k) by omega, List.range_add]
  rw [h1, List.find?_append, List.find?_eq_none.2 (fun j hj => by rw [hn j (List.mem_range.1 hj)]; simp), Option.none_or]
  obtain ⟨m, hm⟩ : ∃ m, n - k = m + 1 := ⟨n - k - 1, by omega⟩
  rw [hm, List.range_succ_eq_map]
  simp [hp]
theorem firstW_some {l : List Tx} {t k : Nat} {v x : Int} (hk : k < l.length) (hn : ∀ j, j < k → j ≠ t → writesB (opsAt l j) v x = false) (hne : k ≠ t) (hp : writesB (opsAt l k) v x = true) : firstW l t v x = some k := by
  refine range_find hk (fun j hj => ?_) (by simp [hne, hp])
  by_cases he : j = t
  · simp [he]
  · rw [hn j hj he]; simp
theorem firstW_none {l : List Tx} {t : Nat} {v x : Int} (hn : ∀ j, j < l.length → j ≠ t → writesB (opsAt l j) v x = false) : firstW l t v x = none := by
  refine List.find?_eq_none.2 fun j hj => ?_
  by_cases he : j = t
  · simp [he]
  · rw [hn j (List.mem_range.1 hj) he]; simp
end Go.Proofs.YtkliahdgciajjaaDoor.RPlain
namespace Go.Proofs.YtkliahdgciajjaaDoor
open Go.RowKit WPlain QPlain RPlain

set_option maxRecDepth 100000 in
set_option maxHeartbeats 8000000 in
theorem refSource_any (v : Value) (l : List Tx) (t i : Nat) (w : World) (hv : Txs w v l) (hf : Fine l) (ht : t < l.length) (hi : i < (opsAt l t).length) :
    Calls Tryd.prog 22 #[v, .int .i64 (t : Int), .int .i64 (i : Int)] w fun e w' => e = .returned (.int .i64 (srcS l t i)) ∧ Below w.heap.size w w' := by
  have HV := Lib.hid hv
  have HF := Lib.hid hf
  have hl6 := hf.six
  obtain ⟨b, o, c, he⟩ := hv.opened (by omega)
  subst he
  obtain ⟨u, x0, x1, x2, x3, x4, q⟩ := hv.get t ht
  have hfx := hf.ops _ (List.getElem_mem ht)
  have hoe := opsAt_eq ht
  have hbl := cell_lt x0
  have hsx := fun (o : Rwo) (ho : (opsAt l t)[i]? = some o) h => src_self ho h
  have hsr := fun (o : Rwo) (ho : (opsAt l t)[i]? = some o) h => src_read ho h
  rw [hoe] at hi hsx hsr
  have HFS := Lib.hid (fun (k : Nat) (v x : Int) (hk : k < l.length) h1 h2 h3 => firstW_some (t := t) (v := v) (x := x) hk h1 h2 h3)
  have HFN := Lib.hid (fun (v x : Int) h => firstW_none (l := l) (t := t) (v := v) (x := x) h)
  clear hv hf x0 x1 x2 x3 hoe
  obtain ⟨R, hR⟩ : ∃ R, srcS l t i = R := ⟨_, rfl⟩
  rw [hR] at hsx hsr ⊢
  clear hR
  obtain ⟨ua, uc, rfl, huc⟩ := q.len
  obtain ⟨ob, oo, rfl, hobl, c0, c1, c2⟩ := Opv.at q i hi
  have hOget := List.getElem?_eq_getElem hi
  replace hsx := hsx _ hOget
  replace hsr := hsr _ hOget
  have hcut := fun (W : World) (hW : Below w.heap.size w W) => (q.below hW (Nat.le_refl _)).cut i (Nat.le_of_lt hi)
  have hwf := hfx.1
  have HOW := Lib.hid (fun (v : Int) (W : World) (hW : Below w.heap.size w W) => refOwns_any _ (l[t].o.take i) v W (hcut W hW) (by rw [List.length_take]; omega))
  clear hcut hOget q
  generalize l[t].o[i] = O at *
  generalize l[t].o.take i = pre at *
  obtain ⟨mm, hmm⟩ : ∃ mm, l[t].o.length = mm := ⟨_, rfl⟩
  rw [hmm] at x4 huc hi hwf
  clear hmm hfx
  obtain ⟨ow, ov, ox⟩ := O
  dsimp only at *
  have HSX := Lib.hid hsx
  have HSR := Lib.hid hsr
  have HB2 := Lib.hid ((Below.refl w.heap.size w).alloc (Nat.le_refl _) (.cells #[.bool ow, .int .i64 ov, .int .i64 ox] 46))
  have HOB := Lib.hid (At.new w #[.bool ow, .int .i64 ov, .int .i64 ox] 46)
  have hiu : (i : Int) ≤ (uc : Int) := by omega
  have him : (i : Int) < (mm : Int) := by omega
  have htl : (t : Int) < (l.length : Int) := by omega
  clear hsx hsr
  go_enter Tryd.func22, Tryd.ntmps22
  go_upto_region 2 with fail
  have e0 := HOB.out.cell (i := 0) rfl
  have e1 := HOB.out.cell (i := 1) rfl
  have e2 := HOB.out.cell (i := 2) rfl
  have hN := HOB.out.lt
  have x5 := (((Below.refl w.heap.size w).alloc (Nat.le_refl _) (.cells #[.bool ow, .int .i64 ov, .int .i64 ox] 46)).cell (p := ⟨b, o + t * 5 + 4, none⟩) hbl).trans x4
  generalize w.alloc (.cells #[.bool ow, .int .i64 ov, .int .i64 ox] 46) = w2 at *
  clear c0 c1 c2 x4
  cases ow with
  | true =>
    have hr := HSX.out (.inl rfl)
    subst hr
    clear HSX HSR
    go_quiet (fail)
    have HB3 : Hid (Below w.heap.size w (w2.drewN nq)) := below_drN HB2.out nq
    go_wp2
    go_ret
    exact ⟨rfl, HB3.out⟩
  | false =>
    have HSC : Hid (∀ W, Below w2.heap.size w2 W → (W.cell? ⟨w.heap.size, 0, none⟩ = some (.bool false) ∧ W.cell? ⟨w.heap.size, 1, none⟩ = some (.int .i64 ov) ∧ W.cell? ⟨w.heap.size, 2, none⟩ = some (.int .i64 ox)) ∧ W.cell? ⟨b, o + t * 5 + 4, none⟩ = some (.slice (some ⟨ob, oo, none⟩) mm uc)) := fun W hW =>
      ⟨⟨(HOB.out.below hW hN).cell (i := 0) rfl, (HOB.out.below hW hN).cell (i := 1) rfl, (HOB.out.below hW hN).cell (i := 2) rfl⟩, (hW.cell (p := ⟨b, o + t * 5 + 4, none⟩) (cell_lt x5)).trans x5⟩
    have HWB : Hid (∀ W, Below w2.heap.size w2 W → Below w.heap.size w W) := fun W hW => HB2.out.trans (hW.mono HB2.out.size)
    have HOW2 := Lib.hid (fun (W : World) (hW : Below w2.heap.size w2 W) => HOW.out ov W (HWB.out W hW))
    have HAT : Hid (∀ W, Below w2.heap.size w2 W → At W w.heap.size #[.bool false, .int .i64 ov, .int .i64 ox] 46) := fun W hW => HOB.out.below hW hN
    obtain ⟨N, hNN⟩ : ∃ N, w.heap.size = N := ⟨_, rfl⟩
    obtain ⟨r, hr⟩ : ∃ r, ownsB pre ov = r := ⟨_, rfl⟩
    rw [hr] at HOW2 HSX HSR
    rw [hNN] at HSC e0 e1 e2 HAT
    clear hr HOB HOW hN
    first
    | go_must (go_region_held_law (fun w' => (w'.cell? ⟨N, 0, none⟩ = some (.bool false) ∧ w'.cell? ⟨N, 1, none⟩ = some (.int .i64 ov) ∧ w'.cell? ⟨N, 2, none⟩ = some (.int .i64 ox)) ∧ w'.cell? ⟨b, o + t * 5 + 4, none⟩ = some (.slice (some ⟨ob, oo, none⟩) mm uc))
        (first | exact HSC.out _ hb5 | exact HSC.out _ (below_drP _))
        (first
          | (go_at_call 30; refine (HOW2.out _ (below_drP _)).mono ?_; rintro e w5 ⟨rfl, hb⟩; have hb5 := below_stpP hb)))
    | fail
    have HB5 := Lib.hid (HWB.out _ hb5)
    have HA5 := Lib.hid (HAT.out _ hb5)
    clear hb5 hb HSC HWB HAT HOW2 e0 e1 e2 x5
    cases r with
    | true =>
      have hr := HSX.out (.inr rfl)
      subst hr
      clear HSX HSR
      go_wp2
      go_ret
      exact ⟨rfl, HB5.out⟩
    | false =>
      have hr := HSR.out (by simp)
      clear HSX HSR
      have z2 := HA5.out.cell (i := 2) rfl
      by_cases h0 : ox = 0
      · have t0 : ((ox : Int) == 0) = true := by simp [h0]
        rw [if_pos h0] at hr
        subst hr
        clear h0
        go_wp2
        go_ret
        exact ⟨rfl, HB5.out⟩
      · have t0 : ((ox : Int) == 0) = false := by simp [h0]
        rw [if_neg h0] at hr
        have HR := Lib.hid hr
        have HFS1 := Lib.hid (fun (k : Nat) (hk : k < l.length) h1 h2 h3 => HFS.out k ov ox hk h1 h2 h3)
        have HFN1 := Lib.hid (fun h => HFN.out ov ox h)
        have HB6 := Lib.hid (Below.refl w5.heap.size w5)
        have HN6 : Hid (∀ k, k < 0 → k ≠ t → writesB (opsAt l k) ov ox = false) := fun k hk => absurd hk (Nat.not_lt_zero _)
        clear h0 hr HFS HFN
        go_wp2_with fail
        go_loopw [38] (fun y wr => ∃ k : Nat, k ≤ l.length ∧ y = .int .i64 k ∧ Hid (∀ k', k' < k → k' ≠ t → writesB (opsAt l k') ov ox = false) ∧ Hid (Below w5.heap.size w5 wr)) (fun y _ => l.length - (intOf y).toNat)
        case atStart => exact ⟨0, by omega, rfl, HN6, HB6⟩
        case round =>
          clear HB6 HN6 z2
          obtain ⟨k, hkl, rfl, HN, HBk⟩ := hrel
          by_cases hltk : k < l.length
          · have HBW := Lib.hid (HB5.out.trans (HBk.out.mono HB5.out.size))
            obtain ⟨z, y0, y1, y2, y3, y4, q3⟩ := (HV.out.below HBW.out (Nat.le_refl _)).get k hltk
            have hbl3 := cell_lt y0
            have hat := HA5.out.below HBk.out HA5.out.lt
            have z1 := hat.cell (i := 1) rfl
            have z2 := hat.cell (i := 2) rfl
            have hlo := cell_lt z1
            have hfy := (HF.out.ops _ (List.getElem_mem hltk)).1
            have hoe := opsAt_eq hltk
            have HFS2 := Lib.hid (fun h1 h2 => HFS1.out k hltk HN.out h1 h2)
            generalize l[k] = Y at *
            obtain ⟨Yn, Yf, Yl, Ys, Yo⟩ := Y
            dsimp only at *
            obtain ⟨ya, yc, rfl, hyc⟩ := q3.len
            have hba : Below wr.heap.size wr (wr.alloc (.cells #[.int .i64 Yn, .int .i64 Yf, .int .i64 Yl, .int .i64 Ys, .slice ya Yo.length yc] 42)) := (Below.refl _ wr).alloc (Nat.le_refl _) _
            have HBK2 := Lib.hid (HBk.out.trans (hba.mono HBk.out.size))
            have HWR := Lib.hid (refWrites_any Yn Yf Yl Ys (.slice ya Yo.length yc) Yo ov ox _ (q3.below hba (Nat.le_refl _)) hfy)
            have HOE2 := Lib.hid hoe
            clear q3 HBk hba hat hoe hfy
            by_cases hki : k = t
            · have ti : ((k : Int) != (t : Int)) = false := by simp [hki]
              have HN2 : Hid (∀ k', k' < k + 1 → k' ≠ t → writesB (opsAt l k') ov ox = false) := fun k' h1 h2 => HN.out k' (by omega) h2
              clear hki HWR HFS2 HN
              go_wp2
              go_roundw
              case rel => exact ⟨k + 1, by omega, by go_num, HN2, HBK2⟩
              case measure => simp [intOf]; omega
            · have ti : ((k : Int) != (t : Int)) = true := by simp; omega
              cases hb : writesB Yo ov ox with
              | true =>
                have hr := HR.out
                rw [HFS2.out hki (by rw [HOE2.out]; exact hb)] at hr
                unfold asSrc at hr
                dsimp only at hr
                subst hr
                rw [hb] at HWR
                clear hb HFS2 HN hki HFS1 HFN1 HR
                go_wp2_with fail
                refine HWR.out.mono ?_
                rintro e w7 ⟨rfl, hb7⟩
                have HB7 := Lib.hid (HB5.out.trans ((HBK2.out.trans (hb7.mono HBK2.out.size)).mono HB5.out.size))
                go_wp2
                go_ret
                exact ⟨rfl, HB7.out⟩
              | false =>
                have HN2 : Hid (∀ k', k' < k + 1 → k' ≠ t → writesB (opsAt l k') ov ox = false) := fun k' h1 h2 => if h : k' < k then HN.out k' h h2 else by
                  rw [show k' = k from by omega, HOE2.out]; exact hb
                rw [hb] at HWR
                clear hb HFS2 HN hki
                go_wp2_with fail
                refine HWR.out.mono ?_
                rintro e w7 ⟨rfl, hb7⟩
                have HB7 := Lib.hid (HBK2.out.trans (hb7.mono HBK2.out.size))
                clear hb7
                go_wp2
                go_roundw
                case rel => exact ⟨k + 1, by omega, by go_num, HN2, HB7⟩
                case measure => simp [intOf]; omega
          · obtain rfl : k = l.length := by omega
            have HBF := Lib.hid (HB5.out.trans (HBk.out.mono HB5.out.size))
            have hr := HR.out
            rw [HFN1.out HN.out] at hr
            unfold asSrc at hr
            dsimp only at hr
            subst hr
            clear HN HFN1 HFS1 HR
            go_wp2
            go_ret
            exact ⟨rfl, HBF.out⟩
end Go.Proofs.YtkliahdgciajjaaDoor
