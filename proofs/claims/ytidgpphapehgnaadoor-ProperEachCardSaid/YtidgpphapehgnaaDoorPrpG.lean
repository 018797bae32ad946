/- The walk of Next. -/
import Derived.Test.YtidgpphapehgnaaDoorPrpE
import Derived.Test.YtidgpphapehgnaaDoorPrpF
import Derived.Test.YtidgpphapehgnaaDoorTxtD
import Derived.Sort.OwnSortedInts
import Derived.Deep.RegionHeld
import Derived.Deep.DeepMust
import Derived.Deep.Cut
import Derived.Deep.DeepCutAuto
import Derived.Maps.RangeWalk
namespace Go.Proofs.YtidgpphapehgnaaDoor.WPlain
end Go.Proofs.YtidgpphapehgnaaDoor.WPlain
namespace Go.Proofs.YtidgpphapehgnaaDoor.QPlain
end Go.Proofs.YtidgpphapehgnaaDoor.QPlain
namespace Go.Proofs.YtidgpphapehgnaaDoor
open Go.RowKit WPlain QPlain
open Go.Maps (Keyed)

theorem below_drP (w : World) : Below w.heap.size w w.drew := (Below.refl _ _).drew
theorem row_ne_map {H : Type} {P : Program} {k : TypeId} {R : Value → Option (DataW H × List MemPlace)} {w : World} {b n : Nat} {D : DataW H} {base : Nat} {e : TypeId} {size : Nat} {v : Value} {m : Nat} {xs : List Value}
    (h : w.ownsRow base e size v m xs) (hr : w.ownsMap P k R b n D) : some b ≠ v.ownBlock := by
  obtain ⟨_, _, hit, _⟩ := hr
  rcases h.2 with ⟨rfl, _⟩ | ⟨g, cap, cur, rfl, _, hb, _⟩
  · simp [Value.ownBlock]
  · intro he
    simp only [Value.ownBlock, Option.some.injEq] at he
    subst he
    rw [hit] at hb
    cases hb
/-- what Next answers -/
def Nxt (h : List Ev) (t : Int) (w : World) (e : Ending) (w' : World) : Prop :=
  Below w.heap.size w w' ∧ ((checkS h).2 ≠ 0 → e = .returned (.tuple #[.slice none 0 0, .int .i64 ((checkS h).2 : Nat)])) ∧
    ((checkS h).2 = 0 → ∃ v, e = .returned (.tuple #[v, .int .i64 0]) ∧ Rd w' v (ints (kindsS ((flw0 h).1 t))) ∧ (flw0 h).1 t < 8)
set_option maxRecDepth 100000 in
set_option maxHeartbeats 400000 in
theorem next_any (v : Value) (h : List Ev) (t : Int) (w : World) (hK : HasK w) (hv : Evs w v h) (hl : h.length ≤ 65536) (ht : (Lit.int .i64 t).wf = true) :
    Calls Tryd.prog 12 #[v, .int .i64 t] w (Nxt h t w) := by
  have HF := Lib.hid (follow_any v h w hK hv hl)
  obtain ⟨a, c, rfl⟩ := hv.len
  clear hv hK
  unfold Fol at HF
  unfold Nxt
  generalize checkS h = C at *
  generalize flw0 h = Z at *
  obtain ⟨n, er⟩ := C
  dsimp only at HF ⊢
  obtain ⟨j0, hj0, hy0, hy1', hy2'⟩ := info_parts info3
  go_enter Tryd.func12, Tryd.ntmps12
  go_wp2_with fail
  refine HF.out.mono ?_
  rintro e w1 ⟨hb, h1, h2⟩
  have HB := Lib.hid hb
  clear hb
  by_cases h0 : er = 0
  · obtain ⟨S, m, rfl, hS, hF8⟩ := h2 h0
    subst h0
    obtain ⟨s, hs⟩ : ∃ s, Z.1 t = s := ⟨_, rfl⟩
    have hlk : Hid (∀ W, Below w1.heap.size w1 W → (Instr.lookup 44 (.map (some S)) (.int .i64 t) false).run Tryd.prog W = .ok (.int .i64 (s : Int)) W) := fun W hW => by rw [← hs]; exact (hS.below hW (Nat.le_refl _)).look ht
    have h8 : s < 8 := by rw [← hs]; exact hF8 t
    have HSS := Lib.hid hs
    clear h1 h2 hS hF8 hs
    go_upto_region 5 with fail
    go_cut [25] from 11 (fun v wx => ∃ bs m r, v = .pointer (some ⟨r, 0, none⟩) ∧ w.heap.size ≤ bs ∧ w.heap.size ≤ r ∧ Hid (wx.ranges Tryd.prog 3 (plainElem Tryd.prog 52) bs r m (rowD s) (Maps.has (rowD s)) (Maps.size (rowD s))) ∧ Hid (Below w.heap.size w wx))
    case first =>
      first
      | go_must (go_region_held (fun w' => (Instr.lookup 44 (.map (some S)) (.int .i64 t) false).run Tryd.prog w' = .ok (.int .i64 (s : Int)) w')
          (first | exact hlk.out _ hbz | exact hlk.out _ hby | exact hlk.out _ (below_drP _))
          (first | (go_at_call 25; refine (moves_any _).mono ?_; rintro e w2 ⟨b, rfl, hM, hb2⟩; have hby := (below_drP w1).trans hb2; obtain ⟨bs, q2, hbl, m2, ho⟩ := hM.look h8; obtain ⟨w3, q3, hrg, hg3, hsz3⟩ := ho.range intK Tryd.underlying44; have hbz : Below w1.heap.size w1 w3 := hby.grown hg3 hby.size (fun k hk => by cases hk); have HRG := Lib.hid hrg; have HBL := Lib.hid hbl; clear hM ho hrg hg3 hsz3 hbl hb2)))
      | fail
      all_goals
        go_wp2_with fail
        go_meet
        exact ⟨bs, m2, w2.heap.size, rfl, Nat.le_trans HB.out.size HBL.out, Nat.le_trans HB.out.size hby.size, HRG, HB.out.trans (hbz.mono HB.out.size)⟩
    case rest =>
    obtain ⟨bs, m2, r, rfl, hbl, hrl, HRG, HB3⟩ := hcut
    clear HB hlk ht
    have hz4 : Maps.size (rowD s) ≤ 4 := by rcases eight h8 with rfl | rfl | rfl | rfl | rfl | rfl | rfl | rfl <;> decide
    have hc0 := Coll.start s
    generalize Maps.size (rowD s) = cn at *
    generalize hlf : Maps.has (rowD s) = lf at *
    have HC := Lib.hid hc0
    clear hlf hc0
    go_wp2_with fail
    go_loopw [9] (fun v wr => ∃ left cnt ss, Hid (wr.ranges Tryd.prog 3 (plainElem Tryd.prog 52) bs r m2 (rowD s) left cnt) ∧ Hid (Coll s left ss) ∧ wr.ownsRow w.heap.size 3 1 v ss.length (ints ss) ∧ Hid (Below w.heap.size w wr) ∧ ss.length + cnt ≤ 4) (fun _ wr => wr.rangeLeft bs r)
    case atStart => exact ⟨lf, cn, [], HRG, HC, World.ownsRow_nil _ _ _ _, HB3, by simpa using hz4⟩
    case round =>
      clear HRG HC HB3 hz4
      obtain ⟨left, cnt, ss, HRG, HC, hy, HB, hcn⟩ := hrel
      go_wp2_with (at_next; refine wpList_next_ranges_ii _ rfl _ rfl 3 52 .i64 .i64 intK Tryd.underlying3 Tryd.underlying52 bs r m2 _ _ _ rfl HRG.out ?done ?more)
      case done =>
        intro hc0 hl0
        have HY := Lib.hid hy
        have HS8 := Lib.hid (HC.out.sorted h8 hl0)
        have HL0 := Lib.hid (kinds_len h8)
        clear hc0 hl0 HC HRG hy
        rcases HY.out.2 with ⟨rfl, hn0⟩ | ⟨g, cap, cur, rfl, hbase, hb, g1, g2, g3, g4⟩
        · obtain rfl : ss = [] := List.length_eq_zero_iff.1 hn0
          have hk0 : kindsS s = [] := by rw [← HS8.out]; exact List.mergeSort_nil
          have HK0 := Lib.hid hk0
          clear hk0 hn0 HS8 hcn
          go_wp2_with fail
          refine (Tryd.slices_Sort_int_none none 0 wr).mono ?_
          rintro e w' ⟨rfl, rfl⟩
          go_wp2
          refine bodyPost_ret (v := .tuple #[.slice none 0 0, .int .i64 0]) (by simp [results, Tryd.results12, go_sem]) rfl ⟨HB.out, _, rfl, ?_, ?_⟩
          · rw [HSS.out, HK0.out]; exact .inl ⟨rfl, _, _, rfl⟩
          · rw [HSS.out]; exact h8
        · have hH := holds_of_blockI hb (by simpa [ints] using g4)
          have hgl := (Array.getElem?_eq_some_iff.1 hb).1
          have HCALL := Lib.hid (Tryd.slices_Sort_int g 0 cap ss wr hH hgl (by omega))
          have HBB := Lib.hid hb
          have HG4 := Lib.hid g4
          clear hH hgl hb g4
          go_wp2_with fail
          refine HCALL.out.mono ?_
          rintro e w' ⟨rfl, nn, os, rfl⟩
          have hrow := ownsRow_sortedI (n := nn) (os := os) (ss := ss) (ts := ss.mergeSort fun x y => decide (x ≤ y)) (by simp) hbase HBB.out g1 g2 g3
          have hbz := HB.out.grown (grownBy_sortedI (w := wr) (g := g) (n := nn) (os := os) (ss.mergeSort fun x y => decide (x ≤ y)).toArray) HB.out.size (fun j hj => by cases hj; exact hbase)
          rw [HS8.out] at hrow hbz ⊢
          have HRW := Lib.hid hrow
          have HBZ := Lib.hid hbz
          clear hrow hbz
          generalize Sort.grow (Sort.putRow (Value.int .i64) (Sort.ahead wr nn) g 0 (kindsS s).toArray) os = wz at *
          go_wp2
          refine bodyPost_ret (v := .tuple #[.slice (some ⟨g, 0, none⟩) ss.length cap, .int .i64 0]) (by simp [results, Tryd.results12, go_sem]) rfl ⟨HBZ.out, _, rfl, ?_, ?_⟩
          · rw [HSS.out]; exact Rd.of_row HRW.out
          · rw [HSS.out]; exact h8
      case more =>
        intro x c w1 cnt1 hwx hwc hlx hat hrg1 hlt hg1 hs1 hen
        have hy1 := hy.kept hg1 (.inr (row_ne_iter hy HRG.out).symm)
        have HC1 := Lib.hid (HC.out.step hlx hat)
        have HRG1 := Lib.hid hrg1
        have hb1 := HB.out.grown hg1 HB.out.size (fun k hk => by cases hk; exact hrl)
        have HLE : Hid (wr.rangeLeft bs r = cnt) := HRG.out.left_eq
        clear hwx hwc hlx hat hrg1 hg1 hs1 HC HRG hy HB
        go_wp2_with (at_builtin; refine wpList_append_own _ rfl _ _ 30 rfl w.heap.size 3 j0 (.int .i64 0) 1 8 Tryd.underlying30 hj0 hy0 hy1' hy2' rfl (by decide) _ _ _ rfl (hy1.alloc _) ⟨w1.heap.size, 0, none⟩ 1 1 [.int .i64 x] rfl rfl ?d1 ?d2 ?d3 ?d4 ?d5 ?_)
        case d1 => exact cell_one_at _ _ _
        case d2 => intro u hu; simp at hu; subst hu; rfl
        case d3 => unfold maxLen; omega
        case d4 => omega
        case d5 => have := hb1.size; simp; omega
        intro v2 w3 hy3 hg3 _
        have hya := hy1.alloc (.cells #[.int .i64 x] 3)
        have hra := HRG1.out.alloc (.cells #[.int .i64 x] 3)
        have HRG3 := Lib.hid (hra.kept hg3 (row_ne_map hya hra.owns) (row_ne_iter hya hra))
        have HB3 := Lib.hid ((hb1.alloc hb1.size (.cells #[.int .i64 x] 3)).grown hg3 (by have := hb1.size; simp; omega) (fun k' hk' => (hy1.lt k' hk').1))
        have HY3 : Hid (w3.ownsRow w.heap.size 3 1 v2 (ss ++ [x]).length (ints (ss ++ [x]))) := by
          unfold Hid
          rw [List.length_append]
          unfold ints at *
          rw [List.map_append]
          exact hy3
        have HL3 : Hid (w3.rangeLeft bs r = cnt1) := HRG3.out.left_eq
        clear hya hra hy1 hy3 hg3 hb1 HRG1 hen
        go_wp2
        go_roundw
        case rel => exact ⟨_, cnt1, ss ++ [x], HRG3, HC1, HY3.out, HB3, by simp; omega⟩
        case measure => rw [HL3.out, HLE.out]; exact hlt
  · obtain rfl := h1 h0
    have t0 : ((er : Int) != 0) = true := by simp; omega
    have H0 := Lib.hid h0
    clear h1 h2 h0
    go_wp2
    exact bodyPost_ret (v := .tuple #[.slice none 0 0, .int .i64 er]) (by simp [results, Tryd.results12, go_sem]) rfl ⟨HB.out, fun _ => rfl, fun hc => absurd hc H0.out⟩
end Go.Proofs.YtidgpphapehgnaaDoor
