/- The walk of the reference's Words. -/
import Derived.Test.YtnbecfgoambbpaaDoorWalkC
namespace Go.Proofs.YtnbecfgoambbpaaDoor
open Go.RowKit WPlain

theorem info50 : (Tryd.prog.info? 50).map (fun i => (i.zero, i.size, i.bytes)) = some (some (.agg #[.slice none 0 0, .slice none 0 0]), 2, 48) := by kernel_rfl

set_option maxRecDepth 100000 in
set_option maxHeartbeats 2000000 in
theorem refWords_any (s : ByteArray) (w : World) (hs : s.size ≤ 2147483648) :
    Calls Tryd.prog 19 #[.string s] w fun e w' => ∃ v1 v2, e = .returned (.agg #[v1, v2]) ∧
      w'.ownsRow w.heap.size 9 1 v1 (words (lineOf s.data.toList)).length (strsOf (lineOf s.data.toList) (words (lineOf s.data.toList))) ∧
      w'.ownsRow w.heap.size 3 1 v2 (words (lineOf s.data.toList)).length (begsOf (words (lineOf s.data.toList))) ∧ Below w.heap.size w w' := by
  obtain ⟨i0, hi0, hz0, hz1, hz2⟩ := info_parts info9
  obtain ⟨j0, hj0, hy0, hy1', hy2'⟩ := info_parts info3
  have hsl := Lib.size_eq s
  have hLe := lineOf_le s.data.toList
  have hget := lineOf_get s.data.toList
  have hstop := lineOf_stop s.data.toList
  have hcut := cutAt_line s.data.toList
  generalize lineOf s.data.toList = L at *
  have hA0 := (At.new w #[.slice none 0 0, .slice none 0 0] 50).alloc (.cells #[.slice none 0 0, .slice none 0 0] 50)
  have hA1 := At.new (w.alloc (.cells #[.slice none 0 0, .slice none 0 0] 50)) #[.slice none 0 0, .slice none 0 0] 50
  have hB2 : Below w.heap.size w ((w.alloc (.cells #[.slice none 0 0, .slice none 0 0] 50)).alloc (.cells #[.slice none 0 0, .slice none 0 0] 50)) := ((Below.refl _ _).alloc (Nat.le_refl _) _).alloc (by simp) _
  simp only [World.size_alloc] at hA1
  have hS2 : w.heap.size + 1 < ((w.alloc (.cells #[.slice none 0 0, .slice none 0 0] 50)).alloc (.cells #[.slice none 0 0, .slice none 0 0] 50)).heap.size := by simp
  go_enter Tryd.func19, Tryd.ntmps19
  go_wp2_with fail
  generalize ((w.alloc (.cells #[.slice none 0 0, .slice none 0 0] 50)).alloc (.cells #[.slice none 0 0, .slice none 0 0] 50)) = w2 at *
  have HG := Lib.hid hget
  have HS := Lib.hid hstop
  have HU := Lib.hid hcut
  clear hget hstop hcut
  have hLs : L.length ≤ s.size := by omega
  clear hsl hLe
  go_loopw [4] (fun z wr => ∃ (k : Nat) (q : List (Nat × Nat)) (x y : Value), k ≤ L.length ∧ z = .int .i64 k ∧ q ++ wsl k none (L.drop k) = words L ∧
     At wr w.heap.size #[.slice none 0 0, .slice none 0 0] 50 ∧ At wr (w.heap.size + 1) #[x, y] 50 ∧
     wr.ownsRow w.heap.size 9 1 x q.length (strsOf L q) ∧ wr.ownsRow w.heap.size 3 1 y q.length (begsOf q) ∧ Below w.heap.size w wr ∧ w.heap.size + 1 < wr.heap.size) (fun z _ => s.size - (intOf z).toNat)
  case atStart => exact ⟨0, [], .slice none 0 0, .slice none 0 0, by omega, rfl, rfl, hA0, hA1, World.ownsRow_nil _ _ _ _, World.ownsRow_nil _ _ _ _, hB2, hS2⟩
  case round =>
    clear hA0 hA1 hB2 hS2
    obtain ⟨k, q, x, y, hk, rfl, hq, hA0, hA1, hx, hy, hb, hsz⟩ := hrel
    have hql : q.length ≤ L.length := by
      have h1 := words_len L
      rw [← hq, List.length_append] at h1
      omega
    have HQ := Lib.hid hq
    clear hq
    by_cases hlt : k < L.length
    · have hks : k < s.size := by omega
      have hgL : gap L[k] = gap s[k] := by obtain ⟨_, hg1, _⟩ := HG.out k hlt; rw [hg1]; rfl
      have h35 : ¬ s[k] = 35 := by obtain ⟨_, _, hg2⟩ := HG.out k hlt; exact hg2
      have h35a : ((s[k].toNat : Int) == 35) = false := (u8_ne h35).1
      have h35b : ((s[k].toNat : Int) != 35) = true := (u8_ne h35).2
      clear h35
      by_cases hg : gap s[k] = true
      · have hst := ws_gap L k hlt (hgL.trans hg)
        have HE : Hid (q ++ wsl (k + 1) none (L.drop (k + 1)) = words L) := by unfold Hid; rw [← hst]; exact HQ.out
        have hgd : (((s[k].toNat : Int) == 9) = true ∧ ((s[k].toNat : Int) != 9) = false) ∨ ((((s[k].toNat : Int) == 9) = false ∧ ((s[k].toNat : Int) != 9) = true) ∧ (((s[k].toNat : Int) == 32) = true ∧ ((s[k].toNat : Int) != 32) = false)) := by
          by_cases h9 : s[k] = 9
          · exact .inl (u8_eq h9)
          · have h32 : s[k] = 32 := by simpa [gap, h9] using hg
            exact .inr ⟨u8_ne h9, u8_eq h32⟩
        clear hst HQ hgL hg
        rcases hgd with ⟨ha, hb'⟩ | ⟨⟨ha, hb'⟩, hc, hd⟩
        all_goals
          go_wp2_with fail
          refine wp_loop_rounds 1 ?_
          rw [rounds_succ]
          go_wp2
          go_roundw
          case rel => exact ⟨k + 1, q, x, y, by omega, by go_num, HE.out, hA0, hA1, hx, hy, hb, hsz⟩
          case measure => simp [intOf]; omega
      · have hg' : gap s[k] = false := by simpa using hg
        have hst := ws_word L k hlt (hgL.trans hg')
        have hge := wend_gt L k hlt (hgL.trans hg')
        have hle := wend_le L k (by omega)
        have HE : Hid ((q ++ [(k, wend L k)]) ++ wsl (wend L k) none (L.drop (wend L k)) = words L) := by
          unfold Hid; rw [← HQ.out, hst]; simp
        have hkne : ((wend L k : Int) == (k : Int)) = false := by simp; omega
        clear hst HQ hgL hg hg'
        go_wp2_with fail
        go_loop [5] (fun z => ∃ j : Nat, j ≤ L.length ∧ z = .int .i64 j ∧ wend L j = wend L k) (fun z => s.size - (intOf z).toNat)
        case atStart => exact ⟨k, by omega, rfl, rfl⟩
        case round =>
          obtain ⟨j, hj, rfl, hw⟩ := hrel
          have HW := Lib.hid hw
          clear hw
          by_cases hgo : ∃ h : j < L.length, gap L[j] = false
          · obtain ⟨hlt2, hgo⟩ := hgo
            have hjs : j < s.size := by omega
            have hgL : gap L[j] = gap s[j] := by obtain ⟨_, hg1, _⟩ := HG.out j hlt2; rw [hg1]; rfl
            have h35 : ¬ s[j] = 35 := by obtain ⟨_, _, hg2⟩ := HG.out j hlt2; exact hg2
            have j35a : ((s[j].toNat : Int) == 35) = false := (u8_ne h35).1
            have j35b : ((s[j].toNat : Int) != 35) = true := (u8_ne h35).2
            clear h35
            have hg : gap s[j] = false := by rw [← hgL]; exact hgo
            have hst := wend_step L j hlt2 hgo
            have HE2 : Hid (wend L (j + 1) = wend L k) := by unfold Hid; rw [hst]; exact HW.out
            have n9 : ¬ s[j] = 9 := by intro h; simp [gap, h] at hg
            have n32 : ¬ s[j] = 32 := by intro h; simp [gap, h] at hg
            have j9a : ((s[j].toNat : Int) == 9) = false := (u8_ne n9).1
            have j9b : ((s[j].toNat : Int) != 9) = true := (u8_ne n9).2
            have j32a : ((s[j].toNat : Int) == 32) = false := (u8_ne n32).1
            have j32b : ((s[j].toNat : Int) != 32) = true := (u8_ne n32).2
            clear hst hgL hg hgo n9 n32 HW
            go_wp2
            go_round
            case rel => exact ⟨j + 1, by omega, by go_num, HE2.out⟩
            case measure => simp [intOf]; omega
          · have hD : (∃ h : j < s.size, (((s[j].toNat : Int) == 9) = true ∧ ((s[j].toNat : Int) != 9) = false)) ∨
                (∃ h : j < s.size, (((s[j].toNat : Int) == 9) = false ∧ ((s[j].toNat : Int) != 9) = true) ∧ (((s[j].toNat : Int) == 32) = true ∧ ((s[j].toNat : Int) != 32) = false)) ∨
                (∃ h : j < s.size, (((s[j].toNat : Int) == 9) = false ∧ ((s[j].toNat : Int) != 9) = true) ∧ (((s[j].toNat : Int) == 32) = false ∧ ((s[j].toNat : Int) != 32) = true) ∧ (((s[j].toNat : Int) == 35) = true ∧ ((s[j].toNat : Int) != 35) = false)) ∨
                s.size ≤ j := by
              by_cases hlt2 : j < L.length
              · have hjs : j < s.size := by omega
                have hgL : gap L[j] = gap s[j] := by obtain ⟨_, hg1, _⟩ := HG.out j hlt2; rw [hg1]; rfl
                have hg : gap s[j] = true := by
                  rw [← hgL]
                  cases hc : gap L[j] with
                  | true => rfl
                  | false => exact absurd ⟨hlt2, hc⟩ hgo
                by_cases h9 : s[j] = 9
                · exact .inl ⟨hjs, u8_eq h9⟩
                · have h32 : s[j] = 32 := by simpa [gap, h9] using hg
                  exact .inr (.inl ⟨hjs, u8_ne h9, u8_eq h32⟩)
              · have hjL : j = L.length := by omega
                subst hjL
                by_cases hend : L.length < s.size
                · have h35 : s[L.length] = 35 := HS.out (by have := Lib.size_eq s; omega)
                  have n9 : ¬ s[L.length] = 9 := by rw [h35]; decide
                  have n32 : ¬ s[L.length] = 32 := by rw [h35]; decide
                  exact .inr (.inr (.inl ⟨hend, u8_ne n9, u8_ne n32, u8_eq h35⟩))
                · exact .inr (.inr (.inr (by omega)))
            have hjw : j = wend L k := by
              rw [← HW.out]
              by_cases hlt2 : j < L.length
              · cases hc : gap L[j] with
                | true => exact (wend_gap L j hlt2 hc).symm
                | false => exact absurd ⟨hlt2, hc⟩ hgo
              · exact (wend_end L j (by omega)).symm
            clear hgo
            have hne : ((j : Int) == (k : Int)) = false := by simp; omega
            have hkj : k < j := by omega
            have hkj2 : k ≤ j := by omega
            rw [← hjw] at HE
            clear hjw HW hkne hge hle
            have HX := Lib.hid hx
            have HY := Lib.hid hy
            clear hx hy
            have hA1c := hA1.cell (i := 0) rfl
            have hA1d := hA1.cell (i := 1) rfl
            obtain ⟨xa, xc, rfl⟩ := row_slice HX.out
            obtain ⟨ya, yc, rfl⟩ := row_slice HY.out
            have hjs' : j ≤ s.size := by omega
            have c3 : q.length + 1 ≤ maxLen := by unfold maxLen; omega
            have c4 : (q.length + 1) * 16 ≤ 140737488355328 := by omega
            have c5 : ∀ o, w.heap.size ≤ (wr.alloc o).heap.size := by intro o; simp; omega
            have C5 := Lib.hid c5
            have HA1 := Lib.hid hA1
            clear c5
            have HXE : Hid (strsOf L q ++ [.string (s.extract k j)] = strsOf L (q ++ [(k, j)])) := by
              unfold Hid strsOf; rw [List.map_append, extract_cut, ← HU.out k j hj]; rfl
            rcases hD with ⟨h1, h2, h3⟩ | ⟨h1, ⟨h2, h3⟩, h4, h5⟩ | ⟨h1, ⟨h2, h3⟩, ⟨h4, h5⟩, h6, h7⟩ | h1
            all_goals
              go_wp2_with fail
              go_region_law (go_must (refine step_append_mine rfl _ _ 38 rfl w.heap.size 9 i0 (.string ByteArray.empty) 1 16 Tryd.underlying38 hi0 hz0 hz1 hz2 rfl (by decide) _ _ _ rfl (HX.out.alloc _).drew ⟨wr.heap.size, 0, none⟩ 1 1 [.string (s.extract k j)] rfl rfl (cell_one_drew _ _ _) (one_str _) c3 c4 (C5.out _) ?_; intro v3 w3 hx3 hg3; obtain ⟨ga, gc, rfl⟩ := row_slice hx3; have hA3 := (HA1.out.alloc (.cells #[.string (s.extract k j)] 9)).drew.grown hg3 (Ne.symm (row_not HX.out HA1.out (by decide))); have hA3c := hA3.cell (i := 0) rfl; have hA3f := hA3.free 0))
              all_goals
                have hA4 : At (w3.setCell ⟨w.heap.size + 1, 0, none⟩ (.slice ga (q.length + 1) gc)) (w.heap.size + 1) #[.slice ga (q.length + 1) gc, .slice ya q.length yc] 50 := hA3.set 0 (.slice ga (q.length + 1) gc)
                have hA04 := ((hA0.alloc (.cells #[.string (s.extract k j)] 9)).drew.grown hg3 (Ne.symm (row_not HX.out hA0 (by decide)))).other (a := ⟨w.heap.size + 1, 0, none⟩) (by simp) (.slice ga (q.length + 1) gc)
                have hx4 := ownsRow_setCell_other hx3 (a := ⟨w.heap.size + 1, 0, none⟩) (row_not hx3 hA3 (by decide)) (.slice ga (q.length + 1) gc)
                have hy3 := (HY.out.alloc (.cells #[.string (s.extract k j)] 9)).drew.kept hg3 (row_apart HY.out HX.out (by decide))
                have hy4 := ownsRow_setCell_other hy3 (a := ⟨w.heap.size + 1, 0, none⟩) (row_not hy3 hA3 (by decide)) (.slice ga (q.length + 1) gc)
                have hb3 : Below w.heap.size w w3 := ((hb.alloc hb.size (.cells #[.string (s.extract k j)] 9)).drew).grown hg3 (C5.out _) (fun k' hk' => (HX.out.lt k' hk').1)
                have hb4 := hb3.setCell (p := ⟨w.heap.size + 1, 0, none⟩) (by simp) (.slice ga (q.length + 1) gc)
                clear hA3 hA3c hA3f hg3 hx3 hy3 hb3
                generalize w3.setCell ⟨w.heap.size + 1, 0, none⟩ (.slice ga (q.length + 1) gc) = w4 at *
                have hA4c := hA4.cell (i := 1) rfl
                have hy4c : ∀ o, w.heap.size ≤ (w4.alloc o).heap.size := by intro o; have := hb4.size; simp; omega
                have HY4 := Lib.hid hy4c
                clear hy4c
                go_wp2_with (at_builtin; refine wpList_append_own _ rfl _ _ 40 rfl w.heap.size 3 j0 (.int .i64 0) 1 8 Tryd.underlying40 hj0 hy0 hy1' hy2' rfl (by decide) _ _ _ rfl (hy4.alloc _) ⟨w4.heap.size, 0, none⟩ 1 1 [.int .i64 k] rfl rfl (cell_one_at _ _ _) (one_int _ _) c3 (by omega) (HY4.out _) ?_)
                intro v5 w5 hy5 hg5 _
                obtain ⟨ya5, yc5, rfl⟩ := row_slice hy5
                have hA5 := (hA4.alloc (.cells #[.int .i64 k] 3)).grown hg5 (Ne.symm (row_not hy4 hA4 (by decide)))
                have hA5c := hA5.cell (i := 1) rfl
                have hA5f := hA5.free 1
                have hA6 : At (w5.setCell ⟨w.heap.size + 1, 1, none⟩ (.slice ya5 (q.length + 1) yc5)) (w.heap.size + 1) #[.slice ga (q.length + 1) gc, .slice ya5 (q.length + 1) yc5] 50 := hA5.set 1 (.slice ya5 (q.length + 1) yc5)
                have hA06 := ((hA04.alloc (.cells #[.int .i64 k] 3)).grown hg5 (Ne.symm (row_not hy4 hA04 (by decide)))).other (a := ⟨w.heap.size + 1, 1, none⟩) (by simp) (.slice ya5 (q.length + 1) yc5)
                have hx5 := (hx4.alloc (.cells #[.int .i64 k] 3)).kept hg5 (row_apart hx4 hy4 (by decide))
                have hx6 := ownsRow_setCell_other hx5 (a := ⟨w.heap.size + 1, 1, none⟩) (row_not hx5 hA5 (by decide)) (.slice ya5 (q.length + 1) yc5)
                have hy6 := ownsRow_setCell_other hy5 (a := ⟨w.heap.size + 1, 1, none⟩) (row_not hy5 hA5 (by decide)) (.slice ya5 (q.length + 1) yc5)
                have hb6 := ((hb4.alloc hb4.size (.cells #[.int .i64 k] 3)).grown hg5 (HY4.out _) (fun k' hk' => (hy4.lt k' hk').1)).setCell (p := ⟨w.heap.size + 1, 1, none⟩) (by simp) (.slice ya5 (q.length + 1) yc5)
                have hs6 := hA6.lt
                clear hA4 hA04 hx4 hy4 hb4 HY4 hA4c hy5 hg5 hx5 hA0 hb
                have hlen : q.length + 1 = (q ++ [(k, j)]).length := by simp
                rw [HXE.out] at hx6
                rw [begsOf_snoc q k j] at hy6
                have HL := Lib.hid hlen
                clear hlen
                go_wp2
                go_roundw
                case rel => exact ⟨j, q ++ [(k, j)], _, _, hj, rfl, HE.out, hA06, hA6, (by rw [← HL.out]; exact hx6), (by rw [← HL.out]; exact hy6), hb6, hs6⟩
                case measure => simp [intOf]; omega
    · have hend := ws_end L k (by omega)
      have hf : q = words L := by rw [← HQ.out, hend]; simp
      subst hf
      clear hend
      have hkL : k = L.length := by omega
      subst hkL
      obtain ⟨xa, xc, rfl⟩ := row_slice hx
      obtain ⟨ya, yc, rfl⟩ := row_slice hy
      have hA0l := hA0.free 0
      have hA1c := hA1.cell (i := 0) rfl
      have hA1d := hA1.cell (i := 1) rfl
      have hA0c := hA0.cell (i := 0) (v := .slice none 0 0) rfl
      have hA0d := hA0.cell (i := 1) (v := .slice none 0 0) rfl
      have hA0m := hA0.free 1
      have hx' := ownsRow_setCell_other (ownsRow_setCell_other hx (a := ⟨w.heap.size, 0, none⟩) (row_not hx hA0 (by decide)) (.slice xa (words L).length xc)) (a := ⟨w.heap.size, 1, none⟩) (row_not hx hA0 (by decide)) (.slice ya (words L).length yc)
      have hy' := ownsRow_setCell_other (ownsRow_setCell_other hy (a := ⟨w.heap.size, 0, none⟩) (row_not hy hA0 (by decide)) (.slice xa (words L).length xc)) (a := ⟨w.heap.size, 1, none⟩) (row_not hy hA0 (by decide)) (.slice ya (words L).length yc)
      have hb' := (hb.setCell (p := ⟨w.heap.size, 0, none⟩) (Nat.le_refl _) (.slice xa (words L).length xc)).setCell (p := ⟨w.heap.size, 1, none⟩) (Nat.le_refl _) (.slice ya (words L).length yc)
      clear hx hy hb
      by_cases hend : L.length < s.size
      · have h35 : s[L.length] = 35 := HS.out (by have := Lib.size_eq s; omega)
        have h35a : ((s[L.length].toNat : Int) == 35) = true := (u8_eq h35).1
        have h35b : ((s[L.length].toNat : Int) != 35) = false := (u8_eq h35).2
        clear h35
        go_wp2
        exact bodyPost_ret (v := .agg #[.slice xa (words L).length xc, .slice ya (words L).length yc]) (by simp [results, Tryd.results19, go_sem, hA0c, hA0d]) rfl ⟨_, _, rfl, hx', hy', hb'⟩
      · go_wp2
        exact bodyPost_ret (v := .agg #[.slice xa (words L).length xc, .slice ya (words L).length yc]) (by simp [results, Tryd.results19, go_sem, hA0c, hA0d]) rfl ⟨_, _, rfl, hx', hy', hb'⟩
end Go.Proofs.YtnbecfgoambbpaaDoor
