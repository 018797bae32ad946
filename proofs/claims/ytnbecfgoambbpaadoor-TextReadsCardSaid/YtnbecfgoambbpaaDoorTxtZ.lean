/- The walk of the reference's Parse. -/
import Derived.Test.YtnbecfgoambbpaaDoorTxtY
import Derived.Test.YtnbecfgoambbpaaDoorTxtG
import Derived.Test.YtnbecfgoambbpaaDoorTxtQ
import Derived.Test.YtnbecfgoambbpaaDoorWalkD
namespace Go.Proofs.YtnbecfgoambbpaaDoor
open Go.RowKit WPlain

theorem info27 : (Tryd.prog.info? 27).map (fun i => (i.zero, i.size, i.bytes)) = some (some (.agg #[.slice none 0 0, .int .i64 0, .int .i64 0]), 3, 40) := by kernel_rfl

/-- the lines from a place on -/
def restL (l : List UInt8) (f : Nat) : List (List UInt8) := if f ≤ l.length then linesOf (l.drop f) else []
theorem restL_end (l : List UInt8) : restL l (l.length + 1) = [] := by unfold restL; rw [if_neg (by omega)]
theorem restL_piece (l : List UInt8) (f i : Nat) (hf : f ≤ i) (hi : i ≤ l.length) (hno : ∀ j, f ≤ j → j < i → l[j]? ≠ some 10) (hend : i = l.length ∨ l[i]? = some 10) :
    restL l f = ((l.drop f).take (i - f)) :: restL l (i + 1) := by
  have hn : ∀ c ∈ (l.drop f).take (i - f), c ≠ 10 := by
    intro c hc h10
    obtain ⟨j, hj, hjc⟩ := List.mem_iff_getElem.1 hc
    have hj2 : j < i - f := by simp at hj; omega
    have := hno (f + j) (by omega) (by omega)
    apply this
    rw [List.getElem_take, List.getElem_drop] at hjc
    rw [List.getElem?_eq_getElem (by simp at hj; omega), hjc, h10]
  unfold restL
  rw [if_pos (by omega)]
  by_cases hl : i < l.length
  · have hg : l[i] = 10 := by
      rcases hend with h | h
      · omega
      · rw [List.getElem?_eq_getElem hl] at h; exact Option.some.inj h
    have e : l.drop f = (l.drop f).take (i - f) ++ 10 :: l.drop (i + 1) := by
      conv => lhs; rw [← List.take_append_drop (i - f) (l.drop f)]
      rw [List.drop_drop, show f + (i - f) = i from by omega, List.drop_eq_getElem_cons hl, hg]
    rw [if_pos (by omega)]
    conv => lhs; rw [e]
    rw [lines_join, lines_no _ hn]
    rfl
  · have : i = l.length := by omega
    subst this
    rw [if_neg (by omega)]
    have e : (l.drop f).take (l.length - f) = l.drop f := List.take_of_length_le (by simp)
    rw [e] at hn ⊢
    exact lines_no _ hn

set_option maxRecDepth 100000 in
set_option maxHeartbeats 6000000 in
theorem refParse_any (s : ByteArray) (w : World) (hs : s.size ≤ 2147483648) :
    Calls Tryd.prog 8 #[.string s] w fun e w' => ∃ v, e = .returned (.agg #[v, .int .i64 (parse s.data.toList).2.1, .int .i64 (parse s.data.toList).2.2]) ∧ Evs w' v (parse s.data.toList).1 ∧ Below w.heap.size w w' := by
  unfold parse
  by_cases hbig : 3000 < s.size
  · have hbig' : (3000 : Int) < (s.size : Int) := by omega
    rw [if_pos (by rw [← Lib.size_eq]; exact hbig)]
    go_enter Tryd.func8, Tryd.ntmps8
    go_wp2
    exact bodyPost_ret (v := .agg #[.slice none 0 0, .int .i64 0, .int .i64 5]) (by simp [results, Tryd.results8, go_sem]) rfl ⟨_, rfl, Evs.nil _ _ _, (Below.refl _ _).alloc (Nat.le_refl _) _⟩
  · rw [if_neg (by rw [← Lib.size_eq]; exact hbig)]
    obtain ⟨j0, hj0, hy0, hy1', hy2'⟩ := info_parts info44
    have hstart : linesOf s.data.toList = restL s.data.toList 0 := by unfold restL; rw [if_pos (by omega)]; rfl
    rw [hstart]
    clear hstart
    have hR := (At.new w #[.slice none 0 0, .int .i64 0, .int .i64 0] 27).alloc (.cells #[] 44)
    have hb := ((Below.refl w.heap.size w).alloc (Nat.le_refl _) (.cells #[.slice none 0 0, .int .i64 0, .int .i64 0] 27)).alloc (by simp) (.cells #[] 44)
    have hrow := World.ownsRow_made (size := 4) (e := 44) (base := w.heap.size) (w.alloc (.cells #[.slice none 0 0, .int .i64 0, .int .i64 0] 27)) #[] 0 (by simp) (by unfold maxLen; omega) rfl
    simp only [World.size_alloc] at hrow
    go_enter Tryd.func8, Tryd.ntmps8
    go_wp2_with fail
    generalize (w.alloc (.cells #[.slice none 0 0, .int .i64 0, .int .i64 0] 27)).alloc (.cells #[] 44) = w1 at *
    go_loopw [3, 4, 5] (fun x y z wr => ∃ (i f : Nat) (H : List Ev), i ≤ s.size + 1 ∧ z = .int .i64 i ∧ y = .int .i64 f ∧ f ≤ i ∧ (i = s.size + 1 → f = s.size + 1) ∧
      Hid (∀ j, f ≤ j → j < i → s.data.toList[j]? ≠ some 10) ∧ Hid (parseL (restL s.data.toList f) f H = parseL (restL s.data.toList 0) 0 []) ∧ H.length ≤ 60 ∧
      wr.ownsRow w.heap.size 44 4 x H.length (evsCells H) ∧ At wr w.heap.size #[.slice none 0 0, .int .i64 0, .int .i64 0] 27 ∧ Below w.heap.size w wr) (fun _ _ z _ => s.size + 1 - (intOf z).toNat)
    case atStart => exact ⟨0, 0, [], by omega, rfl, rfl, by omega, by omega, fun j _ h => absurd h (Nat.not_lt_zero _), rfl, by simp, hrow, hR, hb⟩
    case round =>
      clear hR hb hrow
      obtain ⟨i, f, H, hi, rfl, rfl, hf, hfin, HN, HP, hH, hv, hR, hb⟩ := hrel
      by_cases hle : i ≤ s.size
      · have hlei : (i : Int) ≤ (s.size : Int) := by omega
        by_cases hgo : ∃ h : i < s.size, ¬ s[i] = 10
        · obtain ⟨hlt, h10⟩ := hgo
          have hlti : (i : Int) < (s.size : Int) := by omega
          have t1 : ((s[i].toNat : Int) != 10) = true := (u8_ne h10).2
          have t2 : ((s[i].toNat : Int) == 10) = false := (u8_ne h10).1
          have HN2 : Hid (∀ j, f ≤ j → j < i + 1 → s.data.toList[j]? ≠ some 10) := by
            intro j h1 h2
            by_cases hj : j < i
            · exact HN.out j h1 hj
            · obtain rfl : j = i := by omega
              rw [List.getElem?_eq_getElem (by simpa using hlt)]
              intro h
              exact h10 (Option.some.inj h)
          clear h10 HN
          go_wp2
          go_roundw
          case rel => exact ⟨i + 1, f, H, by omega, by go_num, rfl, by omega, by omega, HN2, HP, hH, hv, hR, hb⟩
          case measure => simp [intOf]; omega
        · have hend : i = s.data.toList.length ∨ s.data.toList[i]? = some 10 := by
            by_cases hlt : i < s.size
            · right
              have h10 : s[i] = 10 := by
                by_cases hq : s[i] = 10
                · exact hq
                · exact absurd ⟨hlt, hq⟩ hgo
              rw [List.getElem?_eq_getElem (by simpa using hlt)]
              exact congrArg some h10
            · left; rw [← Lib.size_eq]; omega
          have hpc := restL_piece s.data.toList f i hf (by rw [← Lib.size_eq]; exact hle) HN.out hend
          obtain ⟨p, hp⟩ : ∃ p : ByteArray, s.extract f i = p := ⟨_, rfl⟩
          have hpd : p.data.toList = (s.data.toList.drop f).take (i - f) := by rw [← hp, Lib.extract_data]
          rw [← hpd] at hpc
          have hps : p.size = i - f := by
            rw [← hp, ByteArray.size_extract]; omega
          have HPE := Lib.hid hp
          have HPC := Lib.hid hpc
          have hD : (∃ h : i < s.size, ((s[i].toNat : Int) != 10) = false ∧ ((s[i].toNat : Int) == 10) = true) ∨ (decide ((i : Int) < (s.size : Int)) = false ∧ ¬ (i : Int) < (s.size : Int)) := by
            by_cases hlt : i < s.size
            · left
              refine ⟨hlt, ?_⟩
              have h10 : s[i] = 10 := by
                by_cases hq : s[i] = 10
                · exact hq
                · exact absurd ⟨hlt, hq⟩ hgo
              exact ⟨(u8_eq h10).2, (u8_eq h10).1⟩
            · right; exact ⟨by simp; omega, by omega⟩
          have hsz : (p.data.toList.length : Nat) = p.size := (Lib.size_eq p).symm
          have HSZ := Lib.hid hsz
          have HLL := Lib.hid (lnOf_len p.data.toList)
          have HPS := Lib.hid hps
          have hps3 : p.size ≤ 3000 := by omega
          have hfi : (f : Int) ≤ (i : Int) := by omega
          have HSUB : Hid ((i : Int) - (f : Int) = (p.size : Int)) := by unfold Hid; rw [hps]; omega
          clear hgo hend hpc hp hpd hps hsz HN
          by_cases hw0 : (words (lineOf p.data.toList)).length = 0
          · have HE : Hid (parseL (restL s.data.toList (i + 1)) (i + 1) H = parseL (restL s.data.toList 0) 0 []) := by
              unfold Hid
              rw [← HP.out, HPC.out, parseL_skip _ _ _ _ hw0, HSZ.out, HPS.out, show f + (i - f) + 1 = i + 1 from by omega]
            have HNn : Hid (∀ j, i + 1 ≤ j → j < i + 1 → s.data.toList[j]? ≠ some 10) := fun j h1 h2 => by omega
            rcases hD with ⟨hlt, t1, t2⟩ | ⟨t1, t2⟩
            all_goals
              go_wp2_with fail
              rw [HPE.out]
              refine (refWords_any p _ (by omega)).mono ?_
              rintro e w2 ⟨v1, v2, rfl, hx, hy, hb2⟩
              rw [hw0] at hx hy
              obtain ⟨xa, xc, rfl⟩ := row_slice hx
              obtain ⟨ya, yc, rfl⟩ := row_slice hy
              have hv2 := (row_below hv hb2).alloc (.cells #[.slice xa 0 xc, .slice ya 0 yc] 50)
              have hR2 := (hR.below hb2 hR.lt).alloc (.cells #[.slice xa 0 xc, .slice ya 0 yc] 50)
              have hb3 := (hb.trans (hb2.mono hb.size)).alloc (Nat.le_trans hb.size hb2.size) (.cells #[.slice xa 0 xc, .slice ya 0 yc] 50)
              clear hx hy hb2 hv hR hb hw0
              go_wp2
              go_roundw
              case rel => exact ⟨i + 1, i + 1, H, by omega, by go_num, by go_num, by omega, by omega, HNn, HE, hH, hv2, hR2, hb3⟩
              case measure => simp [intOf]; omega
          · have hwp : (0 : Int) < ((words (lineOf p.data.toList)).length : Int) := by omega
            have HOK : Hid (∀ b h, (evOf (lnOf p.data.toList) h).2.2 = 0 → parseL (p.data.toList :: restL s.data.toList (i + 1)) b h = parseL (restL s.data.toList (i + 1)) (b + p.data.toList.length + 1) (h ++ [(evOf (lnOf p.data.toList) h).1])) := fun b h he => parseL_ok _ _ b h hw0 he
            have HER : Hid (∀ b h, (evOf (lnOf p.data.toList) h).2.2 ≠ 0 → parseL (p.data.toList :: restL s.data.toList (i + 1)) b h = ([], b + (evOf (lnOf p.data.toList) h).2.1, (evOf (lnOf p.data.toList) h).2.2)) := fun b h he => parseL_err _ _ b h hw0 he
            have HAT := Lib.hid (evOf_at (lnOf p.data.toList) H (lnOf_bs _))
            have HS1 := Lib.hid (strsOf_ws p.data.toList)
            have HS2 := Lib.hid (begsOf_bs p.data.toList)
            have hwl : (words (lineOf p.data.toList)).length ≤ 3000 := by
              have h1 := words_len (lineOf p.data.toList)
              have h2 := lineOf_le p.data.toList
              have h3 := HSZ.out
              omega
            have hLo : LnOk (lnOf p.data.toList) := by
              refine ⟨by rw [HLL.out.1]; omega, by rw [HLL.out.2]; omega, fun l hl => ?_⟩
              have h1 := lnOf_ws p.data.toList l hl
              have h3 := HSZ.out
              omega
            have HLO := Lib.hid hLo
            have hpos : 0 < (lnOf p.data.toList).ws.length := by rw [HLL.out.1]; omega
            have hll2 : (lnOf p.data.toList).bs.length = (lnOf p.data.toList).ws.length := by rw [HLL.out.1, HLL.out.2]
            have hen : (lnOf p.data.toList).en = p.size := HSZ.out
            have HEN := Lib.hid hen
            have HEV : Hid (∀ (v va : Value) (w : World), IsW w v (lnOf p.data.toList) → Evs w va H → Calls Tryd.prog 20 #[v, va, .int .i64 p.size] w fun e w' => (∃ i n : Int, e = .returned (.agg #[.int .i64 (evOf (lnOf p.data.toList) H).1.k, .int .i64 (evOf (lnOf p.data.toList) H).1.t, .int .i64 (evOf (lnOf p.data.toList) H).1.v, .int .i64 (evOf (lnOf p.data.toList) H).1.x, .int .i64 i, .int .i64 n, .int .i64 (evOf (lnOf p.data.toList) H).2.1, .int .i64 (evOf (lnOf p.data.toList) H).2.2])) ∧ Below w.heap.size w w') := by
              intro v va w h1 h2
              have := revent_any v va (lnOf p.data.toList) H w h1 hLo hll2 hpos h2 (by omega)
              rw [hen] at this
              exact this
            have h60 := evOf_60 (lnOf p.data.toList) H
            have H60 := Lib.hid h60
            clear hLo hpos hll2 hen hw0 h60
            rcases hD with ⟨hlt, t1, t2⟩ | ⟨t1, t2⟩
            all_goals
              go_wp2_with fail
              rw [HPE.out]
              refine (refWords_any p _ (by omega)).mono ?_
              rintro e w2 ⟨v1, v2, rfl, hx, hy, hb2⟩
              have hr1 := Rd.of_row hx
              have hr2 := Rd.of_row hy
              rw [HS1.out] at hr1
              rw [HS2.out] at hr2
              obtain ⟨xa, xc, rfl⟩ := row_slice hx
              obtain ⟨ya, yc, rfl⟩ := row_slice hy
              generalize (words (lineOf p.data.toList)).length = nw at *
              have hal := (Below.refl w2.heap.size w2).alloc (Nat.le_refl _) (.cells #[.slice xa nw xc, .slice ya nw yc] 50)
              have HW : Hid (IsW (w2.alloc (.cells #[.slice xa nw xc, .slice ya nw yc] 50)) (.agg #[.slice xa nw xc, .slice ya nw yc]) (lnOf p.data.toList)) := ⟨_, _, rfl, hr1.below hal (Nat.le_refl _), hr2.below hal (Nat.le_refl _)⟩
              have hv2 := (row_below hv hb2).alloc (.cells #[.slice xa nw xc, .slice ya nw yc] 50)
              have hR2 := (hR.below hb2 hR.lt).alloc (.cells #[.slice xa nw xc, .slice ya nw yc] 50)
              have hb3 := (hb.trans (hb2.mono hb.size)).alloc (Nat.le_trans hb.size hb2.size) (.cells #[.slice xa nw xc, .slice ya nw yc] 50)
              clear hx hy hb2 hv hR hb hr1 hr2 hal
              go_wp2_with fail
              rw [HSUB.out]
              refine (HEV.out _ _ _ HW.out (Evs.of_row hv2)).mono ?_
              rintro e w4 ⟨⟨ii, nn, rfl⟩, hb4⟩
              have hv4 := row_below hv2 hb4
              have hR4 := hR2.below hb4 hR2.lt
              have hb5 := hb3.trans (hb4.mono hb3.size)
              clear hv2 hR2 hb3 hb4 HW
              obtain ⟨ha, hha⟩ : ∃ ha, ha = (evOf (lnOf p.data.toList) H).2.1 := ⟨_, rfl⟩
              have hat : ha ≤ 3000 := by have h1 := HAT.out; rw [HEN.out] at h1; omega
              obtain ⟨er, her⟩ : ∃ er, er = (evOf (lnOf p.data.toList) H).2.2 := ⟨_, rfl⟩
              obtain ⟨ev, hev⟩ : ∃ ev, ev = (evOf (lnOf p.data.toList) H).1 := ⟨_, rfl⟩
              rw [← hha, ← her, ← hev]
              by_cases he : er = 0
              · have HE : Hid (parseL (restL s.data.toList (i + 1)) (i + 1) (H ++ [ev]) = parseL (restL s.data.toList 0) 0 []) := by
                  unfold Hid
                  rw [← HP.out, HPC.out, HOK.out _ _ (by rw [← her]; exact he), HSZ.out, HPS.out, hev, show f + (i - f) + 1 = i + 1 from by omega]
                have hH2 : H.length + 1 ≤ 60 := by have := H60.out (by rw [← her]; exact he); omega
                have HNn : Hid (∀ j, i + 1 ≤ j → j < i + 1 → s.data.toList[j]? ≠ some 10) := fun j h1 h2 => by omega
                have te : ((er : Int) != 0) = false := by simp [he]
                clear he her hha hev HAT HP H60 HER HOK
                obtain ⟨va, vc, rfl⟩ := row_slice hv4
                have HV4 := Lib.hid (hv4.alloc (.cells #[.int .i64 ev.k, .int .i64 ev.t, .int .i64 ev.v, .int .i64 ev.x, .int .i64 ii, .int .i64 nn, .int .i64 ha, .int .i64 er] 53))
                have hR5 := hR4.alloc (.cells #[.int .i64 ev.k, .int .i64 ev.t, .int .i64 ev.v, .int .i64 ev.x, .int .i64 ii, .int .i64 nn, .int .i64 ha, .int .i64 er] 53)
                have hb6 := hb5.alloc hb5.size (.cells #[.int .i64 ev.k, .int .i64 ev.t, .int .i64 ev.v, .int .i64 ev.x, .int .i64 ii, .int .i64 nn, .int .i64 ha, .int .i64 er] 53)
                have hM := At.new w4 #[.int .i64 ev.k, .int .i64 ev.t, .int .i64 ev.v, .int .i64 ev.x, .int .i64 ii, .int .i64 nn, .int .i64 ha, .int .i64 er] 53
                clear hv4 hR4 hb5
                go_wp2_with (at_builtin; refine wpList_append_own _ rfl _ _ 22 rfl w.heap.size 44 j0 (.agg #[.int .i64 0, .int .i64 0, .int .i64 0, .int .i64 0]) 4 32 Tryd.underlying22 hj0 hy0 hy1' hy2' rfl (by decide) _ _ _ rfl (HV4.out.alloc _) ⟨w4.heap.size + 1, 0, none⟩ 1 1 [.int .i64 ev.k, .int .i64 ev.t, .int .i64 ev.v, .int .i64 ev.x] rfl rfl ?c1 ?c2 ?c3 ?c4 ?c5 ?_)
                case c1 => have h4 := cell_four_at (w4.alloc (.cells #[.int .i64 ev.k, .int .i64 ev.t, .int .i64 ev.v, .int .i64 ev.x, .int .i64 ii, .int .i64 nn, .int .i64 ha, .int .i64 er] 53)) (.int .i64 ev.k) (.int .i64 ev.t) (.int .i64 ev.v) (.int .i64 ev.x) 44; rw [World.size_alloc] at h4; exact h4
                case c2 => exact four_int _ _ _ _
                case c3 => unfold maxLen; omega
                case c4 => omega
                case c5 => have := hb6.size; simp at this ⊢; omega
                intro v7 w7 hv7 hg7 _
                have hR7 := (hR5.alloc (.cells #[.int .i64 ev.k, .int .i64 ev.t, .int .i64 ev.v, .int .i64 ev.x] 44)).grown hg7 (Ne.symm (row_not (HV4.out.alloc (.cells #[.int .i64 ev.k, .int .i64 ev.t, .int .i64 ev.v, .int .i64 ev.x] 44)) (hR5.alloc (.cells #[.int .i64 ev.k, .int .i64 ev.t, .int .i64 ev.v, .int .i64 ev.x] 44)) (by decide)))
                have hb7 : Below w.heap.size w w7 := (hb6.alloc hb6.size _).grown hg7 (by have := hb6.size; simp at this ⊢; omega) (fun k' hk' => (HV4.out.lt k' hk').1)
                have hV7 : w7.ownsRow w.heap.size 44 4 v7 (H ++ [ev]).length (evsCells (H ++ [ev])) := by rw [← evsCells_snoc, List.length_append]; exact hv7
                clear hv7 hg7 hR5 hb6 hM
                go_wp2
                go_roundw
                case rel => exact ⟨i + 1, i + 1, H ++ [ev], by omega, by go_num, by go_num, by omega, by omega, HNn, HE, by simp; omega, hV7, hR7, hb7⟩
                case measure => simp [intOf]; omega
              · have HE : Hid (parseL (restL s.data.toList 0) 0 [] = ([], f + ha, er)) := by
                  unfold Hid
                  rw [← HP.out, HPC.out, HER.out _ _ (by rw [← her]; exact he), ← hha, ← her]
                have te : ((er : Int) != 0) = true := by simpa using he
                clear he her hha hev HAT HP H60 HER HOK hv4
                have hR0 := hR4.cell (i := 0) (v := .slice none 0 0) rfl
                have hR1 := hR4.cell (i := 1) (v := .int .i64 0) rfl
                have hR2 := hR4.cell (i := 2) (v := .int .i64 0) rfl
                have hF0 := hR4.free 0
                have hF1 := hR4.free 1
                have hF2 := hR4.free 2
                have hlt4 := hR4.lt
                have hbz := hb5
                go_wp2
                refine bodyPost_ret (v := .agg #[.slice none 0 0, .int .i64 (f + ha), .int .i64 er]) (by simp [results, Tryd.results8, go_sem, hR0, hR1, hR2, hlt4]) rfl ?_
                rw [HE.out]
                exact ⟨.slice none 0 0, by simp, Evs.nil _ none 0, by repeat' (first | (with_reducible exact hbz) | (with_reducible refine Below.setCell ?_ (by simp) _) | (with_reducible refine Below.alloc ?_ (by first | exact hbz.size | (simp; exact hbz.size)) _))⟩
      · obtain rfl : i = s.size + 1 := by omega
        obtain rfl : f = s.size + 1 := hfin rfl
        have hend : Hid (parseL (restL s.data.toList 0) 0 [] = (H, 0, 0)) := by
          unfold Hid
          rw [← HP.out, Lib.size_eq, restL_end]
          rfl
        clear HP HN
        have hvE := Evs.of_row hv
        have hVR := Lib.hid hv
        obtain ⟨va, vc, rfl⟩ := row_slice hv
        have hR0 := hR.cell (i := 0) (v := .slice none 0 0) rfl
        have hR1 := hR.cell (i := 1) (v := .int .i64 0) rfl
        have hR2 := hR.cell (i := 2) (v := .int .i64 0) rfl
        have hF0 := hR.free 0
        have hF1 := hR.free 1
        have hF2 := hR.free 2
        have hnle : ¬ ((s.size : Int) + 1 ≤ (s.size : Int)) := by omega
        go_wp2
        have hq1 := ownsRow_setCell_other hVR.out (a := ⟨w.heap.size, 0, none⟩) (row_not hVR.out hR (by decide)) (.slice va H.length vc)
        have hq2 := ownsRow_setCell_other hq1 (a := ⟨w.heap.size, 1, none⟩) (row_not hVR.out hR (by decide)) (.int .i64 0)
        have hq3 := ownsRow_setCell_other hq2 (a := ⟨w.heap.size, 2, none⟩) (row_not hVR.out hR (by decide)) (.int .i64 0)
        refine bodyPost_ret (v := .agg #[.slice va H.length vc, .int .i64 0, .int .i64 0]) (by simp [results, Tryd.results8, go_sem, hR0, hR1, hR2]) rfl ?_
        rw [hend.out]
        exact ⟨_, rfl, Evs.of_row hq3, ((hb.setCell (by simp) _).setCell (by simp) _).setCell (by simp) _⟩
end Go.Proofs.YtnbecfgoambbpaaDoor
