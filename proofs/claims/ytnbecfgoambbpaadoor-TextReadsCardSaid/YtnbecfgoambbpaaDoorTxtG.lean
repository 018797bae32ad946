/- The walk of package text's Parse. -/
import Derived.Test.YtnbecfgoambbpaaDoorTxtL
import Derived.Test.YtnbecfgoambbpaaDoorTxtF
import Derived.Test.YtnbecfgoambbpaaDoorWalkC
namespace Go.Proofs.YtnbecfgoambbpaaDoor
open Go.RowKit WPlain

theorem info44 : (Tryd.prog.info? 44).map (fun i => (i.zero, i.size, i.bytes)) = some (some (.agg #[.int .i64 0, .int .i64 0, .int .i64 0, .int .i64 0]), 4, 32) := by kernel_rfl

theorem row_below {w w' : World} {B : Nat} {e : TypeId} {s : Nat} {v : Value} {n : Nat} {xs : List Value} (h : w.ownsRow B e s v n xs) (hb : Below w.heap.size w w') : w'.ownsRow B e s v n xs := by
  refine ⟨h.1, ?_⟩
  rcases h.2 with hn | ⟨g, cap, cur, rfl, hB, hgg, rest⟩
  · exact .inl hn
  · refine .inr ⟨g, cap, cur, rfl, hB, ?_, rest⟩
    rw [hb.block g (Array.getElem?_eq_some_iff.1 hgg).1]
    exact hgg
theorem cell_four_at (w : World) (a b c d : Value) (t : TypeId) : ∀ j u, [a, b, c, d][j]? = some u → (w.alloc (.cells #[a, b, c, d] t)).cell? ((⟨w.heap.size, 0, none⟩ : Addr).add j) = some u := by
  intro j u hj
  match j, hj with
  | 0, hj => simp at hj; subst hj; simp [Addr.add]
  | 1, hj => simp at hj; subst hj; simp [Addr.add]
  | 2, hj => simp at hj; subst hj; simp [Addr.add]
  | 3, hj => simp at hj; subst hj; simp [Addr.add]
theorem four_int (a b c d : Int) : ∀ u ∈ [Value.int .i64 a, Value.int .i64 b, Value.int .i64 c, Value.int .i64 d], u.oneCell' = true := by
  intro u hu
  simp at hu
  rcases hu with rfl | rfl | rfl | rfl <;> rfl
theorem strsOf_ws (p : List UInt8) : strsOf (lineOf p) (words (lineOf p)) = (lnOf p).ws.map fun l => Value.string ⟨l.toArray⟩ := by
  simp [strsOf, lnOf]
theorem begsOf_bs (p : List UInt8) : begsOf (words (lineOf p)) = (lnOf p).bs.map fun b : Nat => Value.int .i64 (b : Int) := by
  simp [begsOf, lnOf]
theorem lines_at (l : List (List UInt8)) (t : TypeId) (b : Nat) {w' : World} (h : At w' b (l.map fun x => Value.string ⟨x.toArray⟩).toArray t) (k : Nat) (hk : k < l.length) : w'.cell? ⟨b, k, none⟩ = some (.string ⟨l[k].toArray⟩) :=
  h.cell (by simp [List.getElem?_map, List.getElem?_eq_getElem hk])

/-- nil, or a slice with an address -/
def Src (v : Value) : Prop := v = .slice none 0 0 ∨ ∃ a n c, v = .slice (some a) n c
theorem Src.of_row {w : World} {B : Nat} {e : TypeId} {s : Nat} {v : Value} {n : Nat} {xs : List Value} (h : w.ownsRow B e s v n xs) : Src v := by
  rcases h.2 with ⟨rfl, _⟩ | ⟨g, cap, cur, rfl, _⟩
  · exact .inl rfl
  · exact .inr ⟨_, _, _, rfl⟩

set_option maxRecDepth 100000 in
set_option maxHeartbeats 4000000 in
theorem parse_any (s : ByteArray) (w : World) (hs : s.size ≤ 2147483648) (hm : HasM w) (hk : HasK w) :
    Calls Tryd.prog 7 #[.string s] w fun e w' => ∃ v, e = .returned (.tuple #[v, .int .i64 (parse s.data.toList).2.1, .int .i64 (parse s.data.toList).2.2]) ∧ Evs w' v (parse s.data.toList).1 ∧ Src v ∧ Below w.heap.size w w' := by
  unfold parse
  by_cases hbig : 3000 < s.size
  · have hbig' : (3000 : Int) < (s.size : Int) := by omega
    rw [if_pos (by rw [← Lib.size_eq]; exact hbig)]
    go_enter Tryd.func7, Tryd.ntmps7
    go_wp2
    go_ret3
    exact ⟨_, rfl, Evs.nil _ _ _, .inl rfl, Below.refl _ _⟩
  · rw [if_neg (by rw [← Lib.size_eq]; exact hbig)]
    obtain ⟨j0, hj0, hy0, hy1', hy2'⟩ := info_parts info44
    have hll := lines_len s.data.toList
    have hle := lines_le s.data.toList
    rw [← Lib.size_eq] at hll hle
    have hsv := split_vals s
    have hsl := split_len s
    obtain ⟨ls, hls⟩ : ∃ ls, ls = linesOf s.data.toList := ⟨_, rfl⟩
    rw [← hls] at hll hle hsv hsl ⊢
    have HLE : Hid (∀ l ∈ ls, l.length ≤ 3000) := fun l hl => Nat.le_trans (hle l hl) (by omega)
    have HSV := Lib.hid hsv
    have HSL : Hid ((Lib.countB s ⟨#[10]⟩ : Nat) + 1 = ls.length) := hsl
    have HM := Lib.hid hm
    have HK := Lib.hid hk
    clear hle hsv hsl hls hm hk
    obtain ⟨mm, hmm⟩ := HM.out
    have HW := Lib.hid (Tryd.strings_Split s ⟨#[10]⟩ mm w (by omega) hmm (by decide))
    clear hmm
    have hP := At.new w (ls.map fun x => Value.string ⟨x.toArray⟩).toArray 9
    have hb := (Below.refl w.heap.size w).alloc (Nat.le_refl _) (.cells (ls.map fun x => Value.string ⟨x.toArray⟩).toArray 9)
    go_enter Tryd.func7, Tryd.ntmps7
    go_wp2_with fail
    refine HW.out.mono ?_
    rintro e w1 ⟨rfl, rfl⟩
    rw [HSL.out, HSV.out]
    generalize w.alloc (.cells (ls.map fun x => Value.string ⟨x.toArray⟩).toArray 9) = w1 at *
    go_wp2_with fail
    go_loopw [5, 6, 20] (fun hv bg x wr => ∃ (k : Nat) (H : List Ev) (B : Nat), k ≤ ls.length ∧ x = .int .i64 k ∧ bg = .int .i64 B ∧ Hid (parseL (ls.drop k) B H = parseL ls 0 []) ∧ H.length ≤ 60 ∧ B ≤ k * 3001 ∧
      wr.ownsRow w.heap.size 44 4 hv H.length (evsCells H) ∧ At wr w.heap.size (ls.map fun x => Value.string ⟨x.toArray⟩).toArray 9 ∧ Below w.heap.size w wr) (fun _ _ x _ => ls.length - (intOf x).toNat)
    case atStart => exact ⟨0, [], 0, by omega, rfl, rfl, rfl, by simp, by omega, World.ownsRow_nil _ _ _ _, hP, hb⟩
    case round =>
      clear hP hb
      obtain ⟨k, H, B, hk, rfl, rfl, HP, hH, hB, hv, hPt, hb⟩ := hrel
      by_cases hlt : k < ls.length
      · have hpc := lines_at ls 9 w.heap.size hPt k hlt
        have hdr : ls.drop k = ls[k] :: ls.drop (k + 1) := List.drop_eq_getElem_cons hlt
        have hpl := HLE.out ls[k] (List.getElem_mem _)
        obtain ⟨p, hp⟩ : ∃ p : ByteArray, p.data.toList = ls[k] := ⟨⟨ls[k].toArray⟩, by simp⟩
        rw [← hp] at hpc hdr hpl
        have hpc' : wr.cell? ⟨w.heap.size, k, none⟩ = some (.string p) := hpc
        have hps : p.size ≤ 3000 := hpl
        have HD := Lib.hid hdr
        clear hpc hp hdr hpl
        have hm2 := HM.out.later hb (Nat.le_refl _)
        have hk2 := HK.out.later hb (Nat.le_refl _)
        have HM2 := Lib.hid hm2
        have HK2 := Lib.hid hk2
        clear hm2 hk2
        have hsz : (p.data.toList.length : Nat) = p.size := (Lib.size_eq p).symm
        have HSZ := Lib.hid hsz
        clear hsz
        have hw1 := lnOf_len p.data.toList
        have HLL := Lib.hid hw1
        clear hw1
        by_cases hw0 : (words (lineOf p.data.toList)).length = 0
        · have HE : Hid (parseL (ls.drop (k + 1)) (B + p.size + 1) H = parseL ls 0 []) := by
            unfold Hid
            rw [← HP.out, HD.out, parseL_skip _ _ _ _ hw0, HSZ.out]
          go_wp2_with fail
          refine (words_any p _ (by omega) HM2.out).mono ?_
          rintro e w2 ⟨v1, v2, rfl, hx, hy, hb2⟩
          rw [hw0] at hx hy
          obtain ⟨xa, xc, rfl⟩ := row_slice hx
          obtain ⟨ya, yc, rfl⟩ := row_slice hy
          have hv2 := row_below hv hb2
          have hP2 := hPt.below hb2 hPt.lt
          have hb3 := hb.trans (hb2.mono hb.size)
          clear hx hy hb2 hv hPt hb hpc' hw0
          go_wp2
          go_roundw
          case rel => exact ⟨k + 1, H, B + p.size + 1, by omega, by go_num, by go_num, HE, hH, by omega, hv2, hP2, hb3⟩
          case measure => simp [intOf]; omega
        · have hwp : (0 : Int) < ((words (lineOf p.data.toList)).length : Int) := by omega
          have HOK : Hid (∀ b h, (evOf (lnOf p.data.toList) h).2.2 = 0 → parseL (p.data.toList :: ls.drop (k + 1)) b h = parseL (ls.drop (k + 1)) (b + p.data.toList.length + 1) (h ++ [(evOf (lnOf p.data.toList) h).1])) := fun b h he => parseL_ok _ _ b h hw0 he
          have HER : Hid (∀ b h, (evOf (lnOf p.data.toList) h).2.2 ≠ 0 → parseL (p.data.toList :: ls.drop (k + 1)) b h = ([], b + (evOf (lnOf p.data.toList) h).2.1, (evOf (lnOf p.data.toList) h).2.2)) := fun b h he => parseL_err _ _ b h hw0 he
          clear hw0
          have HAT := Lib.hid (evOf_at (lnOf p.data.toList) H (lnOf_bs _))
          have HS1 := Lib.hid (strsOf_ws p.data.toList)
          have HS2 := Lib.hid (begsOf_bs p.data.toList)
          have hwl : (words (lineOf p.data.toList)).length ≤ 3000 := by
            have h1 := words_len (lineOf p.data.toList)
            have h2 := lineOf_le p.data.toList
            have h3 := HSZ.out
            omega
          have hLo : LnOk (lnOf p.data.toList) := by
            refine ⟨by rw [HLL.out.1]; omega, by rw [HLL.out.2]; omega, fun l hl => ?_⟩
            have h1 := lnOf_ws p.data.toList l hl
            have h3 := HSZ.out
            omega
          have HLO := Lib.hid hLo
          clear hLo
          have hpos : 0 < (lnOf p.data.toList).ws.length := by rw [HLL.out.1]; omega
          have HPO := Lib.hid hpos
          clear hpos
          have hen : (lnOf p.data.toList).en = p.size := HSZ.out
          have HEN := Lib.hid hen
          clear hen
          go_wp2_with fail
          refine (words_any p _ (by omega) HM2.out).mono ?_
          rintro e w2 ⟨v1, v2, rfl, hx, hy, hb2⟩
          have hr1 := Rd.of_row hx
          have hr2 := Rd.of_row hy
          rw [HS1.out] at hr1
          rw [HS2.out] at hr2
          have HR1 := Lib.hid hr1
          have HR2 := Lib.hid hr2
          obtain ⟨xa, xc, rfl⟩ := row_slice hx
          obtain ⟨ya, yc, rfl⟩ := row_slice hy
          have hv2 := row_below hv hb2
          have hP2 := hPt.below hb2 hPt.lt
          have hb3 := hb.trans (hb2.mono hb.size)
          have hk3 := HK2.out.later hb2 (Nat.le_refl _)
          have HK3 := Lib.hid hk3
          clear hx hy hb2 hv hPt hb hpc' hr1 hr2 hk3
          generalize (words (lineOf p.data.toList)).length = nw at *
          go_wp2_with fail
          refine (event_any _ _ (lnOf p.data.toList) H _ ⟨_, _, by rw [HEN.out], HR1.out, HR2.out⟩ HLO.out HPO.out HK3.out (Evs.of_row hv2) (by omega)).mono ?_
          rintro e w3 ⟨rfl, hb4⟩
          have hv3 := row_below hv2 hb4
          have hP3 := hP2.below hb4 hP2.lt
          have hb5 := hb3.trans (hb4.mono hb3.size)
          clear hb4 hv2 hP2 hb3 HK3 HR1 HR2
          obtain ⟨ha, hha⟩ : ∃ ha, ha = (evOf (lnOf p.data.toList) H).2.1 := ⟨_, rfl⟩
          have hat : ha ≤ 3000 := by have h1 := HAT.out; rw [HEN.out] at h1; omega
          obtain ⟨er, her⟩ : ∃ er, er = (evOf (lnOf p.data.toList) H).2.2 := ⟨_, rfl⟩
          obtain ⟨ev, hev⟩ : ∃ ev, ev = (evOf (lnOf p.data.toList) H).1 := ⟨_, rfl⟩
          rw [← hha, ← her, ← hev]
          unfold evVal
          by_cases he : er = 0
          · have HE : Hid (parseL (ls.drop (k + 1)) (B + p.size + 1) (H ++ [ev]) = parseL ls 0 []) := by
              unfold Hid
              rw [← HP.out, HD.out, HOK.out _ _ (by rw [← her]; exact he), HSZ.out, hev]
            have h60 : H.length ≠ 60 := evOf_60 (lnOf p.data.toList) H (by rw [← her]; exact he)
            have hH2 : H.length + 1 ≤ 60 := by omega
            have te : ((er : Int) != 0) = false := by simp [he]
            clear he her hha hev h60 HAT HP
            obtain ⟨va, vc, rfl⟩ := row_slice hv3
            have HV3 := Lib.hid hv3
            clear hv3
            go_wp2_with (at_builtin; go_must (refine wpList_append_own _ rfl _ _ 22 rfl w.heap.size 44 j0 (.agg #[.int .i64 0, .int .i64 0, .int .i64 0, .int .i64 0]) 4 32 Tryd.underlying22 hj0 hy0 hy1' hy2' rfl (by decide) _ _ _ rfl ((HV3.out.alloc _).alloc _) ⟨w3.heap.size + 1, 0, none⟩ 1 1 [.int .i64 ev.k, .int .i64 ev.t, .int .i64 ev.v, .int .i64 ev.x] rfl rfl ?c1 ?c2 ?c3 ?c4 ?c5 ?_))
            case c1 => have h4 := cell_four_at (w3.alloc (.cells #[.int .i64 ev.k, .int .i64 ev.t, .int .i64 ev.v, .int .i64 ev.x] 44)) (.int .i64 ev.k) (.int .i64 ev.t) (.int .i64 ev.v) (.int .i64 ev.x) 44; rw [World.size_alloc] at h4; exact h4
            case c2 => exact four_int _ _ _ _
            case c3 => unfold maxLen; omega
            case c4 => omega
            case c5 => have := hb5.size; simp; omega
            intro v5 w5 hv5 hg5 _
            have hP5 := ((hP3.alloc (.cells #[.int .i64 ev.k, .int .i64 ev.t, .int .i64 ev.v, .int .i64 ev.x] 44)).alloc (.cells #[.int .i64 ev.k, .int .i64 ev.t, .int .i64 ev.v, .int .i64 ev.x] 44)).grown hg5 (Ne.symm (row_not ((HV3.out.alloc (.cells #[.int .i64 ev.k, .int .i64 ev.t, .int .i64 ev.v, .int .i64 ev.x] 44)).alloc (.cells #[.int .i64 ev.k, .int .i64 ev.t, .int .i64 ev.v, .int .i64 ev.x] 44)) ((hP3.alloc _).alloc _) (by decide)))
            have hb6 : Below w.heap.size w w5 := ((hb5.alloc hb5.size _).alloc (by have := hb5.size; simp; omega) _).grown hg5 (by have := hb5.size; simp; omega) (fun k' hk' => (HV3.out.lt k' hk').1)
            have hV5 : w5.ownsRow w.heap.size 44 4 v5 (H ++ [ev]).length (evsCells (H ++ [ev])) := by rw [← evsCells_snoc, List.length_append]; exact hv5
            clear hv5 hg5 hP3 hb5
            go_wp2
            go_roundw
            case rel => exact ⟨k + 1, H ++ [ev], B + p.size + 1, by omega, by go_num, by go_num, HE, by simp; omega, by omega, hV5, hP5, hb6⟩
            case measure => simp [intOf]; omega
          · have HE : Hid (parseL ls 0 [] = ([], B + ha, er)) := by
              unfold Hid
              rw [← HP.out, HD.out, HER.out _ _ (by rw [← her]; exact he), ← hha, ← her]
            have te : ((er : Int) != 0) = true := by simpa using he
            clear he her hha hev HAT HP
            go_wp2
            go_ret3
            rw [HE.out]
            exact ⟨_, by go_num, Evs.nil _ _ _, .inl rfl, hb5.alloc hb5.size _⟩
      · obtain rfl : k = ls.length := by omega
        have HE : Hid (parseL ls 0 [] = (H, 0, 0)) := by
          unfold Hid
          rw [← HP.out, List.drop_length]
          rfl
        clear HP
        have hvE := Evs.of_row hv
        have hSR := Src.of_row hv
        obtain ⟨va, vc, rfl⟩ := row_slice hv
        go_wp2
        go_ret3
        rw [HE.out]
        exact ⟨_, rfl, hvE, hSR, hb⟩
end Go.Proofs.YtnbecfgoambbpaaDoor
