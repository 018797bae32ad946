/- The walk of package word's Words. -/
import Derived.Test.YtnbecfgoambbpaaDoorWalkB
import Derived.Test.YtnbecfgoambbpaaDoorPlainL
namespace Go.Proofs.YtnbecfgoambbpaaDoor
open Go.RowKit WPlain

theorem indexByte_line (c : UInt8) : ∀ l : List UInt8, (0 ≤ Lib.indexByte l c → l.take (Lib.indexByte l c).toNat = l.takeWhile (fun x => !(x == c))) ∧ (¬ 0 ≤ Lib.indexByte l c → l = l.takeWhile (fun x => !(x == c)))
  | [] => by simp [Lib.indexByte]
  | x :: l => by
    have ih := indexByte_line c l
    have hge : -1 ≤ Lib.indexByte l c := by rw [← Lib.index_one]; exact Lib.index_ge _ _
    by_cases h : x = c
    · subst h; simp [Lib.indexByte]
    · have hb : (x == c) = false := by simpa using h
      by_cases h1 : Lib.indexByte l c = -1
      · have hh : Lib.indexByte (x :: l) c = -1 := by simp [Lib.indexByte, hb, h1]
        rw [hh]
        have := ih.2 (by omega)
        simp only [List.takeWhile_cons, hb]
        simp
        exact this
      · have h2 : 0 ≤ Lib.indexByte l c := by omega
        have hh : Lib.indexByte (x :: l) c = Lib.indexByte l c + 1 := by simp [Lib.indexByte, hb, h1]
        rw [hh]
        have := ih.1 h2
        have e : (Lib.indexByte l c + 1).toNat = (Lib.indexByte l c).toNat + 1 := by omega
        rw [e, List.takeWhile_cons, hb]
        simp [this]
        omega

theorem cut_line (l : List UInt8) : (Lib.cut l [35]).1 = lineOf l := by
  unfold Lib.cut lineOf
  rw [Lib.index_one]
  have h := indexByte_line 35 l
  split
  · exact h.1 ‹_›
  · exact h.2 ‹_›

/-- the values of a list of pieces of l -/
def strsOf (l : List UInt8) (q : List (Nat × Nat)) : List Value := q.map fun p => .string ⟨(cutAt l p).toArray⟩
def begsOf (q : List (Nat × Nat)) : List Value := q.map fun p => .int .i64 p.1

theorem extract_cut (s : ByteArray) (a b : Nat) : s.extract a b = ⟨(cutAt s.data.toList (a, b)).toArray⟩ := by
  have h : (s.extract a b).data.toList = cutAt s.data.toList (a, b) := by rw [Lib.extract_data]; rfl
  rw [← h]
theorem strsOf_snoc (s : ByteArray) (q : List (Nat × Nat)) (a b : Nat) : strsOf s.data.toList q ++ [.string (s.extract a b)] = strsOf s.data.toList (q ++ [(a, b)]) := by
  unfold strsOf; rw [List.map_append, extract_cut]; rfl
theorem begsOf_snoc (q : List (Nat × Nat)) (a b : Nat) : begsOf q ++ [.int .i64 a] = begsOf (q ++ [(a, b)]) := by
  unfold begsOf; rw [List.map_append]; rfl

theorem lineOf_get (l : List UInt8) : ∀ k, (h : k < (lineOf l).length) → ∃ h' : k < l.length, (lineOf l)[k] = l[k] ∧ ¬ l[k] = 35 := by
  induction l with
  | nil => intro k h; simp [lineOf] at h
  | cons x l ih =>
    intro k h
    by_cases hx : x = 35
    · subst hx; simp [lineOf] at h
    · have e : lineOf (x :: l) = x :: lineOf l := by simp [lineOf, hx]
      cases k with
      | zero => refine ⟨by simp, ?_, by simpa using hx⟩; simp [e]
      | succ k =>
        have h1 : k < (lineOf l).length := by rw [e] at h; simpa using h
        obtain ⟨h', h2, h3⟩ := ih k h1
        refine ⟨by simpa using h', ?_, by simpa using h3⟩
        simp only [e, List.getElem_cons_succ, h2]
theorem lineOf_stop (l : List UInt8) : (h : (lineOf l).length < l.length) → l[(lineOf l).length] = 35 := by
  induction l with
  | nil => intro h; simp at h
  | cons x l ih =>
    intro h
    by_cases hx : x = 35
    · subst hx; simp [lineOf]
    · have e : lineOf (x :: l) = x :: lineOf l := by simp [lineOf, hx]
      have e2 : (lineOf (x :: l)).length = (lineOf l).length + 1 := by rw [e]; simp
      have h1 : (lineOf l).length < l.length := by rw [e2] at h; simpa using h
      simp only [e2, List.getElem_cons_succ]
      exact ih h1

theorem cutAt_line (l : List UInt8) (a b : Nat) (h : b ≤ (lineOf l).length) : cutAt (lineOf l) (a, b) = cutAt l (a, b) := by
  have hp : lineOf l = l.take (lineOf l).length := List.prefix_iff_eq_take.1 (List.takeWhile_prefix _)
  unfold cutAt
  rw [hp, List.drop_take, List.take_take]
  congr 1
  simp only
  omega

set_option maxHeartbeats 1000000 in
theorem words_any (s : ByteArray) (w : World) (hs : s.size ≤ 2147483648) (hm : HasM w) :
    Calls Tryd.prog 17 #[.string s] w fun e w' => ∃ v1 v2, e = .returned (.tuple #[v1, v2]) ∧
      w'.ownsRow w.heap.size 9 1 v1 (words (lineOf s.data.toList)).length (strsOf (lineOf s.data.toList) (words (lineOf s.data.toList))) ∧
      w'.ownsRow w.heap.size 3 1 v2 (words (lineOf s.data.toList)).length (begsOf (words (lineOf s.data.toList))) ∧ Below w.heap.size w w' := by
  obtain ⟨m, hm'⟩ := hm
  obtain ⟨i0, hi0, hz0, hz1, hz2⟩ := info_parts info9
  obtain ⟨j0, hj0, hy0, hy1', hy2'⟩ := info_parts info3
  obtain ⟨line, hline⟩ : ∃ b : ByteArray, b.data.toList = lineOf s.data.toList := ⟨⟨(lineOf s.data.toList).toArray⟩, by simp⟩
  have hsz : line.size ≤ 2147483648 := by
    have h1 := Lib.size_eq line
    have h2 := Lib.size_eq s
    have h3 := lineOf_le s.data.toList
    rw [← hline] at h3
    omega
  have HC : Hid ((⟨(Lib.cut s.data.toList (⟨#[35]⟩ : ByteArray).data.toList).1.toArray⟩ : ByteArray) = line) := by
    unfold Hid
    have : (Lib.cut s.data.toList (⟨#[35]⟩ : ByteArray).data.toList).1 = line.data.toList := by rw [hline]; exact cut_line _
    rw [this]
  rw [← hline]
  clear hline
  go_enter Tryd.func17, Tryd.ntmps17
  go_wp2_with fail
  refine (Tryd.strings_Cut _ _ m _ (by omega) hm').mono ?_
  rintro e w1 ⟨rfl, nd, rfl⟩
  rw [HC.out]
  have hb0 : Below w.heap.size w (w.drewN nd) := below_drewN (Below.refl _ _) nd
  generalize w.drewN nd = w1 at *
  go_wp2_with fail
  go_loopw [7, 8, 9] (fun x y z wr => ∃ (k : Nat) (q : List (Nat × Nat)), k ≤ line.size ∧ z = .int .i64 k ∧ q ++ wsl k none (line.data.toList.drop k) = words line.data.toList ∧
     wr.ownsRow w.heap.size 9 1 x q.length (strsOf line.data.toList q) ∧ wr.ownsRow w.heap.size 3 1 y q.length (begsOf q) ∧ Below w.heap.size w wr) (fun _ _ z _ => line.size - (intOf z).toNat)
  case atStart => exact ⟨0, [], by omega, rfl, rfl, World.ownsRow_nil _ _ _ _, World.ownsRow_nil _ _ _ _, hb0⟩
  case round =>
    obtain ⟨k, q, hk, rfl, hq, hx, hy, hb⟩ := hrel
    have hql : q.length ≤ line.size := by
      have h1 := words_len line.data.toList
      have h2 := Lib.size_eq line
      rw [← hq, List.length_append] at h1
      omega
    have HQ := Lib.hid hq
    clear hq
    by_cases hlt : k < line.size
    · have hl : k < line.data.toList.length := by simpa using hlt
      by_cases hg : gap line[k] = true
      · have hst := ws_gap line.data.toList k hl hg
        have HE : Hid (q ++ wsl (k + 1) none (line.data.toList.drop (k + 1)) = words line.data.toList) := by unfold Hid; rw [← hst]; exact HQ.out
        clear hst HQ
        go_wp2_with (go_at_call 34; refine (isGap_yes _ _ hg).mono ?_; rintro e w' ⟨rfl, rfl⟩)
        go_roundw
        case rel => exact ⟨k + 1, q, by omega, by go_num, HE.out, hx, hy, hb⟩
        case measure => simp [intOf]; omega
      · have hg' : gap line[k] = false := by simpa using hg
        have hst := ws_word line.data.toList k hl hg'
        have hge := wend_gt line.data.toList k hl hg'
        have hle := wend_le line.data.toList k (by omega)
        have hle' : wend line.data.toList k ≤ line.size := by simpa using hle
        have HE : Hid ((q ++ [(k, wend line.data.toList k)]) ++ wsl (wend line.data.toList k) none (line.data.toList.drop (wend line.data.toList k)) = words line.data.toList) := by
          unfold Hid; rw [← HQ.out, hst]; simp
        clear hst HQ hle
        go_wp2_with (first
          | (go_at_call 34; refine (isGap_no _ _ hg').mono ?_; rintro e w' ⟨rfl, rfl⟩)
          | (go_at_call 35; refine (wordEnd_any line k _ (by omega) hk).mono ?_; rintro e w' ⟨rfl, rfl⟩)
          | (at_builtin; refine wpList_append_own _ rfl _ _ 38 rfl w.heap.size 9 i0 (.string ByteArray.empty) 1 16 Tryd.underlying38 hi0 hz0 hz1 hz2 rfl (by decide) _ _ _ rfl (hx.alloc _) ⟨wr.heap.size, 0, none⟩ 1 1 [.string (line.extract k (wend line.data.toList k))] rfl rfl ?c1 ?c2 ?c3 ?c4 ?c5 ?_))
        case c1 => exact cell_one_at _ _ _
        case c2 => intro u hu; simp at hu; subst hu; rfl
        case c3 => unfold maxLen; omega
        case c4 => omega
        case c5 => have := hb.size; simp; omega
        intro v1 w2 hx2 hg2 _
        have hy1 := hy.alloc (.cells #[.string (line.extract k (wend line.data.toList k))] 9)
        have hy2 := hy1.kept hg2 (row_apart hy hx (by decide))
        have hb2 : Below w.heap.size w w2 := (hb.alloc (hb.size) _).grown hg2 (by have := hb.size; simp; omega) (fun k' hk' => (hx.lt k' hk').1)
        clear hx hy hy1 hg2 hb
        go_wp2_with (at_builtin; refine wpList_append_own _ rfl _ _ 40 rfl w.heap.size 3 j0 (.int .i64 0) 1 8 Tryd.underlying40 hj0 hy0 hy1' hy2' rfl (by decide) _ _ _ rfl (hy2.alloc _) ⟨w2.heap.size, 0, none⟩ 1 1 [.int .i64 k] rfl rfl ?d1 ?d2 ?d3 ?d4 ?d5 ?_)
        case d1 => exact cell_one_at _ _ _
        case d2 => intro u hu; simp at hu; subst hu; rfl
        case d3 => unfold maxLen; omega
        case d4 => omega
        case d5 => have := hb2.size; simp; omega
        intro v2 w3 hy3 hg3 _
        have hx3 := (hx2.alloc (.cells #[.int .i64 k] 3)).kept hg3 (row_apart hx2 hy2 (by decide))
        have hb3 : Below w.heap.size w w3 := (hb2.alloc (hb2.size) _).grown hg3 (by have := hb2.size; simp; omega) (fun k' hk' => (hy2.lt k' hk').1)
        rw [strsOf_snoc] at hx3
        rw [begsOf_snoc q k (wend line.data.toList k)] at hy3
        have hlen : q.length + 1 = (q ++ [(k, wend line.data.toList k)]).length := by simp
        rw [hlen] at hx3 hy3
        clear hx2 hy2 hg3 hb2 hlen
        go_wp2
        go_roundw
        case rel => exact ⟨_, q ++ [(k, wend line.data.toList k)], hle', rfl, HE.out, hx3, hy3, hb3⟩
        case measure => simp [intOf]; omega
    · go_wp2
      have hend := ws_end line.data.toList k (by simpa using (by omega : line.size ≤ k))
      have hf : q = words line.data.toList := by rw [← HQ.out, hend]; simp
      subst hf
      go_ret2
      exact ⟨_, _, rfl, hx, hy, hb⟩
end Go.Proofs.YtnbecfgoambbpaaDoor
