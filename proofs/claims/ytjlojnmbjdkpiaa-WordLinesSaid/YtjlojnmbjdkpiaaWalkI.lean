/- The walk of the statement WordLines. -/
import Derived.Test.YtjlojnmbjdkpiaaWalkD
import Derived.Test.YtjlojnmbjdkpiaaWalkG
import Derived.Test.YtjlojnmbjdkpiaaWalkH
namespace Go.Proofs.Ytjlojnmbjdkpiaa
open Go.RowKit WPlain

theorem strsOf_map (l : List UInt8) (q : List (Nat × Nat)) : strsOf l q = (q.map fun p => (⟨(cutAt l p).toArray⟩ : ByteArray)).map .string := by unfold strsOf; rw [List.map_map]; rfl
theorem begsOf_map (q : List (Nat × Nat)) : begsOf q = (q.map fun p => (p.1 : Int)).map (.int .i64) := by unfold begsOf; rw [List.map_map]; rfl

theorem size_extract0 (s : ByteArray) (n : Nat) (h : n ≤ s.size) : (s.extract 0 n).size = n := by simp [ByteArray.size_extract]; omega

set_option maxHeartbeats 800000 in
theorem lines_any (s : ByteArray) (w : World) (hs : s.size ≤ maxLen) (hm : HasM w) :
    Calls Try.prog 3 #[.string s] w fun e w' => e = .returned (.bool true) ∧ Below w.heap.size w w' := by
  unfold maxLen at hs
  go_enter Try.func3, Try.ntmps3
  go_wp2_with fail
  obtain ⟨t, ht, hts⟩ : ∃ t : ByteArray, s.extract 0 (min (s.size : Int) 400).toNat = t ∧ t.size ≤ 400 := ⟨_, rfl, by rw [size_extract0 _ _ (by omega)]; omega⟩
  rw [ht]
  clear ht
  refine (words_any _ _ (by omega) hm).mono ?_
  rintro e w1 ⟨v1, v2, rfl, hx, hy, hb1⟩
  have r1 := Rd.of_row hx
  have r2 := Rd.of_row hy
  have hwl : (words (lineOf t.data.toList)).length ≤ 2147483648 := by
    have h1 := words_len (lineOf t.data.toList)
    have h2 := lineOf_le t.data.toList
    have h3 := Lib.size_eq t
    omega
  clear hx hy
  go_wp2_with fail
  refine (refWords_any _ _ (by omega)).mono ?_
  rintro e w2 ⟨u1, u2, rfl, hx, hy, hb2⟩
  have r3 := Rd.of_row hx
  have r4 := Rd.of_row hy
  have r5 := r1.below hb2 (Nat.le_refl _)
  have r6 := r2.below hb2 (Nat.le_refl _)
  have hm2 := (hm.later hb1 (Nat.le_refl _)).later hb2 (Nat.le_refl _)
  have hb3 := hb1.trans (hb2.mono hb1.size)
  clear hx hy r1 r2 hb1 hb2 hm
  rw [strsOf_map] at r3 r5
  rw [begsOf_map] at r4 r6
  have hl1 : ((words (lineOf t.data.toList)).map fun p => (⟨(cutAt (lineOf t.data.toList) p).toArray⟩ : ByteArray)).length ≤ 2147483648 := by simpa using hwl
  have hl2 : ((words (lineOf t.data.toList)).map fun p => (p.1 : Int)).length ≤ 2147483648 := by simpa using hwl
  clear hwl
  generalize ((words (lineOf t.data.toList)).map fun p => (⟨(cutAt (lineOf t.data.toList) p).toArray⟩ : ByteArray)) = xs at *
  generalize ((words (lineOf t.data.toList)).map fun p => (p.1 : Int)) = ys at *
  obtain ⟨a1, c1, rfl⟩ := r3.len
  obtain ⟨a2, c2, rfl⟩ := r4.len
  simp only [List.length_map] at r3 r4 ⊢
  go_wp2_with fail
  have hA := At.new w2 #[.slice a1 xs.length c1, .slice a2 ys.length c2] 27
  have hb4 := hb3.alloc hb3.size (.cells #[.slice a1 xs.length c1, .slice a2 ys.length c2] 27)
  have hb5 := (Below.refl w2.heap.size w2).alloc (Nat.le_refl _) (.cells #[.slice a1 xs.length c1, .slice a2 ys.length c2] 27)
  have hm4 := hm2.later hb5 (Nat.le_refl _)
  have q3 := r3.below hb5 (Nat.le_refl _)
  have q4 := r4.below hb5 (Nat.le_refl _)
  have q5 := r5.below hb5 (Nat.le_refl _)
  have q6 := r6.below hb5 (Nat.le_refl _)
  clear r3 r4 r5 r6 hb5 hm2 hb3
  refine (alive_any _ hm4).mono ?_
  rintro e w5 ⟨rfl, hb6⟩
  have hA5 := hA.below hb6 hA.lt
  have p3 := q3.below hb6 (Nat.le_refl _)
  have p4 := q4.below hb6 (Nat.le_refl _)
  have p5 := q5.below hb6 (Nat.le_refl _)
  have p6 := q6.below hb6 (Nat.le_refl _)
  have hb7 := hb4.trans (hb6.mono hb4.size)
  have hc0 := hA5.cell (i := 0) rfl
  have hc1 := hA5.cell (i := 1) rfl
  clear q3 q4 q5 q6 hA hb4 hm4 hb6 hA5
  go_wp2_with (first
    | (go_at_call 8; refine (texts_same _ _ _ _ hl1 p5 p3).mono ?_; rintro e w' ⟨rfl, n, rfl⟩)
    | (go_at_call 9; refine (ints_same _ _ _ _ hl2 (p6.below (below_drewN (Below.refl _ _) _) (Nat.le_refl _)) (p4.below (below_drewN (Below.refl _ _) _) (Nat.le_refl _))).mono ?_; rintro e w' ⟨rfl, n, rfl⟩))
  go_ret
  exact ⟨rfl, below_drewN hb7 _⟩
end Go.Proofs.Ytjlojnmbjdkpiaa
