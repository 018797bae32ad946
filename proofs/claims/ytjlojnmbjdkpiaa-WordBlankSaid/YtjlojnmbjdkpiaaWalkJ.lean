/- The walk of the statement WordBlank. -/
import Derived.Test.YtjlojnmbjdkpiaaPlainC
import Derived.Test.YtjlojnmbjdkpiaaWalkG
import Derived.Test.YtjlojnmbjdkpiaaWalkH
import Derived.Lib.SmallJoins
namespace Go.Proofs.Ytjlojnmbjdkpiaa
open Go.RowKit WPlain

theorem strsOf_map (l : List UInt8) (q : List (Nat × Nat)) : strsOf l q = (q.map fun p => (⟨(cutAt l p).toArray⟩ : ByteArray)).map .string := by unfold strsOf; rw [List.map_map]; rfl
theorem begsOf_map (q : List (Nat × Nat)) : begsOf q = (q.map fun p => (p.1 : Int)).map (.int .i64) := by unfold begsOf; rw [List.map_map]; rfl
theorem begs1_map (q : List (Nat × Nat)) : (q.map fun p => Value.int .i64 ((p.1 : Int) + 1)) = ((q.map fun p => (p.1 : Int)).map (· + 1)).map (.int .i64) := by rw [List.map_map, List.map_map]; rfl

theorem size_extract0 (s : ByteArray) (n : Nat) (h : n ≤ s.size) : (s.extract 0 n).size = n := by simp [ByteArray.size_extract]; omega

theorem begs_small (l : List UInt8) : ∀ x ∈ (words l).map (fun p => (p.1 : Int)), 0 ≤ x ∧ x ≤ l.length := by
  intro x hx
  obtain ⟨q, hq, rfl⟩ := List.mem_map.1 hx
  have := wsl_in l 0 none (by simp) q hq
  omega

set_option maxHeartbeats 1600000 in
theorem blank_any (s : ByteArray) (w : World) (hs : s.size ≤ maxLen) (hm : HasM w) :
    Calls Try.prog 4 #[.string s] w fun e w' => e = .returned (.bool true) ∧ Below w.heap.size w w' := by
  unfold maxLen at hs
  go_enter Try.func4, Try.ntmps4
  go_wp2_with fail
  obtain ⟨t, ht, hts⟩ : ∃ t : ByteArray, s.extract 0 (min (s.size : Int) 400).toNat = t ∧ t.size ≤ 400 := ⟨_, rfl, by rw [size_extract0 _ _ (by omega)]; omega⟩
  rw [ht]
  clear ht
  have hsz1 : ((⟨#[32]⟩ : ByteArray) ++ t).size ≤ 500 := by rw [ByteArray.size_append]; show 1 + _ ≤ _; omega
  have hsz2 : (t ++ (⟨#[9]⟩ : ByteArray)).size ≤ 500 := by rw [ByteArray.size_append]; show _ + 1 ≤ _; omega
  have ea : ((⟨#[32]⟩ : ByteArray) ++ t).data.toList = 32 :: t.data.toList := by rw [Joins.data_append]; rfl
  have eb : (t ++ (⟨#[9]⟩ : ByteArray)).data.toList = t.data.toList ++ [9] := by rw [Joins.data_append]
  have EA := Lib.hid ea
  have EB := Lib.hid eb
  clear ea eb
  have hbs := begs_small (lineOf t.data.toList)
  have hll : (lineOf t.data.toList).length ≤ 400 := by have h2 := lineOf_le t.data.toList; have h3 := Lib.size_eq t; omega
  have hwl : (words (lineOf t.data.toList)).length ≤ 400 := by
    have h1 := words_len (lineOf t.data.toList)
    omega
  have HBS := Lib.hid hbs
  clear hbs
  refine (words_any _ _ (by omega) hm).mono ?_
  rintro e w1 ⟨v1, v2, rfl, hx, hy, hb1⟩
  have r1 := Rd.of_row hx
  have r2 := Rd.of_row hy
  have hm1 := hm.later hb1 (Nat.le_refl _)
  clear hx hy hm
  go_wp2_with fail
  refine (words_any _ _ (by omega) hm1).mono ?_
  rintro e w2 ⟨v3, v4, rfl, hx, hy, hb2⟩
  rw [EA.out, strs_blank] at hx
  rw [EA.out, begs_blank] at hy
  have r3 := Rd.of_row hx
  have r4 := Rd.of_row hy
  have q1 := r1.below hb2 (Nat.le_refl _)
  have q2 := r2.below hb2 (Nat.le_refl _)
  have hm2 := hm1.later hb2 (Nat.le_refl _)
  have hb3 := hb1.trans (hb2.mono hb1.size)
  clear hx hy r1 r2 hb1 hb2 hm1
  go_wp2_with fail
  refine (words_any _ _ (by omega) hm2).mono ?_
  rintro e w3 ⟨v5, v6, rfl, hx, hy, hb4⟩
  rw [EB.out, strs_tab] at hx
  rw [EB.out, words_tab] at hy
  have p5 := Rd.of_row hx
  have p6 := Rd.of_row hy
  have p1 := q1.below hb4 (Nat.le_refl _)
  have p2 := q2.below hb4 (Nat.le_refl _)
  have p3 := r3.below hb4 (Nat.le_refl _)
  have p4 := r4.below hb4 (Nat.le_refl _)
  have hm3 := hm2.later hb4 (Nat.le_refl _)
  have hb5 := hb3.trans (hb4.mono hb3.size)
  clear hx hy q1 q2 r3 r4 hb3 hb4 hm2 EA EB
  rw [strsOf_map] at p1 p3 p5
  rw [begsOf_map] at p2 p6
  rw [begs1_map] at p4
  have hl1 : ((words (lineOf t.data.toList)).map fun p => (⟨(cutAt (lineOf t.data.toList) p).toArray⟩ : ByteArray)).length ≤ 400 := by simpa using hwl
  have hl2 : ((words (lineOf t.data.toList)).map fun p => (p.1 : Int)).length ≤ 400 := by simpa using hwl
  have HYS : Hid (∀ x ∈ ((words (lineOf t.data.toList)).map fun p => (p.1 : Int)), 0 ≤ x ∧ x ≤ 400) := by
    intro x hx
    have := HBS.out x hx
    omega
  clear hwl HBS hll
  generalize ((words (lineOf t.data.toList)).map fun p => (⟨(cutAt (lineOf t.data.toList) p).toArray⟩ : ByteArray)) = xs at *
  generalize ((words (lineOf t.data.toList)).map fun p => (p.1 : Int)) = ys at *
  go_wp2_with fail
  refine (texts_same _ _ _ _ (by omega) p1 p3).mono ?_
  rintro e w4 ⟨rfl, n1, rfl⟩
  go_wp2_with fail
  refine (texts_same _ _ _ _ (by omega) (p1.below (below_drewN (Below.refl _ _) _) (Nat.le_refl _)) (p5.below (below_drewN (Below.refl _ _) _) (Nat.le_refl _))).mono ?_
  rintro e w4 ⟨rfl, n2, rfl⟩
  go_wp2_with fail
  refine (ints_same _ _ _ _ (by omega) (p2.below (below_drewN (Below.refl _ _) _) (Nat.le_refl _)) (p6.below (below_drewN (Below.refl _ _) _) (Nat.le_refl _))).mono ?_
  rintro e w4 ⟨rfl, n3, rfl⟩
  obtain ⟨a2, c2, e2⟩ := p2.len
  obtain ⟨a4, c4, e4⟩ := p4.len
  simp only [List.length_map] at e2 e4
  subst e2 e4
  go_wp2_with fail
  refine (alive_any _ (hm3.later (below_drewN (Below.refl _ _) _) (Nat.le_refl _))).mono ?_
  rintro e w5 ⟨rfl, hb6⟩
  have g2 := (p2.below (below_drewN (Below.refl _ _) _) (Nat.le_refl _)).below hb6 (Nat.le_refl _)
  have g4 := (p4.below (below_drewN (Below.refl _ _) _) (Nat.le_refl _)).below hb6 (Nat.le_refl _)
  have hb7 := (below_drewN hb5 _).trans (hb6.mono hb5.size)
  clear p1 p2 p3 p4 p5 p6 hm3 hb5 hb6
  rcases g2 with ⟨e2, _⟩ | ⟨l2, b2, o2, d2, ev2, h2⟩
  · have hy0 : ys = [] := by simpa using e2
    subst hy0
    go_wp2
    refine wp_loop_rounds 1 ?_
    rw [rounds_succ]
    go_wp2
    go_ret
    exact ⟨rfl, hb7⟩
  · rcases g4 with ⟨e4, _⟩ | ⟨l4, b4, o4, d4, ev4, h4⟩
    · have hy0 : ys = [] := by simpa using e4
      subst hy0; simp at l2
    · simp only [Value.slice.injEq, List.length_map] at ev2 ev4
      obtain ⟨rfl, _, rfl⟩ := ev2
      obtain ⟨rfl, _, rfl⟩ := ev4
      have HC : Hid (∀ i (h : i < ys.length), w5.cell? ⟨b2, o2 + i, none⟩ = some (.int .i64 ys[i]) ∧ w5.cell? ⟨b4, o4 + i, none⟩ = some (.int .i64 (ys[i] + 1)) ∧ 0 ≤ ys[i] ∧ ys[i] ≤ 400) := by
        intro i h
        have hy := HYS.out ys[i] (List.getElem_mem _)
        exact ⟨h2 i _ (by rw [List.getElem?_map, List.getElem?_eq_getElem h]; rfl), h4 i _ (by rw [List.getElem?_map, List.getElem?_map, List.getElem?_eq_getElem h]; rfl), hy⟩
      clear h2 h4 l2 l4
      go_wp2
      go_loopw [61] (fun x wr => ∃ k n : Nat, k ≤ ys.length ∧ x = .int .i64 k ∧ wr = w5.drewN n) (fun x _ => ys.length - (intOf x).toNat)
      case atStart => exact ⟨0, 0, by omega, rfl, rfl⟩
      case round =>
        obtain ⟨k, n, hk, rfl, rfl⟩ := hrel
        by_cases hlt : k < ys.length
        · obtain ⟨hc1, hc2, hy1, hy2⟩ := HC.out k hlt
          generalize ys[k] = y at *
          have k1 : (k : Int) < (ys.length : Int) := by omega
          have e1 : IntKind.i64.wrap (y + 1) = y + 1 := IntWalk.i64_in _ (by omega)
          go_wp2
          go_quiet (fail)
          go_wp2
          go_roundw
          case rel => exact ⟨k + 1, _, by omega, by go_num, rfl⟩
          case measure => simp [intOf]; omega
        · go_wp2
          go_ret
          exact ⟨rfl, below_drewN hb7 n⟩
end Go.Proofs.Ytjlojnmbjdkpiaa
