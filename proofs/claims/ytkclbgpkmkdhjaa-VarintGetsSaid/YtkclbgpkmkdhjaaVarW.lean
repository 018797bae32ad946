/- The walk of VarintGets. -/
import Derived.Test.YtkclbgpkmkdhjaaVarH
import Derived.Test.YtkclbgpkmkdhjaaVarL
namespace Go.Proofs.Ytkclbgpkmkdhjaa
open Go.RowKit VPlain

set_option maxRecDepth 100000 in
set_option maxHeartbeats 2000000 in
theorem gets_core (a : Option Addr) (n c k : Nat) (i : Int) (y p er : Int) (w : World) (hnk : (n ≤ 60 ∧ k = n) ∨ (60 < n ∧ k = 60)) (hkc : k ≤ c) (hnc : n ≤ c)
    (hG : Calls Try.prog 15 #[.slice a k c, .int .i64 i] w fun e w' => e = .returned (.tuple #[.int .u64 y, .int .i64 p, .int .i64 er]) ∧ w = w')
    (hR : Calls Try.prog 16 #[.slice a k c, .int .i64 i] w fun e w' => e = .returned (.agg #[.int .u64 y, .int .i64 p, .int .i64 er]) ∧ Below w.heap.size w w') :
    Calls Try.prog 4 #[.slice a n c, .int .i64 i] w fun e w' => e = .returned (.bool true) ∧ Below w.heap.size w w' := by
  rcases hnk with ⟨hle, rfl⟩ | ⟨hgt, rfl⟩
  all_goals
    have HG := Lib.hid hG
    have HR := Lib.hid hR
    clear hG hR
    go_enter Try.func4, Try.ntmps4
    go_wp2_with fail
    refine HG.out.mono ?_
    rintro e w1 ⟨rfl, rfl⟩
    go_wp2_with fail
    refine HR.out.mono ?_
    rintro e w2 ⟨rfl, hb1⟩
    have hR := (At.new w2 #[.int .u64 0, .int .i64 0, .int .i64 0] 34)
    have hlt2 := hR.lt
    have r0 := hR.cell (i := 0) (v := .int .u64 0) rfl
    have r1 := hR.cell (i := 1) (v := .int .i64 0) rfl
    have r2 := hR.cell (i := 2) (v := .int .i64 0) rfl
    have g0 := hR.free 0
    have g1 := hR.free 1
    have g2 := hR.free 2
    go_wp2_with fail
    clear hR hlt2 r0 r1 r2 g0 g1 g2
    have hW3 : ∃ w3, w2.alloc (.cells #[.int .u64 y, .int .i64 p, .int .i64 er] 34) = w3 := ⟨_, rfl⟩
    have hR3 := At.new w2 #[.int .u64 y, .int .i64 p, .int .i64 er] 34
    obtain ⟨w3, hw3⟩ := hW3
    have hbA : Below w2.heap.size w2 w3 := by
      rw [← hw3]
      exact (Below.refl w2.heap.size w2).alloc (Nat.le_refl _) _
    rw [hw3] at hR3 ⊢
    have hb4 := hb1.trans (hbA.mono hb1.size)
    clear hb1 hbA
    refine (alive_any _).mono ?_
    rintro e w4 ⟨rfl, hb5⟩
    have hR4 := hR3.below hb5 hR3.lt
    have hbz := hb4.trans (hb5.mono hb4.size)
    clear hb5 hb4 hR3 hw3
    have hlt4 := hR4.lt
    have r0 := hR4.cell (i := 0) (v := .int .u64 y) rfl
    have r1 := hR4.cell (i := 1) (v := .int .i64 p) rfl
    have r2 := hR4.cell (i := 2) (v := .int .i64 er) rfl
    have g0 := hR4.free 0
    have g1 := hR4.free 1
    have g2 := hR4.free 2
    go_wp2
    go_ret
    exact ⟨ret_bool (by simp), hbz⟩

theorem gets_any (a : Option Addr) (c : Nat) (l : List Nat) (i : Int) (w : World) (hlc : l.length ≤ c) (hcb : (c : Int) ≤ 9223372036854775807) (hb : ∀ x ∈ l, x < 256) (hv : Rd w (.slice a l.length c) (bs l)) (i0 : -9223372036854775808 ≤ i) (i1 : i ≤ 9223372036854775807) :
    Calls Try.prog 4 #[.slice a l.length c, .int .i64 i] w fun e w' => e = .returned (.bool true) ∧ Below w.heap.size w w' := by
  obtain ⟨k, hk⟩ : ∃ k, (l.length ≤ 60 ∧ k = l.length) ∨ (60 < l.length ∧ k = 60) := by
    by_cases h : l.length ≤ 60
    · exact ⟨_, .inl ⟨h, rfl⟩⟩
    · exact ⟨_, .inr ⟨by omega, rfl⟩⟩
  have hkl : k ≤ l.length := by omega
  have hv2 := hv.cut k hkl
  have hbt : (bs l).take k = bs (l.take k) := by simp [bs, List.map_take]
  rw [hbt] at hv2
  have hl2 : (l.take k).length = k := by rw [List.length_take]; omega
  have hb2 : ∀ x ∈ l.take k, x < 256 := fun x hx => hb x (List.mem_of_mem_take hx)
  generalize l.take k = t at *
  by_cases hi : i < 0 ∨ (k : Int) < i
  · exact gets_core a _ c k i 0 0 1 w hk (by omega) hlc (get_arg a k c i hi w) (refGet_arg a k c i hi w)
  · obtain ⟨j, rfl⟩ : ∃ j : Nat, i = (j : Int) := ⟨i.toNat, by omega⟩
    by_cases hj : j = k
    · subst hj
      exact gets_core a _ c j j 0 j 4 w hk (by omega) hlc (get_end a j c (by omega) hcb w) (refGet_end a j c (by omega) hcb w)
    · obtain ⟨p, hp⟩ : ∃ p, getL 0 (t.drop j) = p := ⟨_, rfl⟩
      obtain ⟨y, q, er⟩ := p
      rcases hv2 with ⟨e0, _⟩ | ⟨_, b, o, c', he, hc⟩
      · have := bs_len t; rw [e0] at this; simp at this; omega
      · simp only [Value.slice.injEq] at he
        obtain ⟨rfl, _, rfl⟩ := he
        subst hl2
        exact gets_core _ _ c t.length j y ((j + q : Nat) : Int) er w hk (by omega) hlc (get_in b o c t j (by omega) (by omega) hcb hb2 w hc y q er hp) (refGet_in b o c t j (by omega) (by omega) hcb hb2 w hc y q er hp)
end Go.Proofs.Ytkclbgpkmkdhjaa
