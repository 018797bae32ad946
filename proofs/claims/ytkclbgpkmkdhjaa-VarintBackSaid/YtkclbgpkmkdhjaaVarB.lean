/- The walk of VarintBack. (Written by gen_varB.py.) -/
import Derived.Test.YtkclbgpkmkdhjaaVarC
import Derived.Test.YtkclbgpkmkdhjaaVarP
import Derived.Test.YtkclbgpkmkdhjaaVarS
import Derived.Test.YtkclbgpkmkdhjaaVarL
import Derived.RegionTactic
import Derived.Deep.RegionHeld
import Derived.Deep.DrawnRows
import Derived.WalkLawsBesides
attribute [local go_sem ↓] Go.wp_at_zero Go.wp_at_succ
namespace Go.Proofs.Ytkclbgpkmkdhjaa
open Go.RowKit VPlain

theorem below_drew1 (w : World) : Below w.heap.size w w.drew := (Below.refl _ _).drew
theorem below_step {wz w6 : World} (h : Below wz.drew.heap.size wz.drew w6) : Below wz.heap.size wz w6 := (below_drew1 wz).trans h
theorem get_row (v : Value) (n : Nat) (l : List Nat) (i : Nat) (w : World) (B : Nat) (ho : w.ownsRow B 5 1 v n (bs l)) (hb : ∀ x ∈ l, x < 256) (hi : i < l.length) (y j e : Nat) (hg : getL 0 (l.drop i) = (y, j, e)) :
    Calls Try.prog 15 #[v, .int .i64 i] w fun en w' => en = .returned (.tuple #[.int .u64 y, .int .i64 (i + j : Nat), .int .i64 e]) ∧ w = w' := by
  have hl : l.length = n := by have := ho.1; rw [bs_len] at this; omega
  have hR := Rd.of_row ho
  rcases ho.2 with ⟨rfl, h0⟩ | ⟨g, cap, cur, rfl, hB, hgb, hn, hm, hs, ht⟩
  · omega
  · rcases hR with ⟨e0, _⟩ | ⟨_, b, o, c', he, hc⟩
    · have := bs_len l; rw [e0] at this; simp at this; omega
    · rw [bs_len] at he
      simp only [Value.slice.injEq] at he
      obtain ⟨ha, rfl, rfl⟩ := he
      rw [ha]
      exact get_in b o cap l i hi hn (by unfold maxLen at hm; omega) hb w hc y j e hg
theorem zig_lt (m : Int) (h0 : -9223372036854775808 ≤ m) (h1 : m ≤ 9223372036854775807) : zigI m < 18446744073709551616 := by unfold zigI; split <;> omega
theorem zag_in (n : Nat) (h : n < 18446744073709551616) : -9223372036854775808 ≤ zagI n ∧ zagI n ≤ 9223372036854775807 := by unfold zagI; split <;> omega
theorem src_put {w : World} {B : Nat} {v : Value} {n : Nat} {xs : List Value} (h : w.ownsRow B 5 1 v n xs) (h0 : 0 < n) : Src v := by
  rcases h.2 with ⟨_, hn⟩ | ⟨g, cap, _, rfl, _⟩
  · omega
  · exact .inr ⟨_, _, _, rfl⟩
theorem got_there (A B : List Nat) (x : Nat) (hx : x < 18446744073709551616) : getL 0 ((A ++ nb x ++ B).drop A.length) = (x, (nb x).length, 0) := by
  rw [List.append_assoc, List.drop_left]
  exact getL_nb B x 0 (by omega) (by simpa using hx) (fun h => by omega)

set_option maxRecDepth 100000 in
set_option maxHeartbeats 4000000 in
theorem back_bad (a1 a2 : Option Addr) (n1 m1 c1 n2 m2 c2 : Nat) (x : Nat) (m : Int) (A B : List Nat) (w : World) (hx : x < 18446744073709551616) (hm0 : -9223372036854775808 ≤ m) (hm1 : m ≤ 9223372036854775807) (hn1 : n1 ≤ c1) (hn2 : n2 ≤ c2) (hc1 : (c1 : Int) ≤ 9223372036854775807)
    (HAE : Hid ((min (n1 : Int) 30).toNat = m1)) (HBE : Hid ((min (n2 : Int) 30).toNat = m2)) (HVA : Hid (Rd w (.slice a1 m1 c1) (bs A))) (HVB : Hid (Rd w (.slice a2 m2 c2) (bs B))) (HSA : Hid (Src (.slice a1 m1 c1))) (HSB : Hid (Src (.slice a2 m2 c2)))
    (hA : A.length = m1) (hB : B.length = m2) (hAb : ∀ z ∈ A, z < 256) (hBb : ∀ z ∈ B, z < 256) (hm1' : m1 ≤ 30) (hm2' : m2 ≤ 30) (er : Nat) (her : er ≠ 0) (p : Int) (HGA : ∀ w', Rd w' (.slice a1 m1 c1) (bs A) → Calls Try.prog 15 #[.slice a1 m1 c1, .int .i64 0] w' fun en w2 => en = .returned (.tuple #[.int .u64 0, .int .i64 p, .int .i64 er]) ∧ w' = w2) :
    Calls Try.prog 5 #[.int .u64 (x : Int), .int .i64 m, .slice a1 n1 c1, .slice a2 n2 c2] w fun e w' => e = .returned (.bool true) ∧ Below w.heap.size w w' := by
  have h10 := nb_len10 hx
  have hnp := nb_pos x
  have HG := Lib.hid (got_there A B x hx)
  go_enter Try.func5, Try.ntmps5
  go_wp2
  go_region
  go_wp2_with fail
  rw [HAE.out, HBE.out]
  have hb0 := below_drew1 w
  have HA0 := Lib.hid (HVA.out.below hb0 (Nat.le_refl _))
  have HB0 := Lib.hid (HVB.out.below hb0 (Nat.le_refl _))
  refine (put_any x hx _).mono ?_
  rintro e w1 ⟨vp, rfl, hop, hb1⟩
  have HA1 := Lib.hid (HA0.out.below hb1 (Nat.le_refl _))
  have HB1 := Lib.hid (HB0.out.below hb1 (Nat.le_refl _))
  have HP1 := Lib.hid (Rd.of_row hop)
  have HSP := Lib.hid (src_put hop hnp)
  have hb2 := hb0.trans (hb1.mono hb0.size)
  obtain ⟨pa, pc, rfl⟩ := row_slice hop
  clear hop hb1 hb0 HA0 HB0
  have hC := At.new w1 #[.slice a1 m1 c1, .slice pa (nb x).length pc, .slice a2 m2 c2] 25
  have hbC := (Below.refl w1.heap.size w1).alloc (Nat.le_refl _) (.cells #[.slice a1 m1 c1, .slice pa (nb x).length pc, .slice a2 m2 c2] 25)
  have HA2 := Lib.hid (HA1.out.below hbC (Nat.le_refl _))
  have HB2 := Lib.hid (HB1.out.below hbC (Nat.le_refl _))
  have HP2 := Lib.hid (HP1.out.below hbC (Nat.le_refl _))
  have HC := Lib.hid hC
  have hb3 := hb2.trans (hbC.mono hb2.size)
  clear hC hbC hb2 HA1 HB1 HP1
  go_wp2_with fail
  generalize hw2 : w1.alloc (.cells #[.slice a1 m1 c1, .slice pa (nb x).length pc, .slice a2 m2 c2] 25) = w2 at *
  clear hw2
  refine (concat_any w1.heap.size _ _ _ A (nb x) B _ (HC.out.cell (i := 0) rfl) (HC.out.cell (i := 1) rfl) (HC.out.cell (i := 2) rfl) HA2.out HP2.out HB2.out HSA.out HSP.out HSB.out (by omega) (by omega) (by omega) hnp).mono ?_
  rintro e w3 ⟨vb, rfl, hob, hb4⟩
  have hbs : bs A ++ bs (nb x) ++ bs B = bs (A ++ nb x ++ B) := by simp [bs]
  rw [hbs, hA, hB] at hob
  have hbyte : ∀ z ∈ A ++ nb x ++ B, z < 256 := by
    intro z hz
    rcases List.mem_append.1 hz with hz | hz
    · rcases List.mem_append.1 hz with hz | hz
      · exact hAb z hz
      · exact nb_byte x z hz
    · exact hBb z hz
  have hge := get_row vb _ (A ++ nb x ++ B) A.length w3 _ hob hbyte (by simp; omega) x _ 0 HG.out
  rw [hA] at hge
  have HGE := Lib.hid hge
  have HA3 := Lib.hid (HA2.out.below hb4 (Nat.le_refl _))
  have hb5 := hb3.trans (hb4.mono hb3.size)
  obtain ⟨ba, bc, rfl⟩ := row_slice hob
  clear hge hob hbyte hbs hb4 hb3 HA2 HB2 HP2 HC
  go_wp2_with fail
  refine HGE.out.mono ?_
  rintro e w4 ⟨rfl, rfl⟩
  go_wp2_with fail
  refine (zig_any m hm0 hm1 _).mono ?_
  rintro e w4 ⟨rfl, rfl⟩
  go_wp2_with fail
  refine (zag_any _ (zig_lt m hm0 hm1) _).mono ?_
  rintro e w4 ⟨rfl, rfl⟩
  rw [zag_zig]
  go_wp2_with fail
  refine (zag_any x hx _).mono ?_
  rintro e w4 ⟨rfl, rfl⟩
  go_wp2_with fail
  refine (zig_any _ (zag_in x hx).1 (zag_in x hx).2 _).mono ?_
  rintro e w4 ⟨rfl, rfl⟩
  rw [zig_zag]
  go_wp2_with fail
  refine (alive_any _).mono ?_
  rintro e w4 ⟨rfl, hb6⟩
  have HA4 := Lib.hid (HA3.out.below hb6 (Nat.le_refl _))
  have hb7 := hb5.trans (hb6.mono hb5.size)
  clear hb5 hb6 HA3
  go_wp2_with fail
  refine (HGA _ HA4.out).mono ?_
  rintro e w5 ⟨rfl, rfl⟩
  have hne : ((er : Int) != 0) = true := by simp; omega
  have hne2 : ((er : Int) == 0) = false := by simp; omega
  go_wp2
  go_quiet (fail)
  go_wp2
  go_ret
  exact ⟨rfl, below_drewN hb7 _⟩

set_option maxRecDepth 100000 in
set_option maxHeartbeats 4000000 in
theorem back_ok (a1 a2 : Option Addr) (n1 m1 c1 n2 m2 c2 : Nat) (x : Nat) (m : Int) (A B : List Nat) (w : World) (hx : x < 18446744073709551616) (hm0 : -9223372036854775808 ≤ m) (hm1 : m ≤ 9223372036854775807) (hn1 : n1 ≤ c1) (hn2 : n2 ≤ c2) (hc1 : (c1 : Int) ≤ 9223372036854775807)
    (HAE : Hid ((min (n1 : Int) 30).toNat = m1)) (HBE : Hid ((min (n2 : Int) 30).toNat = m2)) (HVA : Hid (Rd w (.slice a1 m1 c1) (bs A))) (HVB : Hid (Rd w (.slice a2 m2 c2) (bs B))) (HSA : Hid (Src (.slice a1 m1 c1))) (HSB : Hid (Src (.slice a2 m2 c2)))
    (hA : A.length = m1) (hB : B.length = m2) (hAb : ∀ z ∈ A, z < 256) (hBb : ∀ z ∈ B, z < 256) (hm1' : m1 ≤ 30) (hm2' : m2 ≤ 30) (y k : Nat) (hy : y < 18446744073709551616) (hkm : k ≤ m1) (HNB : Hid (A.take k = nb y)) (HGA : ∀ w', Rd w' (.slice a1 m1 c1) (bs A) → Calls Try.prog 15 #[.slice a1 m1 c1, .int .i64 0] w' fun en w2 => en = .returned (.tuple #[.int .u64 (y : Int), .int .i64 (k : Int), .int .i64 0]) ∧ w' = w2) (hmc : m1 ≤ c1) :
    Calls Try.prog 5 #[.int .u64 (x : Int), .int .i64 m, .slice a1 n1 c1, .slice a2 n2 c2] w fun e w' => e = .returned (.bool true) ∧ Below w.heap.size w w' := by
  have h10 := nb_len10 hx
  have hnp := nb_pos x
  have HG := Lib.hid (got_there A B x hx)
  go_enter Try.func5, Try.ntmps5
  go_wp2
  go_region
  go_wp2_with fail
  rw [HAE.out, HBE.out]
  have hb0 := below_drew1 w
  have HA0 := Lib.hid (HVA.out.below hb0 (Nat.le_refl _))
  have HB0 := Lib.hid (HVB.out.below hb0 (Nat.le_refl _))
  refine (put_any x hx _).mono ?_
  rintro e w1 ⟨vp, rfl, hop, hb1⟩
  have HA1 := Lib.hid (HA0.out.below hb1 (Nat.le_refl _))
  have HB1 := Lib.hid (HB0.out.below hb1 (Nat.le_refl _))
  have HP1 := Lib.hid (Rd.of_row hop)
  have HSP := Lib.hid (src_put hop hnp)
  have hb2 := hb0.trans (hb1.mono hb0.size)
  obtain ⟨pa, pc, rfl⟩ := row_slice hop
  clear hop hb1 hb0 HA0 HB0
  have hC := At.new w1 #[.slice a1 m1 c1, .slice pa (nb x).length pc, .slice a2 m2 c2] 25
  have hbC := (Below.refl w1.heap.size w1).alloc (Nat.le_refl _) (.cells #[.slice a1 m1 c1, .slice pa (nb x).length pc, .slice a2 m2 c2] 25)
  have HA2 := Lib.hid (HA1.out.below hbC (Nat.le_refl _))
  have HB2 := Lib.hid (HB1.out.below hbC (Nat.le_refl _))
  have HP2 := Lib.hid (HP1.out.below hbC (Nat.le_refl _))
  have HC := Lib.hid hC
  have hb3 := hb2.trans (hbC.mono hb2.size)
  clear hC hbC hb2 HA1 HB1 HP1
  go_wp2_with fail
  generalize hw2 : w1.alloc (.cells #[.slice a1 m1 c1, .slice pa (nb x).length pc, .slice a2 m2 c2] 25) = w2 at *
  clear hw2
  refine (concat_any w1.heap.size _ _ _ A (nb x) B _ (HC.out.cell (i := 0) rfl) (HC.out.cell (i := 1) rfl) (HC.out.cell (i := 2) rfl) HA2.out HP2.out HB2.out HSA.out HSP.out HSB.out (by omega) (by omega) (by omega) hnp).mono ?_
  rintro e w3 ⟨vb, rfl, hob, hb4⟩
  have hbs : bs A ++ bs (nb x) ++ bs B = bs (A ++ nb x ++ B) := by simp [bs]
  rw [hbs, hA, hB] at hob
  have hbyte : ∀ z ∈ A ++ nb x ++ B, z < 256 := by
    intro z hz
    rcases List.mem_append.1 hz with hz | hz
    · rcases List.mem_append.1 hz with hz | hz
      · exact hAb z hz
      · exact nb_byte x z hz
    · exact hBb z hz
  have hge := get_row vb _ (A ++ nb x ++ B) A.length w3 _ hob hbyte (by simp; omega) x _ 0 HG.out
  rw [hA] at hge
  have HGE := Lib.hid hge
  have HA3 := Lib.hid (HA2.out.below hb4 (Nat.le_refl _))
  have hb5 := hb3.trans (hb4.mono hb3.size)
  obtain ⟨ba, bc, rfl⟩ := row_slice hob
  clear hge hob hbyte hbs hb4 hb3 HA2 HB2 HP2 HC
  go_wp2_with fail
  refine HGE.out.mono ?_
  rintro e w4 ⟨rfl, rfl⟩
  go_wp2_with fail
  refine (zig_any m hm0 hm1 _).mono ?_
  rintro e w4 ⟨rfl, rfl⟩
  go_wp2_with fail
  refine (zag_any _ (zig_lt m hm0 hm1) _).mono ?_
  rintro e w4 ⟨rfl, rfl⟩
  rw [zag_zig]
  go_wp2_with fail
  refine (zag_any x hx _).mono ?_
  rintro e w4 ⟨rfl, rfl⟩
  go_wp2_with fail
  refine (zig_any _ (zag_in x hx).1 (zag_in x hx).2 _).mono ?_
  rintro e w4 ⟨rfl, rfl⟩
  rw [zig_zag]
  go_wp2_with fail
  refine (alive_any _).mono ?_
  rintro e w4 ⟨rfl, hb6⟩
  have HA4 := Lib.hid (HA3.out.below hb6 (Nat.le_refl _))
  have hb7 := hb5.trans (hb6.mono hb5.size)
  clear hb5 hb6 HA3
  go_wp2_with fail
  refine (HGA _ HA4.out).mono ?_
  rintro e w5 ⟨rfl, rfl⟩
  have hkc : k ≤ c1 := by omega
  have hk0 : (0 : Int) ≤ (k : Int) := by omega
  have hkc' : (k : Int) ≤ (c1 : Int) := by omega
  have hd : decide (k ≤ m1) = true := decide_eq_true hkm
  have hly := nb_len10 hy
  generalize HWW : w4 = wz at *
  clear HWW
  have hrd : ∀ w', Below wz.heap.size wz w' → Rd w' (.slice a1 k c1) (bs (nb y)) := by
    intro w' hb
    have h := (HA4.out.below hb (Nat.le_refl _)).cut k hkm
    rw [show (bs A).take k = bs (A.take k) from by simp [bs, List.map_take], HNB.out] at h
    exact h
  have HRD := Lib.hid hrd
  clear hrd
  go_wp2
  first
  | go_must (go_region_held (fun _ => True) (trivial) (first
    | (go_at_call 9; refine (put_any y hy _).mono ?_; rintro e w6 ⟨vq, rfl, hoq, hb8⟩; have HQ := Lib.hid (Rd.of_row hoq); have hb9 := below_step hb8; obtain ⟨qa, qc, rfl⟩ := row_slice hoq; clear hoq)
    | (go_at_call 8; go_must (refine (same_any _ _ (nb y) (nb y) _ HQ.out (HRD.out _ hb9) (by omega) (by omega)).mono ?_; rintro e w7 ⟨rfl, nd, rfl⟩; rw [decide_eq_true rfl]))))
  | fail
  all_goals
    go_wp2
    go_ret
    exact ⟨rfl, below_drewN (hb7.trans (hb9.mono hb7.size)) _⟩

theorem src_cut {a : Option Addr} {n c m : Nat} (h : a = none → c = 0) (hn : n ≤ c) (hm : m ≤ n) : Src (.slice a m c) := by
  cases a with
  | none => have := h rfl; exact .inl (by rw [show m = 0 from by omega, this])
  | some p => exact .inr ⟨_, _, _, rfl⟩
theorem back_any (a1 a2 : Option Addr) (c1 c2 : Nat) (l1 l2 : List Nat) (x : Nat) (m : Int) (w : World) (hx : x < 18446744073709551616) (hm0 : -9223372036854775808 ≤ m) (hm1 : m ≤ 9223372036854775807) (hn1 : l1.length ≤ c1) (hn2 : l2.length ≤ c2) (hc1 : (c1 : Int) ≤ 9223372036854775807)
    (hz1 : a1 = none → c1 = 0) (hz2 : a2 = none → c2 = 0) (hb1 : ∀ z ∈ l1, z < 256) (hb2 : ∀ z ∈ l2, z < 256) (hv1 : Rd w (.slice a1 l1.length c1) (bs l1)) (hv2 : Rd w (.slice a2 l2.length c2) (bs l2)) :
    Calls Try.prog 5 #[.int .u64 (x : Int), .int .i64 m, .slice a1 l1.length c1, .slice a2 l2.length c2] w fun e w' => e = .returned (.bool true) ∧ Below w.heap.size w w' := by
  obtain ⟨m1, e1⟩ : ∃ m1, (min (l1.length : Int) 30).toNat = m1 := ⟨_, rfl⟩
  obtain ⟨m2, e2⟩ : ∃ m2, (min (l2.length : Int) 30).toNat = m2 := ⟨_, rfl⟩
  have k1 : m1 ≤ l1.length := by omega
  have k2 : m2 ≤ l2.length := by omega
  have r1 := hv1.cut m1 k1
  have r2 := hv2.cut m2 k2
  rw [show (bs l1).take m1 = bs (l1.take m1) from by simp [bs, List.map_take]] at r1
  rw [show (bs l2).take m2 = bs (l2.take m2) from by simp [bs, List.map_take]] at r2
  have s1 := src_cut hz1 hn1 k1
  have s2 := src_cut hz2 hn2 k2
  have t1 : (l1.take m1).length = m1 := by rw [List.length_take]; omega
  have t2 : (l2.take m2).length = m2 := by rw [List.length_take]; omega
  have u1 : ∀ z ∈ l1.take m1, z < 256 := fun z hz => hb1 z (List.mem_of_mem_take hz)
  have u2 : ∀ z ∈ l2.take m2, z < 256 := fun z hz => hb2 z (List.mem_of_mem_take hz)
  generalize l1.take m1 = A at *
  generalize l2.take m2 = B at *
  have hget : ∀ w', Rd w' (.slice a1 m1 c1) (bs A) → Calls Try.prog 15 #[.slice a1 m1 c1, .int .i64 0] w' fun en w2 => en = .returned (.tuple #[.int .u64 ((getL 0 A).1 : Int), .int .i64 ((getL 0 A).2.1 : Int), .int .i64 ((getL 0 A).2.2 : Int)]) ∧ w' = w2 := by
    intro w' hr
    by_cases h0 : m1 = 0
    · have hA0 : A = [] := List.length_eq_zero_iff.1 (by omega)
      subst h0
      rw [hA0]
      exact get_end a1 0 c1 (Nat.zero_le _) hc1 w'
    · rcases hr with ⟨e0, _⟩ | ⟨_, b, o, c', he, hc⟩
      · have := bs_len A; rw [e0] at this; simp at this; omega
      · simp only [Value.slice.injEq] at he
        obtain ⟨rfl, _, rfl⟩ := he
        rw [← t1]
        have h := get_in b o c1 A 0 (by omega) (by omega) hc1 u1 w' hc (getL 0 A).1 (getL 0 A).2.1 (getL 0 A).2.2 rfl
        simpa using h
  by_cases her : (getL 0 A).2.2 = 0
  · refine back_ok a1 a2 l1.length m1 c1 l2.length m2 c2 x m A B w hx hm0 hm1 hn1 hn2 hc1 e1 e2 r1 r2 s1 s2 t1 t2 u1 u2 (by omega) (by omega) (getL 0 A).1 (getL 0 A).2.1 ?_ (by have := getL_le A 0; omega) (nb_getL A u1 0 her).1.symm ?_ (by omega)
    · simpa using getL_lt A u1 0 (by omega)
    · intro w' hr
      have h := hget w' hr
      rw [her] at h
      exact h
  · refine back_bad a1 a2 l1.length m1 c1 l2.length m2 c2 x m A B w hx hm0 hm1 hn1 hn2 hc1 e1 e2 r1 r2 s1 s2 t1 t2 u1 u2 (by omega) (by omega) (getL 0 A).2.2 her ((getL 0 A).2.1 : Int) ?_
    intro w' hr
    have h := hget w' hr
    rw [getL_bad A 0 her] at h
    exact h
end Go.Proofs.Ytkclbgpkmkdhjaa
