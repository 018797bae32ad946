/- The walks of package binary's bodyOf and Print. -/
import Derived.Test.YtgebmjbfeakpgaaDoorBinC
import Derived.Test.YtgebmjbfeakpgaaDoorVarC
import Derived.Test.YtgebmjbfeakpgaaDoorVarP
import Derived.Test.YtgebmjbfeakpgaaDoorVarZ
import Derived.Test.YtgebmjbfeakpgaaDoorTxtH
import Derived.Deep.RegionHeldLaw
import Derived.Deep.DrawnRows
import Derived.Deep.DeepMust
import Derived.IntWalk
import Derived.Laws.OwnMore
attribute [local go_sem ↓] Go.wp_at_zero Go.wp_at_succ
namespace Go.Proofs.YtgebmjbfeakpgaaDoor
open Go.RowKit WPlain VPlain BPlain

theorem evOk_in {e : Ev} (h : evOk e = true) : 0 ≤ e.k ∧ e.k ≤ 9 ∧ 0 ≤ e.t ∧ e.t ≤ 9999 ∧ 0 ≤ e.v ∧ e.v ≤ 7 ∧ -2147483648 ≤ e.x ∧ e.x ≤ 2147483647 := by
  simp only [evOk, inB, Bool.and_eq_true, decide_eq_true_eq] at h
  omega
theorem evOk_v {e : Ev} (h : evOk e = true) (hV : hasV e.k.toNat = false) : e.v = 0 := by
  simp only [evOk, hV, Bool.and_eq_true, Bool.false_or, beq_iff_eq] at h
  exact h.1.2.1
theorem evOk_x {e : Ev} (h : evOk e = true) (hX : hasX e.k.toNat = false) : e.x = 0 := by
  simp only [evOk, hX, Bool.and_eq_true, Bool.false_or, beq_iff_eq] at h
  exact h.1.2.2
theorem nb_len_small {n : Nat} (h : n < 128 ^ 5) : (nb n).length ≤ 5 := nb_len 4 n h
theorem nb_len2 {n : Nat} (h : n < 16384) : (nb n).length ≤ 2 := nb_len 1 n (by omega)
theorem nb_len1 {n : Nat} (h : n < 128) : (nb n).length = 1 := by rw [nb_small h]; rfl
theorem zig_small {m : Int} (h0 : -2147483648 ≤ m) (h1 : m ≤ 2147483647) : zigI m < 4294967296 := by unfold zigI; split <;> omega
theorem bodyB_len {e : Ev} (h : evOk e = true) : (bodyB e).length ≤ 20 ∧ 0 < (bodyB e).length := by
  obtain ⟨_, _, t0, t1, v0, v1, x0, x1⟩ := evOk_in h
  have h1 := nb_len2 (n := e.t.toNat) (by omega)
  have h2 := nb_len1 (n := e.v.toNat) (by omega)
  have h3 := nb_len_small (n := zigI e.x) (Nat.lt_trans (zig_small x0 x1) (by decide))
  unfold bodyB
  constructor
  · simp only [List.length_append, List.length_cons]
    split <;> split <;> first | omega | (simp only [List.length_nil] at *; omega)
  · simp only [List.length_append, List.length_cons]; omega
theorem bs_cons (x : Nat) (l : List Nat) : bs (x :: l) = .int .u8 (x : Int) :: bs l := rfl
theorem bs_app (l m : List Nat) : bs (l ++ m) = bs l ++ bs m := by simp [bs]

/-- the event's cells, boxed -/
def Bx (w : World) (q : Nat) (k t v x : Int) : Prop := w.cell? ⟨q, 0, none⟩ = some (.int .i64 k) ∧ w.cell? ⟨q, 1, none⟩ = some (.int .i64 t) ∧ w.cell? ⟨q, 2, none⟩ = some (.int .i64 v) ∧ w.cell? ⟨q, 3, none⟩ = some (.int .i64 x)
theorem Bx.below {w w' : World} {q : Nat} {k t v x : Int} (h : Bx w q k t v x) (hb : Below w.heap.size w w') : Bx w' q k t v x :=
  ⟨(hb.cell (p := ⟨q, 0, none⟩) (cell_lt h.1)).trans h.1, (hb.cell (p := ⟨q, 1, none⟩) (cell_lt h.1)).trans h.2.1, (hb.cell (p := ⟨q, 2, none⟩) (cell_lt h.1)).trans h.2.2.1, (hb.cell (p := ⟨q, 3, none⟩) (cell_lt h.1)).trans h.2.2.2⟩
theorem own_below {w w' : World} {B : Nat} {e : TypeId} {z : Nat} {v : Value} {n : Nat} {xs : List Value} (h : w.ownsRow B e z v n xs) (hb : Below w.heap.size w w') : w'.ownsRow B e z v n xs :=
  own_only (s := fun _ => False) h (Only.of_below hb) (fun _ _ hf => hf)
theorem blow_dr (w : World) : Below w.heap.size w w.drew := (Below.refl _ _).drew
theorem blow_stp {wz w6 : World} (h : Below wz.drew.heap.size wz.drew w6) : Below wz.heap.size wz w6 := (blow_dr wz).trans h
/-- Put, its bytes at an address -/
theorem putA_any (x : Nat) (hx : x < 18446744073709551616) (w : World) :
    Calls Tryd.prog 19 #[.int .u64 (x : Int)] w fun e w' => ∃ g c, e = .returned (.slice (some ⟨g, 0, none⟩) (nb x).length c) ∧ (Rd w' (.slice (some ⟨g, 0, none⟩) (nb x).length c) (bs (nb x)) ∧ (nb x).length ≤ 10 ∧ Below w.heap.size w w') := by
  refine (put_any x hx w).mono ?_
  rintro e w1 ⟨v1, rfl, ho, hb⟩
  have hr := Rd.of_row ho
  have hp := nb_pos x
  rcases ho.2 with ⟨_, h0⟩ | ⟨g, cap, cur, rfl, _⟩
  · omega
  · exact ⟨g, cap, rfl, hr, nb_len10 hx, hb⟩
theorem Rd.src_ {g n c : Nat} : SrcB (.slice (some ⟨g, 0, none⟩) n c) := .inr ⟨_, _, _, rfl⟩

set_option maxRecDepth 100000 in
set_option maxHeartbeats 1000000 in
theorem body_nn (k t v : Nat) (x : Int) (w : World) (hk : k < 10) (ht : t ≤ 9999) (hv : v ≤ 7) (hx0 : -2147483648 ≤ x) (hx1 : x ≤ 2147483647) (hV : hasV k = false) (hX : hasX k = false) :
    Calls Tryd.prog 24 #[.agg #[.int .i64 k, .int .i64 t, .int .i64 v, .int .i64 x]] w fun e w' => ∃ z, e = .returned z ∧ (w'.ownsRow w.heap.size 5 1 z (1 + (nb t).length) (bs (k :: nb t)) ∧ Below w.heap.size w w') := by
  obtain ⟨j0, hj0, hy0, hy1', hy2'⟩ := info_parts infoU8
  have hzs := zig_small hx0 hx1
  have hE := At.new w #[.int .i64 (k : Int), .int .i64 (t : Int), .int .i64 (v : Int), .int .i64 x] 42
  have hb0 := (Below.refl w.heap.size w).alloc (Nat.le_refl _) (.cells #[.int .i64 (k : Int), .int .i64 (t : Int), .int .i64 (v : Int), .int .i64 x] 42)
  have HB0 := Lib.hid hb0
  have HX0 : Hid (Bx (w.alloc (.cells #[.int .i64 (k : Int), .int .i64 (t : Int), .int .i64 (v : Int), .int .i64 x] 42)) w.heap.size k t v x) := ⟨hE.cell (i := 0) rfl, hE.cell (i := 1) rfl, hE.cell (i := 2) rfl, hE.cell (i := 3) rfl⟩
  have HE0 := Lib.hid hE
  have HV := Lib.hid hV
  have HX := Lib.hid hX
  have hsz : w.heap.size + 1 ≤ (w.alloc (.cells #[.int .i64 (k : Int), .int .i64 (t : Int), .int .i64 (v : Int), .int .i64 x] 42)).heap.size := by simp
  have hw8 : IntKind.u8.wrap (k : Int) = (k : Int) := by simp [IntKind.wrap, IntKind.bits, IntKind.signed]; omega
  have hwt : IntKind.u64.wrap (t : Int) = (t : Int) := by simp [IntKind.wrap, IntKind.bits, IntKind.signed]; omega
  have hwv : Hid (IntKind.u64.wrap (v : Int) = (v : Int)) := by simp [Hid, IntKind.wrap, IntKind.bits, IntKind.signed]; omega
  clear hE hb0 hV hX
  go_enter Tryd.func24, Tryd.ntmps24
  go_wp2_with fail
  generalize w.alloc (.cells #[.int .i64 (k : Int), .int .i64 (t : Int), .int .i64 (v : Int), .int .i64 x] 42) = w1 at *
  have HXB : Hid (∀ w', Below w1.heap.size w1 w' → Bx w' w.heap.size k t v x) := fun w' hb => HX0.out.below hb
  clear HX0
  first
  | go_must (go_region_held_law (fun w' => w'.cell? ⟨w.heap.size, 0, none⟩ = some (.int .i64 (k : Int)) ∧ w'.cell? ⟨w.heap.size, 1, none⟩ = some (.int .i64 (t : Int)) ∧ w'.cell? ⟨w.heap.size, 2, none⟩ = some (.int .i64 (v : Int)) ∧ w'.cell? ⟨w.heap.size, 3, none⟩ = some (.int .i64 x))
      (first | exact HXB.out _ hb9 | exact HXB.out _ (hb3.alloc hb3.size _) | exact HXB.out _ hb3 | exact HXB.out _ ((blow_dr _).alloc (Nat.le_refl _) _) | exact HXB.out _ (blow_dr _))
      (first
        | (go_at_call 19; refine (putA_any t (by omega) _).mono ?_; rintro e w2 ⟨gp, cp, rfl, hrd, hlen, hbc⟩; have hb3 : Below w1.heap.size w1 w2 := (by first | exact ((blow_dr w1).alloc (Nat.le_refl _) _).trans (hbc.mono (by simp)) | exact blow_stp hbc); have hlt3 := hb3.size)
        | (refine step_append_mine rfl _ _ 22 rfl w1.heap.size 5 j0 _ 1 1 Tryd.underlying22 hj0 hy0 hy1' hy2' rfl (by decide) (.slice (some ⟨w2.heap.size, 0, none⟩) 1 1) 1 [.int .u8 (k : Int)] rfl (World.ownsRow_lit w2 #[.int .u8 (k : Int)] 1 hlt3 (by unfold maxLen; omega) rfl) ⟨gp, 0, none⟩ (nb t).length cp (bs (nb t)) rfl (by rw [bs_len]; omega) (rd_cells (hrd.below ((Below.refl _ _).alloc (Nat.le_refl _) _) (Nat.le_refl _))) (bs_oneCell _) (by unfold maxLen; omega) (by omega) (by simp; omega) ?_; intro v3 w3 hx3 hg3; have hb9 : Below w1.heap.size w1 w3 := (hb3.alloc hlt3 _).grown hg3 (by simp; omega) (fun kb hkb => own_turned (World.ownsRow_lit (e := 5) (base := w1.heap.size) (size := 1) w2 #[.int .u8 (k : Int)] 1 hlt3 (by unfold maxLen; omega) rfl) (by simp; omega) hkb))
        | (refine step_append_mine rfl _ _ 22 rfl w1.heap.size 5 j0 _ 1 1 Tryd.underlying22 hj0 hy0 hy1' hy2' rfl (by decide) (.slice (some ⟨w1.heap.size, 0, none⟩) 1 1) 1 [.int .u8 (k : Int)] rfl (own_below (World.ownsRow_lit w1 #[.int .u8 (k : Int)] 1 (Nat.le_refl _) (by unfold maxLen; omega) rfl).drew hbc) ⟨gp, 0, none⟩ (nb t).length cp (bs (nb t)) rfl (by rw [bs_len]; omega) (rd_cells hrd) (bs_oneCell _) (by unfold maxLen; omega) (by omega) hlt3 ?_; intro v3 w3 hx3 hg3; have hb9 : Below w1.heap.size w1 w3 := hb3.grown hg3 hlt3 (fun kb hkb => own_turned (own_below (World.ownsRow_lit (e := 5) (base := w1.heap.size) (size := 1) w1 #[.int .u8 (k : Int)] 1 (Nat.le_refl _) (by unfold maxLen; omega) rfl).drew hbc) hlt3 hkb))))
  | fail
  all_goals
    have HOWN : Hid (w3.ownsRow w.heap.size 5 1 v3 (1 + (nb t).length) (bs (k :: nb t))) := own_mono hx3 (by omega)
    have HB3 : Hid (Below w.heap.size w w3) := HB0.out.trans (hb9.mono (by omega))
    have hlt1 : w.heap.size ≤ w3.heap.size := HB3.out.size
    obtain ⟨c0, c1, c2, c3⟩ := HXB.out _ hb9
    have HX3 : Hid (Bx w3 w.heap.size k t v x) := ⟨c0, c1, c2, c3⟩
    have HE3 := Lib.hid (HE0.out.below hb9 (by omega))
    clear hw8 hwt hx3 hg3 hb3 hbc hrd hb9
    go_wp2_with fail
    refine (bhasVar_any k hk _).mono ?_
    rintro e wz ⟨rfl, rfl⟩
    rw [HV.out]
    go_wp2_with fail
    refine (bhasVal_any k hk _).mono ?_
    rintro e wz ⟨rfl, rfl⟩
    rw [HX.out]
    go_wp2
    go_ret
    exact ⟨_, rfl, HOWN.out, HB3.out⟩
set_option maxRecDepth 100000 in
set_option maxHeartbeats 1000000 in
theorem body_Vn (k t v : Nat) (x : Int) (w : World) (hk : k < 10) (ht : t ≤ 9999) (hv : v ≤ 7) (hx0 : -2147483648 ≤ x) (hx1 : x ≤ 2147483647) (hV : hasV k = true) (hX : hasX k = false) :
    Calls Tryd.prog 24 #[.agg #[.int .i64 k, .int .i64 t, .int .i64 v, .int .i64 x]] w fun e w' => ∃ z, e = .returned z ∧ (w'.ownsRow w.heap.size 5 1 z (1 + (nb t).length + (nb v).length) (bs (k :: nb t ++ nb v)) ∧ Below w.heap.size w w') := by
  obtain ⟨j0, hj0, hy0, hy1', hy2'⟩ := info_parts infoU8
  have hzs := zig_small hx0 hx1
  have hE := At.new w #[.int .i64 (k : Int), .int .i64 (t : Int), .int .i64 (v : Int), .int .i64 x] 42
  have hb0 := (Below.refl w.heap.size w).alloc (Nat.le_refl _) (.cells #[.int .i64 (k : Int), .int .i64 (t : Int), .int .i64 (v : Int), .int .i64 x] 42)
  have HB0 := Lib.hid hb0
  have HX0 : Hid (Bx (w.alloc (.cells #[.int .i64 (k : Int), .int .i64 (t : Int), .int .i64 (v : Int), .int .i64 x] 42)) w.heap.size k t v x) := ⟨hE.cell (i := 0) rfl, hE.cell (i := 1) rfl, hE.cell (i := 2) rfl, hE.cell (i := 3) rfl⟩
  have HE0 := Lib.hid hE
  have HV := Lib.hid hV
  have HX := Lib.hid hX
  have hsz : w.heap.size + 1 ≤ (w.alloc (.cells #[.int .i64 (k : Int), .int .i64 (t : Int), .int .i64 (v : Int), .int .i64 x] 42)).heap.size := by simp
  have hw8 : IntKind.u8.wrap (k : Int) = (k : Int) := by simp [IntKind.wrap, IntKind.bits, IntKind.signed]; omega
  have hwt : IntKind.u64.wrap (t : Int) = (t : Int) := by simp [IntKind.wrap, IntKind.bits, IntKind.signed]; omega
  have hwv : Hid (IntKind.u64.wrap (v : Int) = (v : Int)) := by simp [Hid, IntKind.wrap, IntKind.bits, IntKind.signed]; omega
  clear hE hb0 hV hX
  go_enter Tryd.func24, Tryd.ntmps24
  go_wp2_with fail
  generalize w.alloc (.cells #[.int .i64 (k : Int), .int .i64 (t : Int), .int .i64 (v : Int), .int .i64 x] 42) = w1 at *
  have HXB : Hid (∀ w', Below w1.heap.size w1 w' → Bx w' w.heap.size k t v x) := fun w' hb => HX0.out.below hb
  clear HX0
  first
  | go_must (go_region_held_law (fun w' => w'.cell? ⟨w.heap.size, 0, none⟩ = some (.int .i64 (k : Int)) ∧ w'.cell? ⟨w.heap.size, 1, none⟩ = some (.int .i64 (t : Int)) ∧ w'.cell? ⟨w.heap.size, 2, none⟩ = some (.int .i64 (v : Int)) ∧ w'.cell? ⟨w.heap.size, 3, none⟩ = some (.int .i64 x))
      (first | exact HXB.out _ hb9 | exact HXB.out _ (hb3.alloc hb3.size _) | exact HXB.out _ hb3 | exact HXB.out _ ((blow_dr _).alloc (Nat.le_refl _) _) | exact HXB.out _ (blow_dr _))
      (first
        | (go_at_call 19; refine (putA_any t (by omega) _).mono ?_; rintro e w2 ⟨gp, cp, rfl, hrd, hlen, hbc⟩; have hb3 : Below w1.heap.size w1 w2 := (by first | exact ((blow_dr w1).alloc (Nat.le_refl _) _).trans (hbc.mono (by simp)) | exact blow_stp hbc); have hlt3 := hb3.size)
        | (refine step_append_mine rfl _ _ 22 rfl w1.heap.size 5 j0 _ 1 1 Tryd.underlying22 hj0 hy0 hy1' hy2' rfl (by decide) (.slice (some ⟨w2.heap.size, 0, none⟩) 1 1) 1 [.int .u8 (k : Int)] rfl (World.ownsRow_lit w2 #[.int .u8 (k : Int)] 1 hlt3 (by unfold maxLen; omega) rfl) ⟨gp, 0, none⟩ (nb t).length cp (bs (nb t)) rfl (by rw [bs_len]; omega) (rd_cells (hrd.below ((Below.refl _ _).alloc (Nat.le_refl _) _) (Nat.le_refl _))) (bs_oneCell _) (by unfold maxLen; omega) (by omega) (by simp; omega) ?_; intro v3 w3 hx3 hg3; have hb9 : Below w1.heap.size w1 w3 := (hb3.alloc hlt3 _).grown hg3 (by simp; omega) (fun kb hkb => own_turned (World.ownsRow_lit (e := 5) (base := w1.heap.size) (size := 1) w2 #[.int .u8 (k : Int)] 1 hlt3 (by unfold maxLen; omega) rfl) (by simp; omega) hkb))
        | (refine step_append_mine rfl _ _ 22 rfl w1.heap.size 5 j0 _ 1 1 Tryd.underlying22 hj0 hy0 hy1' hy2' rfl (by decide) (.slice (some ⟨w1.heap.size, 0, none⟩) 1 1) 1 [.int .u8 (k : Int)] rfl (own_below (World.ownsRow_lit w1 #[.int .u8 (k : Int)] 1 (Nat.le_refl _) (by unfold maxLen; omega) rfl).drew hbc) ⟨gp, 0, none⟩ (nb t).length cp (bs (nb t)) rfl (by rw [bs_len]; omega) (rd_cells hrd) (bs_oneCell _) (by unfold maxLen; omega) (by omega) hlt3 ?_; intro v3 w3 hx3 hg3; have hb9 : Below w1.heap.size w1 w3 := hb3.grown hg3 hlt3 (fun kb hkb => own_turned (own_below (World.ownsRow_lit (e := 5) (base := w1.heap.size) (size := 1) w1 #[.int .u8 (k : Int)] 1 (Nat.le_refl _) (by unfold maxLen; omega) rfl).drew hbc) hlt3 hkb))))
  | fail
  all_goals
    have HOWN : Hid (w3.ownsRow w.heap.size 5 1 v3 (1 + (nb t).length) (bs (k :: nb t))) := own_mono hx3 (by omega)
    have HB3 : Hid (Below w.heap.size w w3) := HB0.out.trans (hb9.mono (by omega))
    have hlt1 : w.heap.size ≤ w3.heap.size := HB3.out.size
    obtain ⟨c0, c1, c2, c3⟩ := HXB.out _ hb9
    have HX3 : Hid (Bx w3 w.heap.size k t v x) := ⟨c0, c1, c2, c3⟩
    have HE3 := Lib.hid (HE0.out.below hb9 (by omega))
    clear hw8 hwt hx3 hg3 hb3 hbc hrd hb9
    go_wp2_with fail
    refine (bhasVar_any k hk _).mono ?_
    rintro e wz ⟨rfl, rfl⟩
    rw [HV.out]
    have hwv' := hwv.out
    go_wp2_with fail
    refine (putA_any v (by omega) _).mono ?_
    rintro e w4 ⟨gq, cq, rfl, hrd4, hlen4, hb4⟩
    have HR4 := Lib.hid hrd4
    have HOWN4 := Lib.hid (own_below HOWN.out hb4)
    have HB4 := Lib.hid (HB3.out.trans (hb4.mono hlt1))
    have hlt4 : w.heap.size ≤ w4.heap.size := HB4.out.size
    have HE4 := Lib.hid (HE3.out.below hb4 HE3.out.lt)
    clear hwv' hrd4 hb4 c0 c1 c2 c3 HX3 HOWN HB3
    have hsum : (1 + (nb t).length) + (nb v).length ≤ 65536 := by have := nb_len10 (n := t) (by omega); omega
    go_wp2_with (at_builtin; refine wpList_append_by rfl _ _ rfl w.heap.size _ _ _ rfl HOWN4.out _ (nb v) rfl HR4.out Rd.src_ hsum hlt4 ?_)
    intro v5 w5 h5 hg5
    have HOWN5 : Hid (w5.ownsRow w.heap.size 5 1 v5 (1 + (nb t).length + (nb v).length) (bs (k :: nb t ++ nb v))) := by unfold Hid; rw [bs_app]; exact h5
    have HB5 : Hid (Below w.heap.size w w5) := HB4.out.grown hg5 hlt4 (fun k hk => (own_base HOWN4.out hk).1)
    have hlt5 : w.heap.size ≤ w5.heap.size := HB5.out.size
    have hE5 := HE4.out.grown hg5 (fun hh => row_not HOWN4.out HE4.out (by decide) hh.symm)
    have c0 := hE5.cell (i := 0) (v := .int .i64 (k : Int)) rfl
    have c3 := hE5.cell (i := 3) (v := .int .i64 x) rfl
    clear h5 hg5 HOWN4 HB4 hlt4 hE5
    go_wp2_with fail
    refine (bhasVal_any k hk _).mono ?_
    rintro e wz ⟨rfl, rfl⟩
    rw [HX.out]
    go_wp2
    go_ret
    exact ⟨_, rfl, HOWN5.out, HB5.out⟩
set_option maxRecDepth 100000 in
set_option maxHeartbeats 1000000 in
theorem body_nX (k t v : Nat) (x : Int) (w : World) (hk : k < 10) (ht : t ≤ 9999) (hv : v ≤ 7) (hx0 : -2147483648 ≤ x) (hx1 : x ≤ 2147483647) (hV : hasV k = false) (hX : hasX k = true) :
    Calls Tryd.prog 24 #[.agg #[.int .i64 k, .int .i64 t, .int .i64 v, .int .i64 x]] w fun e w' => ∃ z, e = .returned z ∧ (w'.ownsRow w.heap.size 5 1 z (1 + (nb t).length + (nb (zigI x)).length) (bs (k :: nb t ++ nb (zigI x))) ∧ Below w.heap.size w w') := by
  obtain ⟨j0, hj0, hy0, hy1', hy2'⟩ := info_parts infoU8
  have hzs := zig_small hx0 hx1
  have hE := At.new w #[.int .i64 (k : Int), .int .i64 (t : Int), .int .i64 (v : Int), .int .i64 x] 42
  have hb0 := (Below.refl w.heap.size w).alloc (Nat.le_refl _) (.cells #[.int .i64 (k : Int), .int .i64 (t : Int), .int .i64 (v : Int), .int .i64 x] 42)
  have HB0 := Lib.hid hb0
  have HX0 : Hid (Bx (w.alloc (.cells #[.int .i64 (k : Int), .int .i64 (t : Int), .int .i64 (v : Int), .int .i64 x] 42)) w.heap.size k t v x) := ⟨hE.cell (i := 0) rfl, hE.cell (i := 1) rfl, hE.cell (i := 2) rfl, hE.cell (i := 3) rfl⟩
  have HE0 := Lib.hid hE
  have HV := Lib.hid hV
  have HX := Lib.hid hX
  have hsz : w.heap.size + 1 ≤ (w.alloc (.cells #[.int .i64 (k : Int), .int .i64 (t : Int), .int .i64 (v : Int), .int .i64 x] 42)).heap.size := by simp
  have hw8 : IntKind.u8.wrap (k : Int) = (k : Int) := by simp [IntKind.wrap, IntKind.bits, IntKind.signed]; omega
  have hwt : IntKind.u64.wrap (t : Int) = (t : Int) := by simp [IntKind.wrap, IntKind.bits, IntKind.signed]; omega
  have hwv : Hid (IntKind.u64.wrap (v : Int) = (v : Int)) := by simp [Hid, IntKind.wrap, IntKind.bits, IntKind.signed]; omega
  clear hE hb0 hV hX
  go_enter Tryd.func24, Tryd.ntmps24
  go_wp2_with fail
  generalize w.alloc (.cells #[.int .i64 (k : Int), .int .i64 (t : Int), .int .i64 (v : Int), .int .i64 x] 42) = w1 at *
  have HXB : Hid (∀ w', Below w1.heap.size w1 w' → Bx w' w.heap.size k t v x) := fun w' hb => HX0.out.below hb
  clear HX0
  first
  | go_must (go_region_held_law (fun w' => w'.cell? ⟨w.heap.size, 0, none⟩ = some (.int .i64 (k : Int)) ∧ w'.cell? ⟨w.heap.size, 1, none⟩ = some (.int .i64 (t : Int)) ∧ w'.cell? ⟨w.heap.size, 2, none⟩ = some (.int .i64 (v : Int)) ∧ w'.cell? ⟨w.heap.size, 3, none⟩ = some (.int .i64 x))
      (first | exact HXB.out _ hb9 | exact HXB.out _ (hb3.alloc hb3.size _) | exact HXB.out _ hb3 | exact HXB.out _ ((blow_dr _).alloc (Nat.le_refl _) _) | exact HXB.out _ (blow_dr _))
      (first
        | (go_at_call 19; refine (putA_any t (by omega) _).mono ?_; rintro e w2 ⟨gp, cp, rfl, hrd, hlen, hbc⟩; have hb3 : Below w1.heap.size w1 w2 := (by first | exact ((blow_dr w1).alloc (Nat.le_refl _) _).trans (hbc.mono (by simp)) | exact blow_stp hbc); have hlt3 := hb3.size)
        | (refine step_append_mine rfl _ _ 22 rfl w1.heap.size 5 j0 _ 1 1 Tryd.underlying22 hj0 hy0 hy1' hy2' rfl (by decide) (.slice (some ⟨w2.heap.size, 0, none⟩) 1 1) 1 [.int .u8 (k : Int)] rfl (World.ownsRow_lit w2 #[.int .u8 (k : Int)] 1 hlt3 (by unfold maxLen; omega) rfl) ⟨gp, 0, none⟩ (nb t).length cp (bs (nb t)) rfl (by rw [bs_len]; omega) (rd_cells (hrd.below ((Below.refl _ _).alloc (Nat.le_refl _) _) (Nat.le_refl _))) (bs_oneCell _) (by unfold maxLen; omega) (by omega) (by simp; omega) ?_; intro v3 w3 hx3 hg3; have hb9 : Below w1.heap.size w1 w3 := (hb3.alloc hlt3 _).grown hg3 (by simp; omega) (fun kb hkb => own_turned (World.ownsRow_lit (e := 5) (base := w1.heap.size) (size := 1) w2 #[.int .u8 (k : Int)] 1 hlt3 (by unfold maxLen; omega) rfl) (by simp; omega) hkb))
        | (refine step_append_mine rfl _ _ 22 rfl w1.heap.size 5 j0 _ 1 1 Tryd.underlying22 hj0 hy0 hy1' hy2' rfl (by decide) (.slice (some ⟨w1.heap.size, 0, none⟩) 1 1) 1 [.int .u8 (k : Int)] rfl (own_below (World.ownsRow_lit w1 #[.int .u8 (k : Int)] 1 (Nat.le_refl _) (by unfold maxLen; omega) rfl).drew hbc) ⟨gp, 0, none⟩ (nb t).length cp (bs (nb t)) rfl (by rw [bs_len]; omega) (rd_cells hrd) (bs_oneCell _) (by unfold maxLen; omega) (by omega) hlt3 ?_; intro v3 w3 hx3 hg3; have hb9 : Below w1.heap.size w1 w3 := hb3.grown hg3 hlt3 (fun kb hkb => own_turned (own_below (World.ownsRow_lit (e := 5) (base := w1.heap.size) (size := 1) w1 #[.int .u8 (k : Int)] 1 (Nat.le_refl _) (by unfold maxLen; omega) rfl).drew hbc) hlt3 hkb))))
  | fail
  all_goals
    have HOWN : Hid (w3.ownsRow w.heap.size 5 1 v3 (1 + (nb t).length) (bs (k :: nb t))) := own_mono hx3 (by omega)
    have HB3 : Hid (Below w.heap.size w w3) := HB0.out.trans (hb9.mono (by omega))
    have hlt1 : w.heap.size ≤ w3.heap.size := HB3.out.size
    obtain ⟨c0, c1, c2, c3⟩ := HXB.out _ hb9
    have HX3 : Hid (Bx w3 w.heap.size k t v x) := ⟨c0, c1, c2, c3⟩
    have HE3 := Lib.hid (HE0.out.below hb9 (by omega))
    clear hw8 hwt hx3 hg3 hb3 hbc hrd hb9
    go_wp2_with fail
    refine (bhasVar_any k hk _).mono ?_
    rintro e wz ⟨rfl, rfl⟩
    rw [HV.out]
    go_wp2_with fail
    refine (bhasVal_any k hk _).mono ?_
    rintro e wz ⟨rfl, rfl⟩
    rw [HX.out]
    go_wp2_with fail
    refine (zig_any x (by omega) (by omega) _).mono ?_
    rintro e wz ⟨rfl, rfl⟩
    go_wp2_with fail
    refine (putA_any (zigI x) (by omega) _).mono ?_
    rintro e w6 ⟨gr, cr, rfl, hrd6, hlen6, hb6⟩
    have HR6 := Lib.hid hrd6
    have HOWN6 := Lib.hid (own_below HOWN.out hb6)
    have HB6 := Lib.hid (HB3.out.trans (hb6.mono hlt1))
    have hlt6 : w.heap.size ≤ w6.heap.size := HB6.out.size
    clear hrd6 hb6 c0 c3
    have hsum6 : (1 + (nb t).length) + (nb (zigI x)).length ≤ 65536 := by have := nb_len10 (n := t) (by omega); have := nb_len10 (n := v) (by omega); omega
    go_wp2_with (at_builtin; refine wpList_append_by rfl _ _ rfl w.heap.size _ _ _ rfl HOWN6.out _ (nb (zigI x)) rfl HR6.out Rd.src_ hsum6 hlt6 ?_)
    intro v7 w7 h7 hg7
    have HB7 : Hid (Below w.heap.size w w7) := HB6.out.grown hg7 hlt6 (fun k hk => (own_base HOWN6.out hk).1)
    have HOWN7 : Hid (w7.ownsRow w.heap.size 5 1 v7 (1 + (nb t).length + (nb (zigI x)).length) (bs ((k :: nb t) ++ nb (zigI x)))) := by unfold Hid; rw [bs_app]; exact h7
    clear h7 hg7 HOWN6 HB6
    go_wp2
    go_ret
    exact ⟨_, rfl, HOWN7.out, HB7.out⟩
set_option maxRecDepth 100000 in
set_option maxHeartbeats 1000000 in
theorem body_VX (k t v : Nat) (x : Int) (w : World) (hk : k < 10) (ht : t ≤ 9999) (hv : v ≤ 7) (hx0 : -2147483648 ≤ x) (hx1 : x ≤ 2147483647) (hV : hasV k = true) (hX : hasX k = true) :
    Calls Tryd.prog 24 #[.agg #[.int .i64 k, .int .i64 t, .int .i64 v, .int .i64 x]] w fun e w' => ∃ z, e = .returned z ∧ (w'.ownsRow w.heap.size 5 1 z (1 + (nb t).length + (nb v).length + (nb (zigI x)).length) (bs (k :: nb t ++ nb v ++ nb (zigI x))) ∧ Below w.heap.size w w') := by
  obtain ⟨j0, hj0, hy0, hy1', hy2'⟩ := info_parts infoU8
  have hzs := zig_small hx0 hx1
  have hE := At.new w #[.int .i64 (k : Int), .int .i64 (t : Int), .int .i64 (v : Int), .int .i64 x] 42
  have hb0 := (Below.refl w.heap.size w).alloc (Nat.le_refl _) (.cells #[.int .i64 (k : Int), .int .i64 (t : Int), .int .i64 (v : Int), .int .i64 x] 42)
  have HB0 := Lib.hid hb0
  have HX0 : Hid (Bx (w.alloc (.cells #[.int .i64 (k : Int), .int .i64 (t : Int), .int .i64 (v : Int), .int .i64 x] 42)) w.heap.size k t v x) := ⟨hE.cell (i := 0) rfl, hE.cell (i := 1) rfl, hE.cell (i := 2) rfl, hE.cell (i := 3) rfl⟩
  have HE0 := Lib.hid hE
  have HV := Lib.hid hV
  have HX := Lib.hid hX
  have hsz : w.heap.size + 1 ≤ (w.alloc (.cells #[.int .i64 (k : Int), .int .i64 (t : Int), .int .i64 (v : Int), .int .i64 x] 42)).heap.size := by simp
  have hw8 : IntKind.u8.wrap (k : Int) = (k : Int) := by simp [IntKind.wrap, IntKind.bits, IntKind.signed]; omega
  have hwt : IntKind.u64.wrap (t : Int) = (t : Int) := by simp [IntKind.wrap, IntKind.bits, IntKind.signed]; omega
  have hwv : Hid (IntKind.u64.wrap (v : Int) = (v : Int)) := by simp [Hid, IntKind.wrap, IntKind.bits, IntKind.signed]; omega
  clear hE hb0 hV hX
  go_enter Tryd.func24, Tryd.ntmps24
  go_wp2_with fail
  generalize w.alloc (.cells #[.int .i64 (k : Int), .int .i64 (t : Int), .int .i64 (v : Int), .int .i64 x] 42) = w1 at *
  have HXB : Hid (∀ w', Below w1.heap.size w1 w' → Bx w' w.heap.size k t v x) := fun w' hb => HX0.out.below hb
  clear HX0
  first
  | go_must (go_region_held_law (fun w' => w'.cell? ⟨w.heap.size, 0, none⟩ = some (.int .i64 (k : Int)) ∧ w'.cell? ⟨w.heap.size, 1, none⟩ = some (.int .i64 (t : Int)) ∧ w'.cell? ⟨w.heap.size, 2, none⟩ = some (.int .i64 (v : Int)) ∧ w'.cell? ⟨w.heap.size, 3, none⟩ = some (.int .i64 x))
      (first | exact HXB.out _ hb9 | exact HXB.out _ (hb3.alloc hb3.size _) | exact HXB.out _ hb3 | exact HXB.out _ ((blow_dr _).alloc (Nat.le_refl _) _) | exact HXB.out _ (blow_dr _))
      (first
        | (go_at_call 19; refine (putA_any t (by omega) _).mono ?_; rintro e w2 ⟨gp, cp, rfl, hrd, hlen, hbc⟩; have hb3 : Below w1.heap.size w1 w2 := (by first | exact ((blow_dr w1).alloc (Nat.le_refl _) _).trans (hbc.mono (by simp)) | exact blow_stp hbc); have hlt3 := hb3.size)
        | (refine step_append_mine rfl _ _ 22 rfl w1.heap.size 5 j0 _ 1 1 Tryd.underlying22 hj0 hy0 hy1' hy2' rfl (by decide) (.slice (some ⟨w2.heap.size, 0, none⟩) 1 1) 1 [.int .u8 (k : Int)] rfl (World.ownsRow_lit w2 #[.int .u8 (k : Int)] 1 hlt3 (by unfold maxLen; omega) rfl) ⟨gp, 0, none⟩ (nb t).length cp (bs (nb t)) rfl (by rw [bs_len]; omega) (rd_cells (hrd.below ((Below.refl _ _).alloc (Nat.le_refl _) _) (Nat.le_refl _))) (bs_oneCell _) (by unfold maxLen; omega) (by omega) (by simp; omega) ?_; intro v3 w3 hx3 hg3; have hb9 : Below w1.heap.size w1 w3 := (hb3.alloc hlt3 _).grown hg3 (by simp; omega) (fun kb hkb => own_turned (World.ownsRow_lit (e := 5) (base := w1.heap.size) (size := 1) w2 #[.int .u8 (k : Int)] 1 hlt3 (by unfold maxLen; omega) rfl) (by simp; omega) hkb))
        | (refine step_append_mine rfl _ _ 22 rfl w1.heap.size 5 j0 _ 1 1 Tryd.underlying22 hj0 hy0 hy1' hy2' rfl (by decide) (.slice (some ⟨w1.heap.size, 0, none⟩) 1 1) 1 [.int .u8 (k : Int)] rfl (own_below (World.ownsRow_lit w1 #[.int .u8 (k : Int)] 1 (Nat.le_refl _) (by unfold maxLen; omega) rfl).drew hbc) ⟨gp, 0, none⟩ (nb t).length cp (bs (nb t)) rfl (by rw [bs_len]; omega) (rd_cells hrd) (bs_oneCell _) (by unfold maxLen; omega) (by omega) hlt3 ?_; intro v3 w3 hx3 hg3; have hb9 : Below w1.heap.size w1 w3 := hb3.grown hg3 hlt3 (fun kb hkb => own_turned (own_below (World.ownsRow_lit (e := 5) (base := w1.heap.size) (size := 1) w1 #[.int .u8 (k : Int)] 1 (Nat.le_refl _) (by unfold maxLen; omega) rfl).drew hbc) hlt3 hkb))))
  | fail
  all_goals
    have HOWN : Hid (w3.ownsRow w.heap.size 5 1 v3 (1 + (nb t).length) (bs (k :: nb t))) := own_mono hx3 (by omega)
    have HB3 : Hid (Below w.heap.size w w3) := HB0.out.trans (hb9.mono (by omega))
    have hlt1 : w.heap.size ≤ w3.heap.size := HB3.out.size
    obtain ⟨c0, c1, c2, c3⟩ := HXB.out _ hb9
    have HX3 : Hid (Bx w3 w.heap.size k t v x) := ⟨c0, c1, c2, c3⟩
    have HE3 := Lib.hid (HE0.out.below hb9 (by omega))
    clear hw8 hwt hx3 hg3 hb3 hbc hrd hb9
    go_wp2_with fail
    refine (bhasVar_any k hk _).mono ?_
    rintro e wz ⟨rfl, rfl⟩
    rw [HV.out]
    have hwv' := hwv.out
    go_wp2_with fail
    refine (putA_any v (by omega) _).mono ?_
    rintro e w4 ⟨gq, cq, rfl, hrd4, hlen4, hb4⟩
    have HR4 := Lib.hid hrd4
    have HOWN4 := Lib.hid (own_below HOWN.out hb4)
    have HB4 := Lib.hid (HB3.out.trans (hb4.mono hlt1))
    have hlt4 : w.heap.size ≤ w4.heap.size := HB4.out.size
    have HE4 := Lib.hid (HE3.out.below hb4 HE3.out.lt)
    clear hwv' hrd4 hb4 c0 c1 c2 c3 HX3 HOWN HB3
    have hsum : (1 + (nb t).length) + (nb v).length ≤ 65536 := by have := nb_len10 (n := t) (by omega); omega
    go_wp2_with (at_builtin; refine wpList_append_by rfl _ _ rfl w.heap.size _ _ _ rfl HOWN4.out _ (nb v) rfl HR4.out Rd.src_ hsum hlt4 ?_)
    intro v5 w5 h5 hg5
    have HOWN5 : Hid (w5.ownsRow w.heap.size 5 1 v5 (1 + (nb t).length + (nb v).length) (bs (k :: nb t ++ nb v))) := by unfold Hid; rw [bs_app]; exact h5
    have HB5 : Hid (Below w.heap.size w w5) := HB4.out.grown hg5 hlt4 (fun k hk => (own_base HOWN4.out hk).1)
    have hlt5 : w.heap.size ≤ w5.heap.size := HB5.out.size
    have hE5 := HE4.out.grown hg5 (fun hh => row_not HOWN4.out HE4.out (by decide) hh.symm)
    have c0 := hE5.cell (i := 0) (v := .int .i64 (k : Int)) rfl
    have c3 := hE5.cell (i := 3) (v := .int .i64 x) rfl
    clear h5 hg5 HOWN4 HB4 hlt4 hE5
    go_wp2_with fail
    refine (bhasVal_any k hk _).mono ?_
    rintro e wz ⟨rfl, rfl⟩
    rw [HX.out]
    go_wp2_with fail
    refine (zig_any x (by omega) (by omega) _).mono ?_
    rintro e wz ⟨rfl, rfl⟩
    go_wp2_with fail
    refine (putA_any (zigI x) (by omega) _).mono ?_
    rintro e w6 ⟨gr, cr, rfl, hrd6, hlen6, hb6⟩
    have HR6 := Lib.hid hrd6
    have HOWN6 := Lib.hid (own_below HOWN5.out hb6)
    have HB6 := Lib.hid (HB5.out.trans (hb6.mono hlt5))
    have hlt6 : w.heap.size ≤ w6.heap.size := HB6.out.size
    clear hrd6 hb6 c0 c3
    have hsum6 : (1 + (nb t).length + (nb v).length) + (nb (zigI x)).length ≤ 65536 := by have := nb_len10 (n := t) (by omega); have := nb_len10 (n := v) (by omega); omega
    go_wp2_with (at_builtin; refine wpList_append_by rfl _ _ rfl w.heap.size _ _ _ rfl HOWN6.out _ (nb (zigI x)) rfl HR6.out Rd.src_ hsum6 hlt6 ?_)
    intro v7 w7 h7 hg7
    have HB7 : Hid (Below w.heap.size w w7) := HB6.out.grown hg7 hlt6 (fun k hk => (own_base HOWN6.out hk).1)
    have HOWN7 : Hid (w7.ownsRow w.heap.size 5 1 v7 (1 + (nb t).length + (nb v).length + (nb (zigI x)).length) (bs ((k :: nb t ++ nb v) ++ nb (zigI x)))) := by unfold Hid; rw [bs_app]; exact h7
    clear h7 hg7 HOWN6 HB6
    go_wp2
    go_ret
    exact ⟨_, rfl, HOWN7.out, HB7.out⟩
theorem bodyOf_any (e : Ev) (he : evOk e = true) (w : World) :
    Calls Tryd.prog 24 #[evVal e] w fun en w' => ∃ z, en = .returned z ∧ (w'.ownsRow w.heap.size 5 1 z (bodyB e).length (bs (bodyB e)) ∧ Below w.heap.size w w') := by
  obtain ⟨k0, k1, t0, t1, v0, v1, x0, x1⟩ := evOk_in he
  obtain ⟨k, t, v, x⟩ := e
  dsimp only at k0 k1 t0 t1 v0 v1 x0 x1
  obtain ⟨kk, rfl⟩ : ∃ n : Nat, k = n := ⟨k.toNat, by omega⟩
  obtain ⟨tt, rfl⟩ : ∃ n : Nat, t = n := ⟨t.toNat, by omega⟩
  obtain ⟨vv, rfl⟩ : ∃ n : Nat, v = n := ⟨v.toNat, by omega⟩
  unfold bodyB evVal
  simp only [Int.toNat_natCast]
  cases hV : hasV kk with
  | true =>
    cases hX : hasX kk with
    | true =>
      have h := body_VX kk tt vv x w (by omega) (by omega) (by omega) x0 x1 hV hX
      simpa [Nat.add_assoc, Nat.add_comm, Nat.add_left_comm] using h
    | false =>
      have h := body_Vn kk tt vv x w (by omega) (by omega) (by omega) x0 x1 hV hX
      simpa [Nat.add_assoc, Nat.add_comm, Nat.add_left_comm] using h
  | false =>
    cases hX : hasX kk with
    | true =>
      have h := body_nX kk tt vv x w (by omega) (by omega) (by omega) x0 x1 hV hX
      simpa [Nat.add_assoc, Nat.add_comm, Nat.add_left_comm] using h
    | false =>
      have h := body_nn kk tt vv x w (by omega) (by omega) (by omega) x0 x1 hV hX
      simpa [Nat.add_assoc, Nat.add_comm, Nat.add_left_comm] using h
end Go.Proofs.YtgebmjbfeakpgaaDoor
