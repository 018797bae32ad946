/- The walk of package opaque's Check. -/
import Derived.Test.YtjefmfbncjdofaaDoorMg23
import Derived.Test.YtjefmfbncjdofaaDoorExtC
namespace Go.Proofs.YtjefmfbncjdofaaDoor.WPlain
end Go.Proofs.YtjefmfbncjdofaaDoor.WPlain
namespace Go.Proofs.YtjefmfbncjdofaaDoor.QPlain
end Go.Proofs.YtjefmfbncjdofaaDoor.QPlain
namespace Go.Proofs.YtjefmfbncjdofaaDoor.RPlain
end Go.Proofs.YtjefmfbncjdofaaDoor.RPlain
namespace Go.Proofs.YtjefmfbncjdofaaDoor
open Go.RowKit Go.Shelf WPlain QPlain RPlain

attribute [local go_sem] Oper.semAt_some

theorem srchE_take {h : List Ev} {B : Int} (h0 : srchE h B = 0) {k : Nat} (hk : k ≤ h.length) : srchE (h.take k) B = 0 := by
  obtain ⟨h1, h2, h3⟩ := srchE_zero h0
  exact srchE_of (check_cut h1 k hk) h2 h3
theorem srchF_take {h : List Ev} {B : Nat} (h0 : srchE h (B : Int) = 0) {k : Nat} (hk : k ≤ h.length) : srchF (h.take k) (B : Int) = searchS B (tableS (h.take k)) := by
  have h1 := srchE_take h0 hk
  unfold srchF searchS
  rw [if_pos h1, Int.toNat_natCast, choices_chL (table_six (srchE_zero h1).1)]
theorem opq_steps {B : Nat} {h : List Ev} : ∀ (ks : List Nat) (a c : Nat) (r : List Nat) (s : Nat), (opqG B h ks a c r s).2.2.2.2 ≤ s + ks.length * B := by
  intro ks
  induction ks with
  | nil => intro a c r s; simp [opqG]
  | cons k ks ih =>
    intro a c r s
    have h1 := (search_tells (B := B) (W := fun _ => 2 ^ (tableS (h.take k)).length - 1) (self_table (h.take k)) (choicesS (tableS (h.take k))) 0 (Nat.zero_le _)).2.2.1
    have h2 : (searchS B (tableS (h.take k))).2.2.2 ≤ B := h1
    rw [opqG, List.length_cons, Nat.succ_mul]
    by_cases hv : (searchS B (tableS (h.take k))).1 = 0
    · rw [if_pos hv]
      have := ih k (searchS B (tableS (h.take k))).2.1 (searchS B (tableS (h.take k))).2.2.1 (s + (searchS B (tableS (h.take k))).2.2.2)
      omega
    · rw [if_neg hv]
      dsimp only
      omega
/-- what is found behind the prefixes of some lengths -/
def opqP (B : Nat) (h : List Ev) {n : Nat} (pre : List (Fin n)) : Nat × Nat × Nat × List Nat × Nat := opqG B h (pre.map Fin.val) 0 0 [] 0
theorem opqP_snoc {B : Nat} {h : List Ev} {n : Nat} (pre : List (Fin n)) (x : Fin n) (h0 : (opqP B h pre).1 = 0) :
    opqP B h (pre ++ [x]) = if (searchS B (tableS (h.take x.val))).1 = 0 then (0, x.val, (searchS B (tableS (h.take x.val))).2.1, (searchS B (tableS (h.take x.val))).2.2.1, (opqP B h pre).2.2.2.2 + (searchS B (tableS (h.take x.val))).2.2.2)
      else ((searchS B (tableS (h.take x.val))).1, x.val, (opqP B h pre).2.2.1, (opqP B h pre).2.2.2.1, (opqP B h pre).2.2.2.2 + (searchS B (tableS (h.take x.val))).2.2.2) := by
  unfold opqP at *
  rw [List.map_append, opq_app, if_pos h0]
  rfl
theorem opqP_all {B : Nat} {h : List Ev} : opqP B h (List.finRange (h.length + 1)) = opaqueS B h := by
  unfold opqP opaqueS
  rw [show (List.finRange (h.length + 1)).map Fin.val = List.range (h.length + 1) from List.ext_getElem (by simp) (by simp)]
theorem opqP_stop {B : Nat} {h : List Ev} {pre : List (Fin (h.length + 1))} (hp : pre <+: List.finRange (h.length + 1)) (h0 : (opqP B h pre).1 ≠ 0) : opqP B h pre = opaqueS B h := by
  rw [← opqP_all]
  obtain ⟨t, ht⟩ := hp
  rw [← ht]
  unfold opqP at *
  rw [List.map_append, opq_app, if_neg h0]
theorem opqP_steps {B : Nat} {h : List Ev} {n : Nat} (pre : List (Fin n)) : (opqP B h pre).2.2.2.2 ≤ pre.length * B := by
  have := opq_steps (B := B) (h := h) (pre.map Fin.val) 0 0 [] 0
  rw [List.length_map] at this
  unfold opqP
  omega
def chkA (v a c : Nat) (rv : Value) (s : Nat) : Array Value := #[.int .i64 (v : Int), .int .i64 (a : Int), .int .u32 (c : Int), rv, .int .i64 (s : Int)]
def chkV (v a c : Nat) (rv : Value) (s : Nat) : Value := .agg #[.int .i64 (v : Int), .int .i64 (a : Int), .int .u32 (c : Int), rv, .int .i64 (s : Int)]
/-- what lies in the loop's record -/
def Opq (B : Nat) (h : List Ev) (w0 : World) (N : Nat) {n : Nat} (pre : List (Fin n)) (W : World) : Prop :=
  ∃ rv, At W N (chkA (opqP B h pre).1 (opqP B h pre).2.1 (opqP B h pre).2.2.1 rv (opqP B h pre).2.2.2.2) 26 ∧ RdX (fun k => k < w0.heap.size) W rv (nats (opqP B h pre).2.2.2.1) ∧ CapV rv ∧ Only (fun k => k = N) w0 W
def OpqI (B : Nat) (h : List Ev) (w0 : World) (N : Nat) {n : Nat} (pre : List (Fin n)) (W : World) : Prop := (opqP B h pre).1 = 0 ∧ Opq B h w0 N pre W
def OpqX (B : Nat) (h : List Ev) (w0 : World) (N : Nat) {n : Nat} (c : Code) (pre : List (Fin n)) (W : World) : Prop := c = .exit 0 ∧ (opqP B h pre).1 ≠ 0 ∧ Opq B h w0 N pre W
theorem Opq.own {B : Nat} {h : List Ev} {w0 : World} {N C n : Nat} (hC : w0.heap.size ≤ C) : OwnFrom C (Opq B h w0 N (n := n)) := by
  rintro pre W W' r ⟨rv, h1, h2, h3, h4⟩ hg hr
  exact ⟨rv, at_own h1 hg (fun k e => (hr k e).2), rd_own h2 hg (fun k e => (hr k e).2), h3, h4.grown hg (fun k hk e => by have := (hr k e).1; omega)⟩
theorem OpqI.own {B : Nat} {h : List Ev} {w0 : World} {N C n : Nat} (hC : w0.heap.size ≤ C) : OwnFrom C (OpqI B h w0 N (n := n)) := fun pre W W' r hs hg hr => ⟨hs.1, Opq.own hC pre W W' r hs.2 hg hr⟩
theorem OpqX.own {B : Nat} {h : List Ev} {w0 : World} {N C n : Nat} (hC : w0.heap.size ≤ C) (c : Code) : OwnFrom C (OpqX B h w0 N (n := n) c) := fun pre W W' r hs hg hr => ⟨hs.1, hs.2.1, Opq.own hC pre W W' r hs.2.2 hg hr⟩
theorem keeps_only {B b : Nat} {W W' : World} (h : Only (fun k => k = b) W W') (hb : b < B) : KeepsFrom B W W' :=
  ⟨h.size, fun k _ hk ho _ => (h.block k (Array.getElem?_eq_some_iff.1 ho).1 (by omega)).trans ho⟩
theorem kp_only {n b : Nat} {W W' : World} (h : Only (fun k => k = b) W W') (hb : n ≠ b) : KpC n W W' := fun _ hv =>
  (World.cell?_of_block (w := W) (h.block n (World.block_lt_of_cell? W ⟨n, 0, none⟩ hv) hb)).trans hv
theorem only_three (w : World) (N : Nat) (u0 u1 u4 : Value) (o : Obj) : Only (fun k => k = N) w ((((w.setCell ⟨N, 0, none⟩ u0).setCell ⟨N, 1, none⟩ u1).setCell ⟨N, 4, none⟩ u4).alloc o) :=
  ((((Only.refl (fun k => k = N) w).setCell (p := ⟨N, 0, none⟩) (fun _ => rfl) _).setCell (p := ⟨N, 1, none⟩) (fun _ => rfl) _).setCell (p := ⟨N, 4, none⟩) (fun _ => rfl) _).alloc _
theorem only_two (w : World) (N : Nat) (u2 u3 : Value) : Only (fun k => k = N) w ((w.setCell ⟨N, 2, none⟩ u2).setCell ⟨N, 3, none⟩ u3).drew :=
  (((Only.refl (fun k => k = N) w).setCell (p := ⟨N, 2, none⟩) (fun _ => rfl) _).setCell (p := ⟨N, 3, none⟩) (fun _ => rfl) _).drew
theorem only_res (w : World) (N : Nat) (u0 u1 u2 u3 u4 u5 : Value) : Only (fun k => k = N + 1 ∨ k = N + 1 + 1) w ((((((w.setCell ⟨N + 1, 0, none⟩ u0).setCell ⟨N + 1, 1, none⟩ u1).setCell ⟨N + 1, 2, none⟩ u2).setCell ⟨N + 1, 3, none⟩ u3).setCell ⟨N + 1, 4, none⟩ u4).setCell ⟨N + 1 + 1, 0, none⟩ u5) :=
  (((((((Only.refl (fun k => k = N + 1 ∨ k = N + 1 + 1) w).setCell (p := ⟨N + 1, 0, none⟩) (fun _ => .inl rfl) _).setCell (p := ⟨N + 1, 1, none⟩) (fun _ => .inl rfl) _).setCell (p := ⟨N + 1, 2, none⟩) (fun _ => .inl rfl) _).setCell (p := ⟨N + 1, 3, none⟩) (fun _ => .inl rfl) _).setCell (p := ⟨N + 1, 4, none⟩) (fun _ => .inl rfl) _).setCell (p := ⟨N + 1 + 1, 0, none⟩) (fun _ => .inr rfl) _)
theorem only_trans {b : Nat} {a c d : World} (h : Only (fun k => k = b) a c) (k : Only (fun k => k = b) c d) : Only (fun k => k = b) a d := h.trans k (fun _ _ e => e)
set_option maxRecDepth 100000 in
set_option maxHeartbeats 4000000 in
theorem check_ok (a : Option Addr) (c : Nat) (h : List Ev) (B : Nat) (w : World) (hK : HasK w) (hv : Evs w (.slice a h.length c) h) (hl : h.length ≤ 65536) (hnc : h.length ≤ c) (h0 : srchE h (B : Int) = 0) :
    Calls Tryd.prog 7 #[.slice a h.length c, .int .i64 (B : Int)] w fun e w' => ∃ rv, e = .returned (.tuple #[chkV (opaqueS B h).1 (opaqueS B h).2.1 (opaqueS B h).2.2.1 rv (opaqueS B h).2.2.2.2, .int .i64 0]) ∧
      RdX (fun k => k < w.heap.size) w' rv (nats (opaqueS B h).2.2.2.1) ∧ CapV rv ∧ Below w.heap.size w w' := by
  obtain ⟨hc0, hB0, hB1⟩ := srchE_zero h0
  obtain ⟨w1, hw1⟩ : ∃ w1, ((w.alloc (.cells #[.int .i64 (B : Int)] 3)).alloc (.cells #[.int .i64 0, .int .i64 0, .int .u32 0, .slice none 0 0, .int .i64 0] 26)).alloc (.cells #[.int .i64 0] 28) = w1 := ⟨_, rfl⟩
  have HB1 : Hid (Below w.heap.size w w1) := by
    rw [← hw1]
    exact (((Below.refl _ w).alloc (Nat.le_refl _) _).alloc (by simp) _).alloc (by simp; omega) _
  obtain ⟨N, hN⟩ : ∃ N, w.heap.size = N := ⟨_, rfl⟩
  have ha3 : At w1 N #[.int .i64 (B : Int)] 3 := by
    rw [← hw1, ← hN]
    exact ((At.new w _ _).alloc _).alloc _
  have ha4 : At w1 (N + 1) (chkA 0 0 0 (.slice none 0 0) 0) 26 := by
    rw [← hw1, ← hN]
    have := (At.new (w.alloc (.cells #[.int .i64 (B : Int)] 3)) #[.int .i64 0, .int .i64 0, .int .u32 0, .slice none 0 0, .int .i64 0] 26).alloc (.cells #[.int .i64 0] 28)
    rwa [World.size_alloc] at this
  have ha5 : At w1 (N + 2) #[.int .i64 0] 28 := by
    rw [← hw1, ← hN]
    have := At.new ((w.alloc (.cells #[.int .i64 (B : Int)] 3)).alloc (.cells #[.int .i64 0, .int .i64 0, .int .u32 0, .slice none 0 0, .int .i64 0] 26)) #[.int .i64 0] 28
    rwa [World.size_alloc, World.size_alloc] at this
  have hs1 : w1.heap.size = N + 3 := by rw [← hw1, ← hN]; simp
  have HROW := Lib.hid (rowS_any _ h 0 0 (B : Int) w1 (hK.later HB1.out (Nat.le_refl _)) (hv.below HB1.out (Nat.le_refl _)) hl (by decide) (by decide))
  have hre : rowE h 0 0 (B : Int) = 0 := by
    unfold rowE
    rw [if_pos h0, if_pos (by exact Nat.two_pow_pos _)]
  obtain ⟨x, hx⟩ : ∃ x, rowF h 0 0 (B : Int) = x := ⟨_, rfl⟩
  rw [hre, hx] at HROW
  have HA3 := Lib.hid ha3
  have HA4 := Lib.hid ha4
  have HA5 := Lib.hid ha5
  have HK := Lib.hid hK
  have HV := Lib.hid hv
  have HH0 := Lib.hid h0
  have q3 : w1.cell? ⟨N, 0, none⟩ = some (.int .i64 (B : Int)) := ha3.cell rfl
  unfold fndV at HROW
  clear hre hx ha3 ha4 ha5 hK hv h0 hc0
  refine (callsIn_wide (n := 6)).1 ?_
  refine callsIn_of_wp_marks Tryd.func7 rfl trivial ?_ rfl
  simp only [Tryd.ntmps7, List.size_toArray, List.length_cons, List.length_nil, Nat.reduceAdd, Nat.reduceSub, Array.replicate_succ, Array.replicate_zero, List.push_toArray, List.append_toArray, List.nil_append, List.cons_append]
  gi_wp2_with (first
      | (refine ⟨trivial, ?_⟩; gi_at_call 17; refine (callsIn_wide.2 HROW.out).mono ?_; rintro e w2 ⟨rv2, rfl, hr2, -, hb2⟩; obtain ⟨ra2, rc2, rfl⟩ := hr2.len)
      | (refine ⟨trivial, ?_⟩; gi_at_call 18; refine (prefixes_in _ _ trivial rfl _ _ _ _).mono ?_; rintro e w3 ⟨rfl, hw3⟩))
  obtain ⟨M, hM⟩ : ∃ M, w2.heap.size = M := ⟨_, rfl⟩
  obtain ⟨rn2, hrn2⟩ : ∃ z, (nats x.2.2.1).length = z := ⟨_, rfl⟩
  rw [hrn2] at hw3
  simp only [hM, hrn2]
  rw [← hw3]
  have hNM : N + 3 ≤ M := by rw [← hs1, ← hM]; exact hb2.size
  have hb3 : Below M w2 w3 := by
    rw [hw3, ← hM]
    exact (((Below.refl _ w2).alloc (Nat.le_refl _) _).alloc (by simp) _).alloc (by simp; omega) _
  have ha8 : At w3 (M + 1) (chkA 0 0 0 (.slice none 0 0) 0) 26 := by
    rw [hw3, ← hM]
    have := (At.new (w2.alloc (.cells #[.int .i64 (x.1 : Int), .int .u32 (x.2.1 : Int), .slice ra2 rn2 rc2, .int .i64 (x.2.2.2 : Int)] 37)) #[.int .i64 0, .int .i64 0, .int .u32 0, .slice none 0 0, .int .i64 0] 26).alloc (.cells #[.slice a h.length c] 22)
    rwa [World.size_alloc] at this
  have hbx : At w3 (M + 1 + 1) #[.slice a h.length c] 22 := by
    rw [hw3, ← hM]
    have := At.new ((w2.alloc (.cells #[.int .i64 (x.1 : Int), .int .u32 (x.2.1 : Int), .slice ra2 rn2 rc2, .int .i64 (x.2.2.2 : Int)] 37)).alloc (.cells #[.int .i64 0, .int .i64 0, .int .u32 0, .slice none 0 0, .int .i64 0] 26)) #[.slice a h.length c] 22
    rwa [World.size_alloc, World.size_alloc] at this
  have hs3 : w3.heap.size = M + 3 := by rw [hw3, ← hM]; simp
  have hb13 : Below w1.heap.size w1 w3 := hb2.trans (hb3.mono (by rw [← hM]; exact hb2.size))
  have HB3 : Hid (Below w.heap.size w w3) := HB1.out.trans (hb13.mono HB1.out.size)
  have HA33 := Lib.hid (HA3.out.below hb13 HA3.out.lt)
  have HA43 := Lib.hid (HA4.out.below hb13 HA4.out.lt)
  have HA53 := Lib.hid (HA5.out.below hb13 HA5.out.lt)
  have HST : Hid (Opq B h w3 (M + 1) ([] : List (Fin (h.length + 1))) w3) := ⟨.slice none 0 0, ha8, .inl ⟨rfl, _, _, rfl⟩, capV_nil, Only.refl _ _⟩
  have hbc := hbx.cell (i := 0) rfl
  clear hw3 hr2 hrn2 hb2 hb3 HROW HA3 HA4 HA5 hb13 q3 hw1 hM ha8
  clear hbx
  refine wpIn_rangeFunc_ownG rfl (by decide) (gf := 33) (lb := #[.pointer (some ⟨M + 1 + 1, 0, none⟩)]) rfl trivial (enters_of Tryd.func33 (by kernel_rfl) rfl)
    (prefixes_stops Fence.wide _ trivial rfl (by decide) (M + 1 + 1) a h.length c hl hnc w3 (by omega) hbc) (fun hx hy v hv => hy v (hx v hv))
    (fun W l o o' hl' h' h1 h2 v hv => ((belowK_b (Nat.le_refl _) W l o o' hl' h' h1 h2).cell (p := ⟨_, 0, none⟩) (by simp; omega)).trans hv) (Below.refl _ _) (fun _ => rfl)
    (OpqI B h w3 (M + 1)) (OpqX B h w3 (M + 1)) (OpqI.own (Nat.le_refl _)) (OpqX.own (Nat.le_refl _)) ⟨rfl, HST.out⟩
    (fun k => { tmps := #[.slice a h.length c, .int .i64 (B : Int), undef, .pointer (some ⟨N, 0, none⟩), .pointer (some ⟨N + 1, 0, none⟩), .pointer (some ⟨N + 1 + 1, 0, none⟩), .pointer (some ⟨M, 0, none⟩), .int .i64 0, .pointer (some ⟨M + 1, 0, none⟩), .slice a k.val c, undef, undef, .tuple #[.agg #[.int .i64 (x.1 : Int), .int .u32 (x.2.1 : Int), .slice ra2 rn2 rc2, .int .i64 (x.2.2.2 : Int)], .int .i64 0], .slice a h.length c, .int .i64 (B : Int), .tuple #[.agg #[.int .i64 (x.1 : Int), .int .u32 (x.2.1 : Int), .slice ra2 rn2 rc2, .int .i64 (x.2.2.2 : Int)], .int .i64 0], .agg #[.int .i64 (x.1 : Int), .int .u32 (x.2.1 : Int), .slice ra2 rn2 rc2, .int .i64 (x.2.2.2 : Int)], .int .i64 0, .int .i64 0, .bool false, undef, undef, .slice a h.length c, .func (.func 33) #[] #[.pointer (some ⟨M + 1 + 1, 0, none⟩)], .slice a k.val c, undef, undef, undef, undef, undef, undef, undef, undef, undef, undef, undef, undef, undef, undef, undef, undef, undef, undef, undef, undef, undef, undef, undef, undef, undef, undef, undef, undef, undef, undef, undef, undef], defers := [] }) ?assign ?body ?done ?stop
  case assign =>
    intro l k W K hK
    gi_wp2
    exact hK
  case body =>
    rintro l' pre k W ⟨hp0, rv, h1, h2, h3, h4⟩ hlt
    dsimp only
    have hk : k.val ≤ h.length := by have := k.isLt; omega
    have hbW : Below w.heap.size w W := HB3.out.trans (h4.below (B := w.heap.size) HB3.out.size (fun j hj e => by rw [hN]; omega))
    have HS := Lib.hid (searchX_any _ (h.take k.val) (B : Int) W (HK.out.later hbW (Nat.le_refl _)) (evs_cutP (HV.out.below hbW (Nat.le_refl _)) k.val hk) (by rw [List.length_take]; omega))
    have hsn := opqP_snoc (B := B) (h := h) pre k hp0
    have hst := opqP_steps (B := B) (h := h) (pre ++ [k])
    rw [srchE_take HH0.out hk, srchF_take HH0.out hk] at HS
    rw [hsn] at hst
    obtain ⟨y, hy⟩ : ∃ y, searchS B (tableS (h.take k.val)) = y := ⟨_, rfl⟩
    rw [hy] at HS hsn hst
    have hq3 : W.cell? ⟨N, 0, none⟩ = some (.int .i64 (B : Int)) := (HA33.out.only h4 (by omega)).cell rfl
    unfold fndV at HS
    have hbd : (opqP B h pre).2.2.2.2 + y.2.2.2 ≤ 65537 * 1000000 := by
      have e1 : (pre ++ [k]).length * B ≤ 65537 * 1000000 := Nat.mul_le_mul (by simp; omega) (by omega)
      by_cases hv : y.1 = 0
      · rw [if_pos hv] at hst; exact Nat.le_trans hst e1
      · rw [if_neg hv] at hst; exact Nat.le_trans hst e1
    clear hst
    rw [hp0] at h1
    obtain ⟨ra, rc, rfl⟩ := h2.rd.len
    have H2 := Lib.hid h2
    have H3 := Lib.hid h3
    have H4 := Lib.hid h4
    have H1 := Lib.hid h1
    have HSN := Lib.hid hsn
    have HBW := Lib.hid hbW
    have HP0 := Lib.hid hp0
    clear h2 h3 h4 h1 hsn hbW hy hlt hp0 hN
    obtain ⟨P, hP⟩ : ∃ P, opqP B h pre = P := ⟨_, rfl⟩
    rw [hP] at hbd H1 H2 H3 HSN HP0
    obtain ⟨rn, hrn⟩ : ∃ z, (nats P.2.2.2.1).length = z := ⟨_, rfl⟩
    rw [hrn] at H1 H2 H3
    clear hP hrn
    by_cases hv : y.1 = 0
    · have tv : ((y.1 : Int) != 0) = false := by simp [hv]
      gi_wp2_with (first | (refine ⟨trivial, ?_⟩; gi_at_call 13; refine (CallsIn.inRound l' (callsIn_wide.2 HS.out)).mono ?_; rintro e w5 ⟨rv5, rfl, hr5, hc5, hb5⟩; obtain ⟨ra5, rc5, rfl⟩ := hr5.rd.len; obtain ⟨rn5, hrn5⟩ : ∃ z, (nats y.2.2.1).length = z := ⟨_, rfl⟩; rw [hrn5] at hr5 hc5 ⊢; have ha5 := H1.out.below hb5 H1.out.lt; have hlt5 := ha5.lt; have q0 : w5.cell? ⟨M + 1, 0, none⟩ = some (.int .i64 0) := ha5.cell rfl; have q1 : w5.cell? ⟨M + 1, 1, none⟩ = some (.int .i64 (P.2.1 : Int)) := ha5.cell rfl; have q2 : w5.cell? ⟨M + 1, 2, none⟩ = some (.int .u32 (P.2.2.1 : Int)) := ha5.cell rfl; have q3 : w5.cell? ⟨M + 1, 3, none⟩ = some (.slice ra rn rc) := ha5.cell rfl; have q4 : w5.cell? ⟨M + 1, 4, none⟩ = some (.int .i64 (P.2.2.2.2 : Int)) := ha5.cell rfl; have f0 : w5.frozen? ⟨M + 1, 0, none⟩ = false := ha5.free 0; have f1 : w5.frozen? ⟨M + 1, 1, none⟩ = false := ha5.free 1; have f2 : w5.frozen? ⟨M + 1, 2, none⟩ = false := ha5.free 2; have f3 : w5.frozen? ⟨M + 1, 3, none⟩ = false := ha5.free 3; have f4 : w5.frozen? ⟨M + 1, 4, none⟩ = false := ha5.free 4))
      have ho5 : Only (fun j => j = M + 1) W ((((w5.setCell ⟨M + 1, 0, none⟩ (.int .i64 0)).setCell ⟨M + 1, 1, none⟩ (.int .i64 (k.val : Int))).setCell ⟨M + 1, 4, none⟩ (.int .i64 ((P.2.2.2.2 : Int) + (y.2.2.2 : Int)))).alloc (.cells #[.int .i64 0, .int .u32 (y.2.1 : Int), .slice ra5 rn5 rc5, .int .i64 (y.2.2.2 : Int)] 37)) :=
        only_trans (Only.of_below hb5) (only_three w5 (M + 1) _ _ _ _)
      have HA6 : Hid (At ((((w5.setCell ⟨M + 1, 0, none⟩ (.int .i64 0)).setCell ⟨M + 1, 1, none⟩ (.int .i64 (k.val : Int))).setCell ⟨M + 1, 4, none⟩ (.int .i64 ((P.2.2.2.2 : Int) + (y.2.2.2 : Int)))).alloc (.cells #[.int .i64 0, .int .u32 (y.2.1 : Int), .slice ra5 rn5 rc5, .int .i64 (y.2.2.2 : Int)] 37)) (M + 1) #[.int .i64 0, .int .i64 (k.val : Int), .int .u32 (P.2.2.1 : Int), .slice ra rn rc, .int .i64 ((P.2.2.2.2 : Int) + (y.2.2.2 : Int))] 26) :=
        (((ha5.set 0 (.int .i64 0)).set 1 (.int .i64 (k.val : Int))).set 4 (.int .i64 ((P.2.2.2.2 : Int) + (y.2.2.2 : Int)))).alloc _
      have HA7 : At ((((w5.setCell ⟨M + 1, 0, none⟩ (.int .i64 0)).setCell ⟨M + 1, 1, none⟩ (.int .i64 (k.val : Int))).setCell ⟨M + 1, 4, none⟩ (.int .i64 ((P.2.2.2.2 : Int) + (y.2.2.2 : Int)))).alloc (.cells #[.int .i64 0, .int .u32 (y.2.1 : Int), .slice ra5 rn5 rc5, .int .i64 (y.2.2.2 : Int)] 37)) w5.heap.size #[.int .i64 0, .int .u32 (y.2.1 : Int), .slice ra5 rn5 rc5, .int .i64 (y.2.2.2 : Int)] 37 := by
        have := At.new (((w5.setCell ⟨M + 1, 0, none⟩ (.int .i64 0)).setCell ⟨M + 1, 1, none⟩ (.int .i64 (k.val : Int))).setCell ⟨M + 1, 4, none⟩ (.int .i64 ((P.2.2.2.2 : Int) + (y.2.2.2 : Int)))) #[.int .i64 0, .int .u32 (y.2.1 : Int), .slice ra5 rn5 rc5, .int .i64 (y.2.2.2 : Int)] 37
        simpa [World.setCell] using this
      have HR6 : Hid (RdX (fun k => k < w3.heap.size) ((((w5.setCell ⟨M + 1, 0, none⟩ (.int .i64 0)).setCell ⟨M + 1, 1, none⟩ (.int .i64 (k.val : Int))).setCell ⟨M + 1, 4, none⟩ (.int .i64 ((P.2.2.2.2 : Int) + (y.2.2.2 : Int)))).alloc (.cells #[.int .i64 0, .int .u32 (y.2.1 : Int), .slice ra5 rn5 rc5, .int .i64 (y.2.2.2 : Int)] 37)) (.slice ra5 rn5 rc5) (nats y.2.2.1)) :=
        (hr5.less (fun k hk => Nat.lt_of_lt_of_le hk H4.out.size)).only (s := fun k => k = M + 1) (only_three w5 (M + 1) _ _ _ _) (fun k hk => by omega)
      have HO6 := Lib.hid ho5
      have HC6 := Lib.hid hc5
      have hn5 : M + 1 ≠ w5.heap.size := by omega
      clear q0 q1 q2 q3 q4 f0 f1 f2 f3 f4 hr5 hc5 hrn5 ho5 ha5 hlt5 hb5
      obtain ⟨N5, hN5⟩ : ∃ z, w5.heap.size = z := ⟨_, rfl⟩
      rw [hN5] at HA7 hn5
      simp only [hN5]
      generalize ((((w5.setCell ⟨M + 1, 0, none⟩ (.int .i64 0)).setCell ⟨M + 1, 1, none⟩ (.int .i64 (k.val : Int))).setCell ⟨M + 1, 4, none⟩ (.int .i64 ((P.2.2.2.2 : Int) + (y.2.2.2 : Int)))).alloc (.cells #[.int .i64 0, .int .u32 (y.2.1 : Int), .slice ra5 rn5 rc5, .int .i64 (y.2.2.2 : Int)] 37)) = w6 at *
      have HFIN : Hid (ownPostG w3.heap.size (KpC (M + 1 + 1)) (OpqI B h w3 (M + 1)) (OpqX B h w3 (M + 1)) (pre ++ [k]) W .normal { tmps := #[], defers := [] } (((w6.setCell ⟨M + 1, 2, none⟩ (.int .u32 (y.2.1 : Int))).setCell ⟨M + 1, 3, none⟩ (.slice ra5 rn5 rc5)).drew)) := by
        have ho7 := only_trans HO6.out (only_two w6 (M + 1) (.int .u32 (y.2.1 : Int)) (.slice ra5 rn5 rc5))
        refine ⟨keeps_only ho7 (by omega), kp_only ho7 (by omega), ?_, ?_⟩
        · rw [HSN.out, if_pos hv]
        · refine ⟨.slice ra5 rn5 rc5, ?_, ?_, HC6.out, only_trans H4.out ho7⟩
          · rw [HSN.out, if_pos hv]
            exact ((HA6.out.set 2 (.int .u32 (y.2.1 : Int))).set 3 (.slice ra5 rn5 rc5)).drew
          · rw [HSN.out, if_pos hv]
            exact HR6.out.only (s := fun k => k = M + 1) (only_two w6 (M + 1) (.int .u32 (y.2.1 : Int)) (.slice ra5 rn5 rc5)) (fun k hk => by omega)
      have hS : (fun w' : World => w'.cell? ⟨N5, 1, none⟩ = some (.int .u32 (y.2.1 : Int)) ∧ w'.cell? ⟨N5, 2, none⟩ = some (.slice ra5 rn5 rc5)) w6.drew := ⟨HA7.cell rfl, HA7.cell rfl⟩
      refine region_round (fun w' => w'.cell? ⟨N5, 1, none⟩ = some (.int .u32 (y.2.1 : Int)) ∧ w'.cell? ⟨N5, 2, none⟩ = some (.slice ra5 rn5 rc5)) (by kernel_rfl) (by kernel_rfl) (by rintro ⟨_, _, hh⟩; exact hh) ?_
      refine wpAnyH_take (i := 0) (v := .pointer (some ⟨N5, 1, none⟩)) rfl (by kernel_rfl) (by kernel_rfl) (by kernel_rfl) (fun _ _ _ h => h) (Or.inl ⟨by rfl, fun w' hw' => by go_simp⟩) hS ?_
      simp only [Act.put, List.setIfInBounds_toArray]
      refine wpAnyH_take (i := 1) (v := .int .u32 (y.2.1 : Int)) rfl (by kernel_rfl) (by kernel_rfl) (by kernel_rfl) (fun _ _ _ h => h) (Or.inl ⟨by rfl, fun w' hw' => by obtain ⟨z1, z2⟩ := hw'; go_simp⟩) hS ?_
      simp only [Act.put]
      refine wpAnyH_take (i := 2) (v := .pointer (some ⟨N5, 2, none⟩)) rfl (by kernel_rfl) (by kernel_rfl) (by kernel_rfl) (fun _ _ _ h => h) (Or.inl ⟨by rfl, fun w' hw' => by go_simp⟩) hS ?_
      simp only [Act.put]
      refine wpAnyH_take (i := 3) (v := .slice ra5 rn5 rc5) rfl (by kernel_rfl) (by kernel_rfl) (by kernel_rfl) (fun _ _ _ h => h) (Or.inl ⟨by rfl, fun w' hw' => by obtain ⟨z1, z2⟩ := hw'; go_simp⟩) hS ?_
      simp only [Act.put]
      refine wpAnyH_take (i := 4) (v := .pointer (some ⟨M + 1, 2, none⟩)) rfl (by kernel_rfl) (by kernel_rfl) (by kernel_rfl) (fun _ _ _ h => h) (Or.inl ⟨by rfl, fun w' hw' => by go_simp⟩) hS ?_
      simp only [Act.put]
      have g2 : w6.drew.cell? ⟨M + 1, 2, none⟩ = some (.int .u32 (P.2.2.1 : Int)) := HA6.out.cell rfl
      have g3 : w6.drew.cell? ⟨M + 1, 3, none⟩ = some (.slice ra rn rc) := HA6.out.cell rfl
      have k2 : w6.drew.frozen? ⟨M + 1, 2, none⟩ = false := HA6.out.free 2
      have k3 : w6.drew.frozen? ⟨M + 1, 3, none⟩ = false := HA6.out.free 3
      have A7 := HA6.out.set 2 (.int .u32 (y.2.1 : Int))
      have g7 : (w6.setCell ⟨M + 1, 2, none⟩ (.int .u32 (y.2.1 : Int))).cell? ⟨M + 1, 3, none⟩ = some (.slice ra rn rc) := A7.cell rfl
      have k7 : (w6.setCell ⟨M + 1, 2, none⟩ (.int .u32 (y.2.1 : Int))).frozen? ⟨M + 1, 3, none⟩ = false := A7.free 3
      clear A7
      have hS7 : (w6.setCell ⟨M + 1, 2, none⟩ (.int .u32 (y.2.1 : Int))).drew.cell? ⟨N5, 1, none⟩ = some (.int .u32 (y.2.1 : Int)) ∧ (w6.setCell ⟨M + 1, 2, none⟩ (.int .u32 (y.2.1 : Int))).drew.cell? ⟨N5, 2, none⟩ = some (.slice ra5 rn5 rc5) :=
        ⟨(World.cell?_setCell_far _ _ _ _ hn5).trans hS.1, (World.cell?_setCell_far _ _ _ _ hn5).trans hS.2⟩
      have hS8 : ((w6.setCell ⟨M + 1, 2, none⟩ (.int .u32 (y.2.1 : Int))).setCell ⟨M + 1, 3, none⟩ (.slice ra5 rn5 rc5)).drew.cell? ⟨N5, 1, none⟩ = some (.int .u32 (y.2.1 : Int)) ∧ ((w6.setCell ⟨M + 1, 2, none⟩ (.int .u32 (y.2.1 : Int))).setCell ⟨M + 1, 3, none⟩ (.slice ra5 rn5 rc5)).drew.cell? ⟨N5, 2, none⟩ = some (.slice ra5 rn5 rc5) :=
        ⟨(World.cell?_setCell_far _ _ _ _ hn5).trans hS7.1, (World.cell?_setCell_far _ _ _ _ hn5).trans hS7.2⟩
      have HS7 := Lib.hid hS7
      have HS8 := Lib.hid hS8
      clear hS7 hS8
      refine wpAnyH_ready (rs := [5]) (by kernel_rfl) (by simp) (AllReadyH.cons rfl (fun K hK => ?_) AllReadyH.nil)
      go_simp
      refine hK.out _ _ HS7.out (fun _ => ?_)
      clear hK K
      refine wpAnyH_take (i := 6) (v := .pointer (some ⟨M + 1, 3, none⟩)) rfl (by kernel_rfl) (by kernel_rfl) (by kernel_rfl) (fun _ _ _ h => h) (Or.inl ⟨by rfl, fun w' hw' => by go_simp⟩) HS7.out ?_
      simp only [Act.put]
      refine wpAnyH_ready (rs := [7]) (by kernel_rfl) (by simp) (AllReadyH.cons rfl (fun K hK => ?_) AllReadyH.nil)
      go_simp
      refine hK.out _ _ HS8.out (fun _ => wpAnyH_done (by kernel_rfl) ?_ _)
      clear hK K
      gi_wp2
      have hf := HFIN.out
      rw [hs3] at hf
      exact hf
    · have tv : ((y.1 : Int) != 0) = true := by simp; omega
      gi_wp2_with (first | (refine ⟨trivial, ?_⟩; gi_at_call 13; refine (CallsIn.inRound l' (callsIn_wide.2 HS.out)).mono ?_; rintro e w5 ⟨rv5, rfl, hr5, hc5, hb5⟩; obtain ⟨ra5, rc5, rfl⟩ := hr5.rd.len; obtain ⟨rn5, hrn5⟩ : ∃ z, (nats y.2.2.1).length = z := ⟨_, rfl⟩; rw [hrn5] at hr5 hc5 ⊢; have ha5 := H1.out.below hb5 H1.out.lt; have hlt5 := ha5.lt; have q0 : w5.cell? ⟨M + 1, 0, none⟩ = some (.int .i64 0) := ha5.cell rfl; have q1 : w5.cell? ⟨M + 1, 1, none⟩ = some (.int .i64 (P.2.1 : Int)) := ha5.cell rfl; have q2 : w5.cell? ⟨M + 1, 2, none⟩ = some (.int .u32 (P.2.2.1 : Int)) := ha5.cell rfl; have q3 : w5.cell? ⟨M + 1, 3, none⟩ = some (.slice ra rn rc) := ha5.cell rfl; have q4 : w5.cell? ⟨M + 1, 4, none⟩ = some (.int .i64 (P.2.2.2.2 : Int)) := ha5.cell rfl; have f0 : w5.frozen? ⟨M + 1, 0, none⟩ = false := ha5.free 0; have f1 : w5.frozen? ⟨M + 1, 1, none⟩ = false := ha5.free 1; have f2 : w5.frozen? ⟨M + 1, 2, none⟩ = false := ha5.free 2; have f3 : w5.frozen? ⟨M + 1, 3, none⟩ = false := ha5.free 3; have f4 : w5.frozen? ⟨M + 1, 4, none⟩ = false := ha5.free 4))
      have ho5 := only_trans (Only.of_below hb5) (only_three w5 (M + 1) (.int .i64 (y.1 : Int)) (.int .i64 (k.val : Int)) (.int .i64 ((P.2.2.2.2 : Int) + (y.2.2.2 : Int))) (.cells #[.int .i64 (y.1 : Int), .int .u32 (y.2.1 : Int), .slice ra5 rn5 rc5, .int .i64 (y.2.2.2 : Int)] 37))
      refine ⟨keeps_only ho5 (by omega), rfl, ?_, .slice ra rn rc, ?_, ?_, H3.out, only_trans H4.out ho5⟩
      · rw [HSN.out, if_neg hv]; exact hv
      · rw [HSN.out, if_neg hv]
        exact (((ha5.set 0 (.int .i64 (y.1 : Int))).set 1 (.int .i64 (k.val : Int))).set 4 (.int .i64 ((P.2.2.2.2 : Int) + (y.2.2.2 : Int)))).alloc _
      · rw [HSN.out, if_neg hv]
        exact H2.out.only (s := fun k => k = M + 1) ho5 (fun k hk => by omega)
  case done =>
    rintro D ys W hD rfl ⟨hz, rv, h1, h2, h3, h4⟩ hdef
    rw [opqP_all] at h1 h2
    obtain ⟨P, hP⟩ : ∃ P, opaqueS B h = P := ⟨_, rfl⟩
    rw [hP] at h1 h2
    have HP := Lib.hid hP
    clear hP hz
    obtain ⟨ra, rc, rfl⟩ := h2.rd.len
    obtain ⟨rn, hrn⟩ : ∃ z, (nats P.2.2.2.1).length = z := ⟨_, rfl⟩
    rw [hrn] at h1 h2 h3
    have q0 : W.cell? ⟨M + 1, 0, none⟩ = some (.int .i64 (P.1 : Int)) := h1.cell rfl
    have q1 : W.cell? ⟨M + 1, 1, none⟩ = some (.int .i64 (P.2.1 : Int)) := h1.cell rfl
    have q2 : W.cell? ⟨M + 1, 2, none⟩ = some (.int .u32 (P.2.2.1 : Int)) := h1.cell rfl
    have q3 : W.cell? ⟨M + 1, 3, none⟩ = some (.slice ra rn rc) := h1.cell rfl
    have q4 : W.cell? ⟨M + 1, 4, none⟩ = some (.int .i64 (P.2.2.2.2 : Int)) := h1.cell rfl
    have a4 := HA43.out.only h4 (by omega)
    have a5 := HA53.out.only h4 (by omega)
    have r0 : W.cell? ⟨N + 1, 0, none⟩ = some (.int .i64 0) := a4.cell rfl
    have r1 : W.cell? ⟨N + 1, 1, none⟩ = some (.int .i64 0) := a4.cell rfl
    have r2 : W.cell? ⟨N + 1, 2, none⟩ = some (.int .u32 0) := a4.cell rfl
    have r3 : W.cell? ⟨N + 1, 3, none⟩ = some (.slice none 0 0) := a4.cell rfl
    have r4 : W.cell? ⟨N + 1, 4, none⟩ = some (.int .i64 0) := a4.cell rfl
    have r5 : W.cell? ⟨N + 1 + 1, 0, none⟩ = some (.int .i64 0) := a5.cell rfl
    have f0 : W.frozen? ⟨N + 1, 0, none⟩ = false := a4.free 0
    have f1 : W.frozen? ⟨N + 1, 1, none⟩ = false := a4.free 1
    have f2 : W.frozen? ⟨N + 1, 2, none⟩ = false := a4.free 2
    have f3 : W.frozen? ⟨N + 1, 3, none⟩ = false := a4.free 3
    have f4 : W.frozen? ⟨N + 1, 4, none⟩ = false := a4.free 4
    have f5 : W.frozen? ⟨N + 1 + 1, 0, none⟩ = false := a5.free 0
    have A4 := Lib.hid a4
    have A5 := Lib.hid a5
    have H1 := Lib.hid h1
    have H2 := Lib.hid h2
    have H3 := Lib.hid h3
    have H4 := Lib.hid h4
    have HDF := Lib.hid hdef
    clear h1 h2 h3 h4 a4 a5 hdef
    gi_wp2
    have AC : At ((((((W.setCell ⟨N + 1, 0, none⟩ (.int .i64 (P.1 : Int))).setCell ⟨N + 1, 1, none⟩ (.int .i64 (P.2.1 : Int))).setCell ⟨N + 1, 2, none⟩ (.int .u32 (P.2.2.1 : Int))).setCell ⟨N + 1, 3, none⟩ (.slice ra rn rc)).setCell ⟨N + 1, 4, none⟩ (.int .i64 (P.2.2.2.2 : Int))).setCell ⟨N + 1 + 1, 0, none⟩ (.int .i64 0)) (N + 1) (chkA P.1 P.2.1 P.2.2.1 (.slice ra rn rc) P.2.2.2.2) 26 :=
      (((((A4.out.set 0 (.int .i64 (P.1 : Int))).set 1 (.int .i64 (P.2.1 : Int))).set 2 (.int .u32 (P.2.2.1 : Int))).set 3 (.slice ra rn rc)).set 4 (.int .i64 (P.2.2.2.2 : Int))).other (by simp) _
    have AE : At ((((((W.setCell ⟨N + 1, 0, none⟩ (.int .i64 (P.1 : Int))).setCell ⟨N + 1, 1, none⟩ (.int .i64 (P.2.1 : Int))).setCell ⟨N + 1, 2, none⟩ (.int .u32 (P.2.2.1 : Int))).setCell ⟨N + 1, 3, none⟩ (.slice ra rn rc)).setCell ⟨N + 1, 4, none⟩ (.int .i64 (P.2.2.2.2 : Int))).setCell ⟨N + 1 + 1, 0, none⟩ (.int .i64 0)) (N + 1 + 1) #[.int .i64 0] 28 :=
      (((((A5.out.other (a := ⟨N + 1, 0, none⟩) (by simp) _).other (a := ⟨N + 1, 1, none⟩) (by simp) _).other (a := ⟨N + 1, 2, none⟩) (by simp) _).other (a := ⟨N + 1, 3, none⟩) (by simp) _).other (a := ⟨N + 1, 4, none⟩) (by simp) _).set 0 (.int .i64 0)
    have HO7 := only_res W N (.int .i64 (P.1 : Int)) (.int .i64 (P.2.1 : Int)) (.int .u32 (P.2.2.1 : Int)) (.slice ra rn rc) (.int .i64 (P.2.2.2.2 : Int)) (.int .i64 0)
    clear q0 q1 q2 q3 q4 r0 r1 r2 r3 r4 r5 f0 f1 f2 f3 f4 f5
    generalize ((((((W.setCell ⟨N + 1, 0, none⟩ (.int .i64 (P.1 : Int))).setCell ⟨N + 1, 1, none⟩ (.int .i64 (P.2.1 : Int))).setCell ⟨N + 1, 2, none⟩ (.int .u32 (P.2.2.1 : Int))).setCell ⟨N + 1, 3, none⟩ (.slice ra rn rc)).setCell ⟨N + 1, 4, none⟩ (.int .i64 (P.2.2.2.2 : Int))).setCell ⟨N + 1 + 1, 0, none⟩ (.int .i64 0)) = W7 at *
    have hD7 : W7.heap[D]? = some (.deferred (some [])) := (HO7.block D (Array.getElem?_eq_some_iff.1 HDF.out).1 (by omega)).trans HDF.out
    refine ⟨by simp, .inl ⟨_, _, rfl, run_takeDeferred hD7, ?_⟩⟩
    have A8 := at_own AC (grownBy_putObj' W7 D (.deferred none)) (fun k e => by cases e; exact ⟨_, hD7, rfl⟩)
    have E8 := at_own AE (grownBy_putObj' W7 D (.deferred none)) (fun k e => by cases e; exact ⟨_, hD7, rfl⟩)
    have hr8 := rd_own (H2.out.only HO7 (fun k hk => by omega)) (grownBy_putObj' W7 D (.deferred none)) (fun k e => by cases e; exact ⟨_, hD7, rfl⟩)
    have hb8 : Below w.heap.size w (W7.putObj D (.deferred none)) := ((HB3.out.trans (H4.out.below HB3.out.size (fun k _ hk => by omega))).trans (HO7.below (by have := H4.out.size; omega) (fun k _ hk => by omega))).trans (belowK_b (w := w) (Nat.le_refl _) W7 D _ _ (by omega) hD7 rfl rfl)
    generalize W7.putObj D (.deferred none) = W8 at *
    have q0 : W8.cell? ⟨N + 1, 0, none⟩ = some (.int .i64 (P.1 : Int)) := A8.cell rfl
    have q1 : W8.cell? ⟨N + 1, 1, none⟩ = some (.int .i64 (P.2.1 : Int)) := A8.cell rfl
    have q2 : W8.cell? ⟨N + 1, 2, none⟩ = some (.int .u32 (P.2.2.1 : Int)) := A8.cell rfl
    have q3 : W8.cell? ⟨N + 1, 3, none⟩ = some (.slice ra rn rc) := A8.cell rfl
    have q4 : W8.cell? ⟨N + 1, 4, none⟩ = some (.int .i64 (P.2.2.2.2 : Int)) := A8.cell rfl
    have q5 : W8.cell? ⟨N + 1 + 1, 0, none⟩ = some (.int .i64 0) := E8.cell rfl
    refine ⟨.tuple #[chkV P.1 P.2.1 P.2.2.1 (.slice ra rn rc) P.2.2.2.2, .int .i64 0], by simp [results, Tryd.results7, go_sem, q0, q1, q2, q3, q4, q5]; rfl, .slice ra rn rc, by rw [HP.out], ?_, H3.out, hb8⟩
    rw [HP.out]
    exact hr8.less (fun k hk => by omega)
  case stop =>
    rintro D cc pre W hD hpre ⟨rfl, hz, rv, h1, h2, h3, h4⟩ hdef
    rw [opqP_stop hpre hz] at h1 h2
    obtain ⟨P, hP⟩ : ∃ P, opaqueS B h = P := ⟨_, rfl⟩
    rw [hP] at h1 h2
    have HP := Lib.hid hP
    clear hP hz hpre
    obtain ⟨ra, rc, rfl⟩ := h2.rd.len
    obtain ⟨rn, hrn⟩ : ∃ z, (nats P.2.2.2.1).length = z := ⟨_, rfl⟩
    rw [hrn] at h1 h2 h3
    have q0 : W.cell? ⟨M + 1, 0, none⟩ = some (.int .i64 (P.1 : Int)) := h1.cell rfl
    have q1 : W.cell? ⟨M + 1, 1, none⟩ = some (.int .i64 (P.2.1 : Int)) := h1.cell rfl
    have q2 : W.cell? ⟨M + 1, 2, none⟩ = some (.int .u32 (P.2.2.1 : Int)) := h1.cell rfl
    have q3 : W.cell? ⟨M + 1, 3, none⟩ = some (.slice ra rn rc) := h1.cell rfl
    have q4 : W.cell? ⟨M + 1, 4, none⟩ = some (.int .i64 (P.2.2.2.2 : Int)) := h1.cell rfl
    have a4 := HA43.out.only h4 (by omega)
    have a5 := HA53.out.only h4 (by omega)
    have r0 : W.cell? ⟨N + 1, 0, none⟩ = some (.int .i64 0) := a4.cell rfl
    have r1 : W.cell? ⟨N + 1, 1, none⟩ = some (.int .i64 0) := a4.cell rfl
    have r2 : W.cell? ⟨N + 1, 2, none⟩ = some (.int .u32 0) := a4.cell rfl
    have r3 : W.cell? ⟨N + 1, 3, none⟩ = some (.slice none 0 0) := a4.cell rfl
    have r4 : W.cell? ⟨N + 1, 4, none⟩ = some (.int .i64 0) := a4.cell rfl
    have r5 : W.cell? ⟨N + 1 + 1, 0, none⟩ = some (.int .i64 0) := a5.cell rfl
    have f0 : W.frozen? ⟨N + 1, 0, none⟩ = false := a4.free 0
    have f1 : W.frozen? ⟨N + 1, 1, none⟩ = false := a4.free 1
    have f2 : W.frozen? ⟨N + 1, 2, none⟩ = false := a4.free 2
    have f3 : W.frozen? ⟨N + 1, 3, none⟩ = false := a4.free 3
    have f4 : W.frozen? ⟨N + 1, 4, none⟩ = false := a4.free 4
    have f5 : W.frozen? ⟨N + 1 + 1, 0, none⟩ = false := a5.free 0
    have A4 := Lib.hid a4
    have A5 := Lib.hid a5
    have H1 := Lib.hid h1
    have H2 := Lib.hid h2
    have H3 := Lib.hid h3
    have H4 := Lib.hid h4
    have HDF := Lib.hid hdef
    clear h1 h2 h3 h4 a4 a5 hdef
    gi_wp2
    have AC : At ((((((W.setCell ⟨N + 1, 0, none⟩ (.int .i64 (P.1 : Int))).setCell ⟨N + 1, 1, none⟩ (.int .i64 (P.2.1 : Int))).setCell ⟨N + 1, 2, none⟩ (.int .u32 (P.2.2.1 : Int))).setCell ⟨N + 1, 3, none⟩ (.slice ra rn rc)).setCell ⟨N + 1, 4, none⟩ (.int .i64 (P.2.2.2.2 : Int))).setCell ⟨N + 1 + 1, 0, none⟩ (.int .i64 0)) (N + 1) (chkA P.1 P.2.1 P.2.2.1 (.slice ra rn rc) P.2.2.2.2) 26 :=
      (((((A4.out.set 0 (.int .i64 (P.1 : Int))).set 1 (.int .i64 (P.2.1 : Int))).set 2 (.int .u32 (P.2.2.1 : Int))).set 3 (.slice ra rn rc)).set 4 (.int .i64 (P.2.2.2.2 : Int))).other (by simp) _
    have AE : At ((((((W.setCell ⟨N + 1, 0, none⟩ (.int .i64 (P.1 : Int))).setCell ⟨N + 1, 1, none⟩ (.int .i64 (P.2.1 : Int))).setCell ⟨N + 1, 2, none⟩ (.int .u32 (P.2.2.1 : Int))).setCell ⟨N + 1, 3, none⟩ (.slice ra rn rc)).setCell ⟨N + 1, 4, none⟩ (.int .i64 (P.2.2.2.2 : Int))).setCell ⟨N + 1 + 1, 0, none⟩ (.int .i64 0)) (N + 1 + 1) #[.int .i64 0] 28 :=
      (((((A5.out.other (a := ⟨N + 1, 0, none⟩) (by simp) _).other (a := ⟨N + 1, 1, none⟩) (by simp) _).other (a := ⟨N + 1, 2, none⟩) (by simp) _).other (a := ⟨N + 1, 3, none⟩) (by simp) _).other (a := ⟨N + 1, 4, none⟩) (by simp) _).set 0 (.int .i64 0)
    have HO7 := only_res W N (.int .i64 (P.1 : Int)) (.int .i64 (P.2.1 : Int)) (.int .u32 (P.2.2.1 : Int)) (.slice ra rn rc) (.int .i64 (P.2.2.2.2 : Int)) (.int .i64 0)
    clear q0 q1 q2 q3 q4 r0 r1 r2 r3 r4 r5 f0 f1 f2 f3 f4 f5
    generalize ((((((W.setCell ⟨N + 1, 0, none⟩ (.int .i64 (P.1 : Int))).setCell ⟨N + 1, 1, none⟩ (.int .i64 (P.2.1 : Int))).setCell ⟨N + 1, 2, none⟩ (.int .u32 (P.2.2.1 : Int))).setCell ⟨N + 1, 3, none⟩ (.slice ra rn rc)).setCell ⟨N + 1, 4, none⟩ (.int .i64 (P.2.2.2.2 : Int))).setCell ⟨N + 1 + 1, 0, none⟩ (.int .i64 0)) = W7 at *
    have hD7 : W7.heap[D]? = some (.deferred (some [])) := (HO7.block D (Array.getElem?_eq_some_iff.1 HDF.out).1 (by omega)).trans HDF.out
    refine ⟨by simp, .inl ⟨_, _, rfl, run_takeDeferred hD7, ?_⟩⟩
    have A8 := at_own AC (grownBy_putObj' W7 D (.deferred none)) (fun k e => by cases e; exact ⟨_, hD7, rfl⟩)
    have E8 := at_own AE (grownBy_putObj' W7 D (.deferred none)) (fun k e => by cases e; exact ⟨_, hD7, rfl⟩)
    have hr8 := rd_own (H2.out.only HO7 (fun k hk => by omega)) (grownBy_putObj' W7 D (.deferred none)) (fun k e => by cases e; exact ⟨_, hD7, rfl⟩)
    have hb8 : Below w.heap.size w (W7.putObj D (.deferred none)) := ((HB3.out.trans (H4.out.below HB3.out.size (fun k _ hk => by omega))).trans (HO7.below (by have := H4.out.size; omega) (fun k _ hk => by omega))).trans (belowK_b (w := w) (Nat.le_refl _) W7 D _ _ (by omega) hD7 rfl rfl)
    generalize W7.putObj D (.deferred none) = W8 at *
    have q0 : W8.cell? ⟨N + 1, 0, none⟩ = some (.int .i64 (P.1 : Int)) := A8.cell rfl
    have q1 : W8.cell? ⟨N + 1, 1, none⟩ = some (.int .i64 (P.2.1 : Int)) := A8.cell rfl
    have q2 : W8.cell? ⟨N + 1, 2, none⟩ = some (.int .u32 (P.2.2.1 : Int)) := A8.cell rfl
    have q3 : W8.cell? ⟨N + 1, 3, none⟩ = some (.slice ra rn rc) := A8.cell rfl
    have q4 : W8.cell? ⟨N + 1, 4, none⟩ = some (.int .i64 (P.2.2.2.2 : Int)) := A8.cell rfl
    have q5 : W8.cell? ⟨N + 1 + 1, 0, none⟩ = some (.int .i64 0) := E8.cell rfl
    refine ⟨.tuple #[chkV P.1 P.2.1 P.2.2.1 (.slice ra rn rc) P.2.2.2.2, .int .i64 0], by simp [results, Tryd.results7, go_sem, q0, q1, q2, q3, q4, q5]; rfl, .slice ra rn rc, by rw [HP.out], ?_, H3.out, hb8⟩
    rw [HP.out]
    exact hr8.less (fun k hk => by omega)
/-- what Check finds -/
def opqF (h : List Ev) (B : Int) : Nat × Nat × Nat × List Nat × Nat := if srchE h B = 0 then opaqueS B.toNat h else (0, 0, 0, [], 0)
theorem opqF_of {h : List Ev} {B : Nat} (h0 : srchE h (B : Int) = 0) : opqF h (B : Int) = opaqueS B h := by
  unfold opqF
  rw [if_pos h0, Int.toNat_natCast]
set_option maxRecDepth 100000 in
set_option maxHeartbeats 2000000 in
theorem opaque_any (a : Option Addr) (c : Nat) (h : List Ev) (B : Int) (w : World) (hK : HasK w) (hv : Evs w (.slice a h.length c) h) (hl : h.length ≤ 65536) (hnc : h.length ≤ c) :
    Calls Tryd.prog 7 #[.slice a h.length c, .int .i64 B] w fun e w' => ∃ rv, e = .returned (.tuple #[chkV (opqF h B).1 (opqF h B).2.1 (opqF h B).2.2.1 rv (opqF h B).2.2.2.2, .int .i64 ((srchE h B : Nat) : Int)]) ∧
      RdX (fun k => k < w.heap.size) w' rv (nats (opqF h B).2.2.2.1) ∧ CapV rv ∧ Below w.heap.size w w' := by
  by_cases h0 : srchE h B = 0
  · obtain ⟨hc0, hB0, hB1⟩ := srchE_zero h0
    obtain ⟨BN, rfl⟩ : ∃ BN : Nat, B = (BN : Int) := ⟨B.toNat, by omega⟩
    rw [h0, opqF_of h0]
    exact check_ok a c h BN w hK hv hl hnc h0
  · have hF : opqF h B = (0, 0, 0, [], 0) := by unfold opqF; rw [if_neg h0]
    rw [hF]
    obtain ⟨w1, hw1⟩ : ∃ w1, ((w.alloc (.cells #[.int .i64 B] 3)).alloc (.cells #[.int .i64 0, .int .i64 0, .int .u32 0, .slice none 0 0, .int .i64 0] 26)).alloc (.cells #[.int .i64 0] 28) = w1 := ⟨_, rfl⟩
    have HB1 : Hid (Below w.heap.size w w1) := by
      rw [← hw1]
      exact (((Below.refl _ w).alloc (Nat.le_refl _) _).alloc (by simp) _).alloc (by simp; omega) _
    obtain ⟨N, hN⟩ : ∃ N, w.heap.size = N := ⟨_, rfl⟩
    have ha3 : At w1 N #[.int .i64 B] 3 := by
      rw [← hw1, ← hN]
      exact ((At.new w _ _).alloc _).alloc _
    have ha4 : At w1 (N + 1) (chkA 0 0 0 (.slice none 0 0) 0) 26 := by
      rw [← hw1, ← hN]
      have := (At.new (w.alloc (.cells #[.int .i64 B] 3)) #[.int .i64 0, .int .i64 0, .int .u32 0, .slice none 0 0, .int .i64 0] 26).alloc (.cells #[.int .i64 0] 28)
      rwa [World.size_alloc] at this
    have ha5 : At w1 (N + 1 + 1) #[.int .i64 0] 28 := by
      rw [← hw1, ← hN]
      have := At.new ((w.alloc (.cells #[.int .i64 B] 3)).alloc (.cells #[.int .i64 0, .int .i64 0, .int .u32 0, .slice none 0 0, .int .i64 0] 26)) #[.int .i64 0] 28
      rwa [World.size_alloc, World.size_alloc] at this
    have HROW := Lib.hid (rowS_any _ h 0 0 B w1 (hK.later HB1.out (Nat.le_refl _)) (hv.below HB1.out (Nat.le_refl _)) hl (by decide) (by decide))
    have hre : rowE h 0 0 B = srchE h B := by
      unfold rowE
      rw [if_neg h0]
    obtain ⟨x, hx⟩ : ∃ x, rowF h 0 0 B = x := ⟨_, rfl⟩
    rw [hre, hx] at HROW
    obtain ⟨er, her⟩ : ∃ er, srchE h B = er := ⟨_, rfl⟩
    rw [her] at HROW h0 ⊢
    have te : ((er : Int) != 0) = true := by simp; omega
    have HA4 := Lib.hid ha4
    have HA5 := Lib.hid ha5
    have q3 : w1.cell? ⟨N, 0, none⟩ = some (.int .i64 B) := ha3.cell rfl
    unfold fndV at HROW
    clear hre hx her hF ha3 ha4 ha5 hK hv h0
    go_enter Tryd.func7, Tryd.ntmps7
    go_wp2_with fail
    refine HROW.out.mono ?_
    rintro e w2 ⟨rv2, rfl, hr2, -, hb2⟩
    obtain ⟨ra2, rc2, rfl⟩ := hr2.len
    have a4 := HA4.out.below hb2 HA4.out.lt
    have a5 := HA5.out.below hb2 HA5.out.lt
    have q0 : w2.cell? ⟨N + 1, 0, none⟩ = some (.int .i64 0) := a4.cell rfl
    have q1 : w2.cell? ⟨N + 1, 1, none⟩ = some (.int .i64 0) := a4.cell rfl
    have q2 : w2.cell? ⟨N + 1, 2, none⟩ = some (.int .u32 0) := a4.cell rfl
    have q3 : w2.cell? ⟨N + 1, 3, none⟩ = some (.slice none 0 0) := a4.cell rfl
    have q4 : w2.cell? ⟨N + 1, 4, none⟩ = some (.int .i64 0) := a4.cell rfl
    have q5 : w2.cell? ⟨N + 1 + 1, 0, none⟩ = some (.int .i64 0) := a5.cell rfl
    have f0 : w2.frozen? ⟨N + 1, 0, none⟩ = false := a4.free 0
    have f1 : w2.frozen? ⟨N + 1, 1, none⟩ = false := a4.free 1
    have f2 : w2.frozen? ⟨N + 1, 2, none⟩ = false := a4.free 2
    have f3 : w2.frozen? ⟨N + 1, 3, none⟩ = false := a4.free 3
    have f4 : w2.frozen? ⟨N + 1, 4, none⟩ = false := a4.free 4
    have f5 : w2.frozen? ⟨N + 1 + 1, 0, none⟩ = false := a5.free 0
    have hlt4 := a4.lt
    have hlt5 := a5.lt
    have HB2 := Lib.hid (HB1.out.trans (hb2.mono HB1.out.size))
    have A4 := Lib.hid a4
    have A5 := Lib.hid a5
    clear hr2 hb2 HROW a4 a5
    go_wp2_with fail
    obtain ⟨o7, ho7⟩ : ∃ o, o = Obj.cells #[.int .i64 (x.1 : Int), .int .u32 (x.2.1 : Int), .slice ra2 (nats x.2.2.1).length rc2, .int .i64 (x.2.2.2 : Int)] 37 := ⟨_, rfl⟩
    rw [← ho7]
    have AC : At (((((((w2.setCell ⟨N + 1, 0, none⟩ (.int .i64 0)).setCell ⟨N + 1, 1, none⟩ (.int .i64 0)).setCell ⟨N + 1, 2, none⟩ (.int .u32 0)).setCell ⟨N + 1, 3, none⟩ (.slice none 0 0)).setCell ⟨N + 1, 4, none⟩ (.int .i64 0)).setCell ⟨N + 1 + 1, 0, none⟩ (.int .i64 (er : Int))).alloc o7) (N + 1) (chkA 0 0 0 (.slice none 0 0) 0) 26 :=
      ((((((A4.out.set 0 (.int .i64 0)).set 1 (.int .i64 0)).set 2 (.int .u32 0)).set 3 (.slice none 0 0)).set 4 (.int .i64 0)).other (by simp) _).alloc _
    have AE : At (((((((w2.setCell ⟨N + 1, 0, none⟩ (.int .i64 0)).setCell ⟨N + 1, 1, none⟩ (.int .i64 0)).setCell ⟨N + 1, 2, none⟩ (.int .u32 0)).setCell ⟨N + 1, 3, none⟩ (.slice none 0 0)).setCell ⟨N + 1, 4, none⟩ (.int .i64 0)).setCell ⟨N + 1 + 1, 0, none⟩ (.int .i64 (er : Int))).alloc o7) (N + 1 + 1) #[.int .i64 (er : Int)] 28 :=
      ((((((A5.out.other (a := ⟨N + 1, 0, none⟩) (by simp) _).other (a := ⟨N + 1, 1, none⟩) (by simp) _).other (a := ⟨N + 1, 2, none⟩) (by simp) _).other (a := ⟨N + 1, 3, none⟩) (by simp) _).other (a := ⟨N + 1, 4, none⟩) (by simp) _).set 0 (.int .i64 (er : Int))).alloc _
    have HO7 := (only_res w2 N (.int .i64 0) (.int .i64 0) (.int .u32 0) (.slice none 0 0) (.int .i64 0) (.int .i64 (er : Int))).alloc o7
    clear q0 q1 q2 q3 q4 q5 f0 f1 f2 f3 f4 f5
    generalize (((((((w2.setCell ⟨N + 1, 0, none⟩ (.int .i64 0)).setCell ⟨N + 1, 1, none⟩ (.int .i64 0)).setCell ⟨N + 1, 2, none⟩ (.int .u32 0)).setCell ⟨N + 1, 3, none⟩ (.slice none 0 0)).setCell ⟨N + 1, 4, none⟩ (.int .i64 0)).setCell ⟨N + 1 + 1, 0, none⟩ (.int .i64 (er : Int))).alloc o7) = W8 at *
    have q0 : W8.cell? ⟨N + 1, 0, none⟩ = some (.int .i64 0) := AC.cell rfl
    have q1 : W8.cell? ⟨N + 1, 1, none⟩ = some (.int .i64 0) := AC.cell rfl
    have q2 : W8.cell? ⟨N + 1, 2, none⟩ = some (.int .u32 0) := AC.cell rfl
    have q3 : W8.cell? ⟨N + 1, 3, none⟩ = some (.slice none 0 0) := AC.cell rfl
    have q4 : W8.cell? ⟨N + 1, 4, none⟩ = some (.int .i64 0) := AC.cell rfl
    have q5 : W8.cell? ⟨N + 1 + 1, 0, none⟩ = some (.int .i64 (er : Int)) := AE.cell rfl
    refine bodyPost_ret (v := .tuple #[chkV 0 0 0 (.slice none 0 0) 0, .int .i64 (er : Int)]) (by simp [results, Tryd.results7, go_sem, q0, q1, q2, q3, q4, q5]; rfl) rfl ?_
    exact ⟨_, rfl, .inl ⟨rfl, _, _, rfl⟩, capV_nil, HB2.out.trans (HO7.below (by have := HB2.out.size; omega) (fun k _ hk => by omega))⟩
end Go.Proofs.YtjefmfbncjdofaaDoor
