/- The walks of package extend's All, Count and First. -/
import Derived.Test.YtclhbnfnmpabbaaExtI
namespace Go.Proofs.Ytclhbnfnmpabbaa.RPlain
end Go.Proofs.Ytclhbnfnmpabbaa.RPlain
namespace Go.Proofs.Ytclhbnfnmpabbaa
open Go.RowKit Go.Shelf RPlain

attribute [local go_sem] Oper.semAt_some

/-- what the loop that counts holds -/
def Cnt (w0 : World) (B : Nat) (pre : List (List Nat)) (X : Nat → Prop) (W : World) : Prop := At W B #[.int .i64 (pre.length : Int)] 3 ∧ (∀ k, X k ↔ k = B) ∧ Below B w0 W
theorem Cnt.own {w0 : World} {B C : Nat} (hC : B ≤ C) : OwnX C (Cnt w0 B) := by
  rintro pre X W W' r ⟨h1, h4, h5⟩ hg hr
  exact ⟨at_own h1 hg (fun k e => (hr k e).2), h4, h5.grown hg (by have := h1.lt; omega) (fun k e => Nat.le_trans hC (hr k e).1)⟩
set_option maxRecDepth 100000 in
set_option maxHeartbeats 4000000 in
theorem countX_any (a : Option Addr) (c : Nat) (A : List Nat) (w : World) (hv : Rd w (.slice a A.length c) (u32s A)) (hA : ∀ x ∈ A, x < 4294967296) (hl : A.length ≤ 65536) :
    Calls Try.prog 13 #[.slice a A.length c] w fun e w' => e = .returned (.tuple #[.int .i64 ((if mayE A = 0 then (allS A).length else 0 : Nat) : Int), .int .i64 ((mayE A : Nat) : Int)]) ∧ Below w.heap.size w w' := by
  have HCK := Lib.hid (checkX_any _ A w hv hA hl)
  have HV := Lib.hid hv
  by_cases h0 : mayE A = 0
  · obtain ⟨hn, _, hf⟩ := mayE_zero.1 h0
    have hro : rowsS A = allS A := rowsS_eq (self_free hf)
    rw [if_pos h0, ← hro]
    rw [h0] at HCK ⊢
    have hlen := rowsS_len hn
    have HRW := Lib.hid (fun w1 => rows_any a c A hn w1)
    have HCP := Lib.hid (fun (w1 w2 : World) h => rows_cap (a := a) (c := c) (A := A) (w := w1) (w' := w2) h)
    have HG := Lib.hid (fun L R T => rows1_gives A hn hA (rowsS A) A.length [] List.nodup_nil (fun k hk => by cases hk) (by simp) L R T [] (by show ([] ++ rowsS A) <+: rowsS A; exact List.prefix_refl _))
    have hrs : extP A.length (nxR A) A.length [] = rowsS A := rfl
    rw [hrs] at HG
    clear h0 hf hro hv hrs
    generalize rowsS A = rows at *
    refine (callsIn_wide (n := 6)).1 ?_
    refine callsIn_of_wp_marks Try.func13 rfl trivial ?_ rfl
    simp only [Try.ntmps13, List.size_toArray, List.length_cons, List.length_nil, Nat.reduceAdd, Nat.reduceSub, Array.replicate_succ, Array.replicate_zero, List.push_toArray, List.append_toArray, List.nil_append, List.cons_append]
    gi_wp2_with (first
      | (refine ⟨trivial, ?_⟩; gi_at_call 30; refine (callsIn_wide.2 HCK.out).mono ?_; rintro e w1 ⟨rfl, hb1⟩; have HB1 := Lib.hid hb1; clear hb1)
      | (refine ⟨trivial, ?_⟩; gi_at_call 31; refine (callsIn_wide.2 (HRW.out _)).mono ?_; rintro e w2 ⟨rfl, hw2⟩; obtain ⟨hb2, hs2, hcap⟩ := HCP.out _ w2 hw2; have HS2 := Lib.hid hs2; have HB2 := Lib.hid hb2; have HCAP := Lib.hid hcap; clear hw2 hb2 hs2 hcap))
    have hs2 := HS2.out
    have hb2 := HB2.out
    have hat : At w2 w1.heap.size #[.int .i64 0] 3 := (At.new w1 #[.int .i64 0] 3).below hb2 (by simp)
    have hbw : Below w1.heap.size w1 w2 := ((Below.refl _ w1).alloc (Nat.le_refl _) _).trans (hb2.mono (by simp))
    simp only [World.size_alloc] at hs2
    unfold seqV
    refine range_x (gf := 49) (lb := #[.pointer (some ⟨w1.heap.size + 1 + 2, 0, none⟩), .pointer (some ⟨w1.heap.size + 1 + 1, 0, none⟩), .pointer (some ⟨w1.heap.size + 1, 0, none⟩)]) rfl (enters_of Try.func49 (by kernel_rfl) rfl) rfl
      (HG.out _ _ _) (Cnt w1 w1.heap.size) (fun _ _ _ _ => False) (fun k => k = w1.heap.size) ?hyp ?top (Cnt.own (by omega)) (fun _ _ _ _ _ _ hs _ _ => hs) ?start ?round ?done (fun _ _ _ _ _ h => h.elim)
    case hyp =>
      intro W1 hbW
      have hcap := HCAP.out (addX (fun k => k = w1.heap.size) (w2.heap.size + 1))
      simp only [World.size_alloc] at hcap
      refine (hcap ?_ fun k hk hk2 hx => ?_).below hbW
      · exact (rdx_low (HV.out.below HB1.out (Nat.le_refl _)) (fun k hk hx => by rcases hx with hx | hx <;> omega)).below ((Below.refl _ w1).alloc (Nat.le_refl _) _)
      · rcases hx with hx | hx <;> omega
    case top =>
      rintro pre X W ⟨h1, h4, h5⟩ k hk
      rw [(h4 k).1 hk]
      exact h1.lt
    case start => exact ⟨hat, fun k => Iff.rfl, hbw⟩
    case round =>
      intro l' pre r v X V hl1 hl2 hl3 hI hTp hv
      gi_wp2
      refine ⟨Kept.refl _ _, ?_⟩
      intro V2 hg hnc
      have hro : ∀ x, some l' = some x → w2.heap.size ≤ x ∧ ∃ o : Obj, V.heap[x]? = some o ∧ o.isCells = false := fun x e => by cases e; exact ⟨hl1, hnc⟩
      obtain ⟨h1, h4, h5⟩ := (Cnt.own (C := w2.heap.size) (by omega)) _ _ _ _ _ hI hg hro
      have hpl : pre.length + 1 ≤ 46656 := by
        have := hTp.length_le
        simp at this
        omega
      have hc := h1.cell (i := 0) rfl
      have hf := h1.free 0
      have H1 := Lib.hid h1
      have H4 := Lib.hid h4
      have H5 := Lib.hid h5
      clear h1 h4 h5 hI hv
      gi_wp2
      have hkept : Kept X X V2 (V2.setCell ⟨w1.heap.size, 0, none⟩ (.int .i64 ((pre.length : Int) + 1))) := by
        refine ⟨?_, fun k hk hx => ?_, fun k hk => .inl hk⟩
        · show V2.heap.size ≤ (V2.heap.modify _ _).size
          rw [Array.size_modify]; omega
        · exact Below.heap_setCell _ _ _ _ (fun e => hx ((H4.out k).2 e))
      refine ⟨X, ⟨?_, H4.out, H5.out.setCell (Nat.le_refl _) _⟩, hkept⟩
      have := H1.out.set 0 (.int .i64 ((pre.length : Int) + 1))
      simpa using this
    case done =>
      rintro X V ⟨h1, h4, h5⟩ hD hdef
      have hc := h1.cell (i := 0) rfl
      have hlr : ([] ++ rows).length = rows.length := rfl
      rw [hlr] at hc
      have H5 := Lib.hid h5
      clear h1 h4 h5
      gi_wp2
      refine leaves_marks (fun V' => Below w1.heap.size w1 V') (fun V' hg => ⟨.tuple #[.int .i64 (rows.length : Int), .int .i64 0], by simp [results, Try.results13, go_sem], rfl, HB1.out.trans (hg.mono HB1.out.size)⟩) [w2.heap.size] V (by simp) (fun D hDm => ?_) (fun V' D hg hDm hw => ?_) H5.out
      · rw [List.mem_singleton.1 hDm]; exact hdef
      · rw [List.mem_singleton] at hDm
        subst hDm
        exact hg.grown (grownBy_putObj' V' w2.heap.size _) hg.size (fun k e => by cases e; omega)
  · rw [if_neg h0]
    obtain ⟨er, her⟩ : ∃ er, mayE A = er := ⟨_, rfl⟩
    rw [her] at HCK h0 ⊢
    have te : ((er : Int) != 0) = true := by simp; omega
    clear her h0
    go_enter Try.func13, Try.ntmps13
    go_wp2_with fail
    refine HCK.out.mono ?_
    rintro e w1 ⟨rfl, hb1⟩
    go_wp2
    refine bodyPost_ret (v := .tuple #[.int .i64 0, .int .i64 er]) (by simp [results, Try.results13, go_sem]) rfl ⟨rfl, hb1⟩
/-- what the loop that stops at the first row holds -/
def Fst (w0 : World) (B : Nat) (pre : List (List Nat)) (X : Nat → Prop) (W : World) : Prop := pre = [] ∧ At W B #[.slice none 0 0] 23 ∧ (∀ k, X k ↔ k = B) ∧ Below B w0 W
def FstX (w0 : World) (B : Nat) (c : Code) (pre : List (List Nat)) (X : Nat → Prop) (W : World) : Prop :=
  c = .exit 0 ∧ ∃ r v, pre = [r] ∧ At W B #[v] 23 ∧ RdX X W v (nats r) ∧ (∀ k, X k ↔ k = B) ∧ Below B w0 W
theorem Fst.own {w0 : World} {B C : Nat} (hC : B ≤ C) : OwnX C (Fst w0 B) := by
  rintro pre X W W' r ⟨h0, h1, h4, h5⟩ hg hr
  exact ⟨h0, at_own h1 hg (fun k e => (hr k e).2), h4, h5.grown hg (by have := h1.lt; omega) (fun k e => Nat.le_trans hC (hr k e).1)⟩
theorem FstX.own {w0 : World} {B C : Nat} (hC : B ≤ C) (c : Code) : OwnX C (FstX w0 B c) := by
  rintro pre X W W' r ⟨h0, q, v, h1, h2, h3, h4, h5⟩ hg hr
  exact ⟨h0, q, v, h1, at_own h2 hg (fun k e => (hr k e).2), rd_own h3 hg (fun k e => (hr k e).2), h4, h5.grown hg (by have := h2.lt; omega) (fun k e => Nat.le_trans hC (hr k e).1)⟩
end Go.Proofs.Ytclhbnfnmpabbaa
