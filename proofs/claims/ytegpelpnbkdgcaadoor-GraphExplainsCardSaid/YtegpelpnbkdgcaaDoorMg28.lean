/- Merged: GpiC, ExtJ, GpiA. -/
import Derived.Test.YtegpelpnbkdgcaaDoorGphW
import Derived.Test.YtegpelpnbkdgcaaDoorMg22
import Derived.Test.YtegpelpnbkdgcaaDoorMg15
/- Plain words: graphs as they are built; an int that fits. -/
namespace Go.Proofs.YtegpelpnbkdgcaaDoor.WPlain
end Go.Proofs.YtegpelpnbkdgcaaDoor.WPlain
namespace Go.Proofs.YtegpelpnbkdgcaaDoor.QPlain
end Go.Proofs.YtegpelpnbkdgcaaDoor.QPlain
namespace Go.Proofs.YtegpelpnbkdgcaaDoor.RPlain
end Go.Proofs.YtegpelpnbkdgcaaDoor.RPlain
namespace Go.Proofs.YtegpelpnbkdgcaaDoor.RPlain
open WPlain QPlain

theorem and_under {A B : Nat} (hB : B < 4294967296) (h : ∀ k, A.testBit k = true → B.testBit k = true) : A &&& (4294967295 - B) = 0 := by
  refine Nat.eq_of_testBit_eq fun k => ?_
  rw [Nat.testBit_and, show 4294967295 - B = 2 ^ 32 - (B + 1) by omega, Nat.testBit_two_pow_sub_succ (n := 32) (by omega), Nat.zero_testBit]
  cases ha : A.testBit k with
  | false => rfl
  | true => rw [h k ha]; simp
theorem bld_len (l : List Tx) (c : Nat) (rn : List Nat) : (buildS l c rn).length = l.length := by unfold buildS; rw [List.length_map, List.length_range]
theorem bld_at (l : List Tx) (c : Nat) (rn : List Nat) {i : Nat} (hi : i < (buildS l c rn).length) : (buildS l c rn)[i] = bitsN (behB l c rn i) l.length := by simp [buildS]
theorem bld_small {l : List Tx} (h6 : l.length ≤ 6) (c : Nat) (rn : List Nat) {i : Nat} (hi : i < (buildS l c rn).length) : (buildS l c rn)[i] < 4294967296 := by
  rw [bld_at]
  exact Nat.lt_of_lt_of_le (bitsN_lt _ _) (Nat.pow_le_pow_right (n := 2) (i := l.length) (j := 32) (by decide) (by omega))
theorem bld_more {l : List Tx} (h6 : l.length ≤ 6) (x y : Nat) (rn : List Nat) {i : Nat} (hi : i < (buildS l x rn).length) (hi' : i < (buildS l (x ||| y) rn).length) : (buildS l x rn)[i] &&& (4294967295 - (buildS l (x ||| y) rn)[i]) = 0 := by
  refine and_under (bld_small h6 _ _ _) fun k hk => ?_
  rw [bld_at, bitsN_test, Bool.and_eq_true] at hk ⊢
  exact ⟨hk.1, graph_more (c := x) (d := x ||| y) (fun j hj => by rw [Nat.testBit_or, hj]; rfl) hk.2⟩
theorem errB_zero {h : List Ev} {cm : Nat} {row : List Int} (h0 : errB h cm row = 0) : errG h cm = 0 ∧ wholeS (tableS h).length row = true ∧ readS (tableS h) cm = true := by
  by_cases hg : errG h cm = 0
  · cases hw : wholeS (tableS h).length row with
    | false => rw [errB_row hg hw] at h0; cases h0
    | true =>
      cases hr : readS (tableS h) cm with
      | false => rw [errB_read hg hw hr] at h0; cases h0
      | true => exact ⟨hg, rfl, rfl⟩
  · rw [errB_off hg] at h0
    exact absurd h0 hg
end Go.Proofs.YtegpelpnbkdgcaaDoor.RPlain
namespace Go.Proofs.YtegpelpnbkdgcaaDoor
open Go.RowKit WPlain QPlain RPlain

theorem u32_nat {x : Int} (hx : (Lit.int .u32 x).wf = true) : ∃ y : Nat, x = (y : Int) ∧ y < 4294967296 := by
  have h1 : (decide ((0 : Int) ≤ x) && decide (x ≤ 4294967295)) = true := hx
  rw [Bool.and_eq_true, decide_eq_true_eq, decide_eq_true_eq] at h1
  exact ⟨x.toNat, by omega, by omega⟩
end Go.Proofs.YtegpelpnbkdgcaaDoor
/- The walks of package extend's All, Count and First. -/
namespace Go.Proofs.YtegpelpnbkdgcaaDoor.RPlain
end Go.Proofs.YtegpelpnbkdgcaaDoor.RPlain
namespace Go.Proofs.YtegpelpnbkdgcaaDoor
open Go.RowKit Go.Shelf RPlain

attribute [local go_sem] Oper.semAt_some

/-- what the loop that counts holds -/
def Cnt (w0 : World) (B : Nat) (pre : List (List Nat)) (X : Nat → Prop) (W : World) : Prop := At W B #[.int .i64 (pre.length : Int)] 3 ∧ (∀ k, X k ↔ k = B) ∧ Below B w0 W
theorem Cnt.own {w0 : World} {B C : Nat} (hC : B ≤ C) : OwnX C (Cnt w0 B) := by
  rintro pre X W W' r ⟨h1, h4, h5⟩ hg hr
  exact ⟨at_own h1 hg (fun k e => (hr k e).2), h4, h5.grown hg (by have := h1.lt; omega) (fun k e => Nat.le_trans hC (hr k e).1)⟩
/-- what the loop that stops at the first row holds -/
def Fst (w0 : World) (B : Nat) (pre : List (List Nat)) (X : Nat → Prop) (W : World) : Prop := pre = [] ∧ At W B #[.slice none 0 0] 24 ∧ (∀ k, X k ↔ k = B) ∧ Below B w0 W
def FstX (w0 : World) (B : Nat) (c : Code) (pre : List (List Nat)) (X : Nat → Prop) (W : World) : Prop :=
  c = .exit 0 ∧ ∃ r v, pre = [r] ∧ At W B #[v] 24 ∧ RdX X W v (nats r) ∧ (∀ k, X k ↔ k = B) ∧ Below B w0 W
theorem Fst.own {w0 : World} {B C : Nat} (hC : B ≤ C) : OwnX C (Fst w0 B) := by
  rintro pre X W W' r ⟨h0, h1, h4, h5⟩ hg hr
  exact ⟨h0, at_own h1 hg (fun k e => (hr k e).2), h4, h5.grown hg (by have := h1.lt; omega) (fun k e => Nat.le_trans hC (hr k e).1)⟩
theorem FstX.own {w0 : World} {B C : Nat} (hC : B ≤ C) (c : Code) : OwnX C (FstX w0 B c) := by
  rintro pre X W W' r ⟨h0, q, v, h1, h2, h3, h4, h5⟩ hg hr
  exact ⟨h0, q, v, h1, at_own h2 hg (fun k e => (hr k e).2), rd_own h3 hg (fun k e => (hr k e).2), h4, h5.grown hg (by have := h2.lt; omega) (fun k e => Nat.le_trans hC (hr k e).1)⟩
set_option maxRecDepth 100000 in
set_option maxHeartbeats 4000000 in
theorem firstX_any (a : Option Addr) (c : Nat) (A : List Nat) (w : World) (hv : Rd w (.slice a A.length c) (u32s A)) (hA : ∀ x ∈ A, x < 4294967296) (hl : A.length ≤ 65536) :
    Calls Tryd.prog 19 #[.slice a A.length c] w fun e w' => ∃ v, e = .returned (.tuple #[v, .int .i64 ((mayE A : Nat) : Int)]) ∧ Rd w' v (nats (if mayE A = 0 then (allS A).headD [] else [])) ∧ Below w.heap.size w w' := by
  have HCK := Lib.hid (checkX_any _ A w hv hA hl)
  have HV := Lib.hid hv
  by_cases h0 : mayE A = 0
  · obtain ⟨hn, _, hf⟩ := mayE_zero.1 h0
    have hro : rowsS A = allS A := rowsS_eq (self_free hf)
    have hsome := allS_some hf
    rw [← hro] at hsome
    rw [if_pos h0, ← hro]
    rw [h0] at HCK ⊢
    have HRW := Lib.hid (fun w1 => rows_any a c A hn w1)
    have HCP := Lib.hid (fun (w1 w2 : World) h => rows_cap (a := a) (c := c) (A := A) (w := w1) (w' := w2) h)
    have HG := Lib.hid (fun L R T => rows1_gives A hn hA (rowsS A) A.length [] List.nodup_nil (fun k hk => by cases hk) (by simp) L R T [] (by show ([] ++ rowsS A) <+: rowsS A; exact List.prefix_refl _))
    have hrs : extP A.length (nxR A) A.length [] = rowsS A := rfl
    rw [hrs] at HG
    clear h0 hf hro hv hrs
    generalize rowsS A = rows at *
    have HSM := Lib.hid hsome
    clear hsome
    refine (callsIn_wide (n := 6)).1 ?_
    refine callsIn_of_wp_marks Tryd.func19 rfl trivial ?_ rfl
    simp only [Tryd.ntmps19, List.size_toArray, List.length_cons, List.length_nil, Nat.reduceAdd, Nat.reduceSub, Array.replicate_succ, Array.replicate_zero, List.push_toArray, List.append_toArray, List.nil_append, List.cons_append]
    gi_wp2_with (first
      | (refine ⟨trivial, ?_⟩; gi_at_call 48; refine (callsIn_wide.2 HCK.out).mono ?_; rintro e w1 ⟨rfl, hb1⟩; have HB1 := Lib.hid hb1; clear hb1)
      | (refine ⟨trivial, ?_⟩; gi_at_call 49; refine (callsIn_wide.2 (HRW.out _)).mono ?_; rintro e w2 ⟨rfl, hw2⟩; obtain ⟨hb2, hs2, hcap⟩ := HCP.out _ w2 hw2; have HS2 := Lib.hid hs2; have HB2 := Lib.hid hb2; have HCAP := Lib.hid hcap; clear hw2 hb2 hs2 hcap))
    have hs2 := HS2.out
    have hb2 := HB2.out
    have hat : At w2 w1.heap.size #[.slice none 0 0] 24 := (At.new w1 #[.slice none 0 0] 24).below hb2 (by simp)
    have hbw : Below w1.heap.size w1 w2 := ((Below.refl _ w1).alloc (Nat.le_refl _) _).trans (hb2.mono (by simp))
    simp only [World.size_alloc] at hs2
    unfold seqV
    refine range_x (gf := 96) (lb := #[.pointer (some ⟨w1.heap.size + 1 + 2, 0, none⟩), .pointer (some ⟨w1.heap.size + 1 + 1, 0, none⟩), .pointer (some ⟨w1.heap.size + 1, 0, none⟩)]) rfl (enters_of Tryd.func96 (by kernel_rfl) rfl) rfl
      (HG.out _ _ _) (Fst w1 w1.heap.size) (FstX w1 w1.heap.size) (fun k => k = w1.heap.size) ?hyp ?top (Fst.own (by omega)) (FstX.own (by omega)) ?start ?round ?done ?stop
    case hyp =>
      intro W1 hbW
      have hcap := HCAP.out (addX (fun k => k = w1.heap.size) (w2.heap.size + 1))
      simp only [World.size_alloc] at hcap
      refine (hcap ?_ fun k hk hk2 hx => ?_).below hbW
      · exact (rdx_low (HV.out.below HB1.out (Nat.le_refl _)) (fun k hk hx => by rcases hx with hx | hx <;> omega)).below ((Below.refl _ w1).alloc (Nat.le_refl _) _)
      · rcases hx with hx | hx <;> omega
    case top =>
      rintro pre X W ⟨h0, h1, h4, h5⟩ k hk
      rw [(h4 k).1 hk]
      exact h1.lt
    case start => exact ⟨rfl, hat, fun k => Iff.rfl, hbw⟩
    case round =>
      rintro l' pre r v X V hl1 hl2 hl3 ⟨rfl, h1, h4, h5⟩ hTp hv
      obtain ⟨va, vc, rfl⟩ := hv.rd.len
      have hc := h1.cell (i := 0) rfl
      have hf := h1.free 0
      have H1 := Lib.hid h1
      have H4 := Lib.hid h4
      have H5 := Lib.hid h5
      have HVV := Lib.hid hv
      clear h1 h4 h5 hv
      gi_wp2
      have hkept : Kept X X V (V.setCell ⟨w1.heap.size, 0, none⟩ (.slice va (nats r).length vc)) := by
        refine ⟨?_, fun k hk hx => ?_, fun k hk => .inl hk⟩
        · show V.heap.size ≤ (V.heap.modify _ _).size
          rw [Array.size_modify]; omega
        · exact Below.heap_setCell _ _ _ _ (fun e => hx ((H4.out k).2 e))
      refine ⟨hkept, ?_⟩
      intro V2 hg hnc
      have hro : ∀ x, some l' = some x → w2.heap.size ≤ x ∧ ∃ o : Obj, (V.setCell ⟨w1.heap.size, 0, none⟩ (.slice va (nats r).length vc)).heap[x]? = some o ∧ o.isCells = false := fun x e => by cases e; exact ⟨hl1, hnc⟩
      have hX1 : FstX w1 w1.heap.size (.exit 0) [r] X (V.setCell ⟨w1.heap.size, 0, none⟩ (.slice va (nats r).length vc)) :=
        ⟨rfl, r, .slice va (nats r).length vc, rfl, by simpa using H1.out.set 0 (.slice va (nats r).length vc), hkept.rd HVV.out, H4.out, H5.out.setCell (Nat.le_refl _) _⟩
      have HX2 := Lib.hid ((FstX.own (C := w2.heap.size) (by omega) _) _ _ _ _ _ hX1 hg hro)
      clear hX1 hkept
      gi_wp2
      exact ⟨X, HX2.out, Kept.refl _ _⟩
    case done =>
      rintro X V ⟨h0, _⟩ hD hdef
      have := HSM.out
      rw [List.nil_append] at h0
      rw [h0] at this
      exact absurd this (by simp)
    case stop =>
      rintro cc q X V hq ⟨rfl, r, v, h0, h1, h2, h4, h5⟩ hD hdef
      rw [List.nil_append] at h0
      subst h0
      have HHD : Hid (rows.headD [] = r) := by
        obtain ⟨t, ht⟩ := hq
        rw [← ht]; rfl
      obtain ⟨va, vc, rfl⟩ := h2.rd.len
      have hc := h1.cell (i := 0) rfl
      have H2 := Lib.hid h2
      have H5 := Lib.hid h5
      clear h1 h2 h4 h5 hq
      gi_wp2
      refine leaves_marks (fun V' => RdX X V' (.slice va (nats r).length vc) (nats r) ∧ Below w1.heap.size w1 V') (fun V' hg => ⟨.tuple #[.slice va (nats r).length vc, .int .i64 0], by simp [results, Tryd.results19, go_sem], _, rfl, by rw [HHD.out]; exact hg.1.rd, HB1.out.trans (hg.2.mono HB1.out.size)⟩) [w2.heap.size] V (by simp) (fun D hDm => ?_) (fun V' D hg hDm hw => ?_) ⟨H2.out, H5.out⟩
      · rw [List.mem_singleton.1 hDm]; exact hdef
      · rw [List.mem_singleton] at hDm
        subst hDm
        exact ⟨rd_own hg.1 (grownBy_putObj' V' w2.heap.size _) (fun k e => by cases e; exact ⟨_, hw, rfl⟩), hg.2.grown (grownBy_putObj' V' w2.heap.size _) hg.2.size (fun k e => by cases e; omega)⟩
  · rw [if_neg h0]
    obtain ⟨er, her⟩ : ∃ er, mayE A = er := ⟨_, rfl⟩
    rw [her] at HCK h0 ⊢
    have te : ((er : Int) != 0) = true := by simp; omega
    clear her h0
    go_enter Tryd.func19, Tryd.ntmps19
    go_wp2_with fail
    refine HCK.out.mono ?_
    rintro e w1 ⟨rfl, hb1⟩
    go_wp2
    refine bodyPost_ret (v := .tuple #[.slice none 0 0, .int .i64 er]) (by simp [results, Tryd.results19, go_sem]) rfl ⟨_, rfl, .inl ⟨rfl, _, _, rfl⟩, hb1⟩
end Go.Proofs.YtegpelpnbkdgcaaDoor
/- Plain words: rows that keep what graphs tell; the walk of the law's kept. -/
namespace Go.Proofs.YtegpelpnbkdgcaaDoor.WPlain
end Go.Proofs.YtegpelpnbkdgcaaDoor.WPlain
namespace Go.Proofs.YtegpelpnbkdgcaaDoor.QPlain
end Go.Proofs.YtegpelpnbkdgcaaDoor.QPlain
namespace Go.Proofs.YtegpelpnbkdgcaaDoor.RPlain
end Go.Proofs.YtegpelpnbkdgcaaDoor.RPlain
namespace Go.Proofs.YtegpelpnbkdgcaaDoor.RPlain
open WPlain QPlain

theorem gi_aft {l : List Tx} {c : Nat} {row : List Nat} {i k : Nat} (hi : i < l.length) (hk : k < l.length) : aft (buildS l c row) i k = behB l c row i k := by
  unfold aft
  rw [List.getD_eq_getElem?_getD, List.getElem?_eq_getElem (by rw [bld_len]; exact hi), Option.getD_some, bld_at, bitsN_test, decide_eq_true hk, Bool.true_and]
theorem gi_lt {l : List Tx} {c : Nat} {row : List Nat} : ∀ a ∈ buildS l c row, a < 2 ^ (buildS l c row).length := fun a ha => by
  unfold buildS at ha
  obtain ⟨i, _, rfl⟩ := List.mem_map.1 ha
  rw [bld_len]
  exact bitsN_lt _ _
theorem gi_may {l : List Tx} (h6 : l.length ≤ 6) (c : Nat) (row : List Nat) : mayE (buildS l c row) = 0 ∨ mayE (buildS l c row) = 8 := by
  unfold mayE
  have h1 : ¬ (6 < (buildS l c row).length ∨ ((buildS l c row).any fun a => decide (2 ^ (buildS l c row).length ≤ a)) = true) := by
    rintro (h | h)
    · rw [bld_len] at h; omega
    · obtain ⟨a, ha, h2⟩ := List.any_eq_true.1 h
      have := gi_lt a ha
      rw [decide_eq_true_eq] at h2
      omega
  rw [if_neg h1]
  split
  · exact .inr rfl
  · exact .inl rfl
theorem gi_whole {l : List Tx} {L row : List Nat} (hL : L.length = l.length) (h : row ∈ allS L) : Whole l row := by
  obtain ⟨h1, h2, h3⟩ := allS_mem.1 h
  have hn := goes_nodup h3
  exact ⟨hn, fun k => ⟨fun hk => hL ▸ h2 k hk, fun hk => nodup_full row L.length hn h2 h1 k (by omega)⟩⟩
/-- the first row that keeps what a graph tells -/
theorem gi_first {l : List Tx} {c : Nat} {R : List Nat} (hR : Whole l R) (hread : readS l c = true) (hm : mayE (buildS l c R) = 0) :
    ∃ F, (allS (buildS l c R)).headD [] = F ∧ Whole l F ∧ legalS l c F = F.length ∧ F.Pairwise fun b a => bfrAt l a b = false := by
  have hpos := allS_some (mayE_zero.1 hm).2.2
  have hmem : (allS (buildS l c R)).headD [] ∈ allS (buildS l c R) := by
    cases hc : allS (buildS l c R) with
    | nil => rw [hc] at hpos; exact absurd hpos (by simp)
    | cons x r => exact List.mem_cons_self ..
  have hF := gi_whole (bld_len l c R) hmem
  have hk : ((allS (buildS l c R)).headD []).Pairwise fun b a => behB l c R a b = false := by
    refine List.Pairwise.imp_of_mem (fun {b a} hb ha hg => ?_) (allS_mem.1 hmem).2.2
    have := hg.2
    rwa [gi_aft ((hF.mem a).1 ha) ((hF.mem b).1 hb)] at this
  exact ⟨_, rfl, hF, graph_legal hR hF hread hk, graph_order hk⟩
theorem gi_there {l : List Tx} {F : List Nat} (hF : Whole l F) : thereS l (F.map fun x : Nat => (x : Int)) = true := (thereS_iff _ _).2 fun i hi => by
  obtain ⟨k, hk, rfl⟩ := List.mem_map.1 hi
  have := (hF.mem k).1 hk
  omega
theorem gi_keeps {l : List Tx} {F : List Nat} (hF : Whole l F) (hk : F.Pairwise fun b a => bfrAt l a b = false) : keepsS l (F.map fun x : Nat => (x : Int)) = true := (keeps_nat l F).2 (List.pairwise_and_iff.2 ⟨hF.nodup.imp fun h hc => h hc.symm, hk⟩)
theorem gi_errP {h : List Ev} {F : List Nat} (h0 : (checkS h).2 = 0) (hF : Whole (tableS h) F) : errP h (F.map fun x : Nat => (x : Int)) = 0 := by unfold errP; rw [if_pos h0, if_pos (gi_there hF)]
theorem gi_errL {h : List Ev} {F : List Nat} (h0 : (checkS h).2 = 0) (hF : Whole (tableS h) F) : errL h (F.map fun x : Nat => (x : Int)) = 0 := by unfold errL; rw [if_pos h0, if_pos (gi_there hF), if_pos ((nodup_cast F).2 hF.nodup)]
/-- a row that is legal, and keeps the order: all that is asked of it -/
theorem gi_asked {h : List Ev} {cm : Nat} {row : List Int} (hg : errG h cm = 0) (hlen : row.length = (tableS h).length) (hL : errL h row = 0) (hk : keepsS (tableS h) row = true) (hn : legR h row cm = row.length) :
    ∃ rn : List Nat, row = rn.map (fun x : Nat => (x : Int)) ∧ Whole (tableS h) rn ∧ readS (tableS h) cm = true ∧ rn.Pairwise fun b a => behB (tableS h) cm rn a b = false := by
  obtain ⟨rn, rfl, hr, hnd, -⟩ := errL_nil hL
  rw [List.length_map] at hlen hn
  have hW : Whole (tableS h) rn := ⟨hnd, fun k => ⟨fun hk => hr k hk, fun hk => nodup_full rn _ hnd hr hlen k hk⟩⟩
  have hu := unique_iff.1 (errU_zero (errG_zero hg).1).2
  have hl : legalS (tableS h) cm rn = rn.length := by unfold legR at hn; rw [if_pos hL, natsR_cast] at hn; exact hn
  have hkp := ((keeps_nat _ _).1 hk).imp (fun h => h.2)
  exact ⟨rn, rfl, hW, legal_read hu hW hl, legal_keeps hu hW hkp hl⟩
/-- what kept asks, place by place -/
theorem gi_kept {l : List Tx} {c : Nat} {rn : List Nat} (hs : ∀ i, i < l.length → bfrAt l i i = false) (_hW : Whole l rn) (hk : rn.Pairwise fun b a => behB l c rn a b = false) {k : Nat} (hkl : k < rn.length) (hi : rn[k] < (buildS l c rn).length) :
    (buildS l c rn)[rn[k]] &&& (aheadN (rn.take k) ||| 2 ^ rn[k]) = 0 := by
  refine Nat.eq_of_testBit_eq fun j => ?_
  rw [Nat.testBit_and, Nat.testBit_or, Nat.testBit_two_pow, bld_at, bitsN_test, Nat.zero_testBit]
  cases ha : (aheadN (rn.take k)).testBit j with
  | true =>
    obtain ⟨p, hp, hpk, rfl⟩ := take_getElem_mem ((aheadN_bit _ _).1 ha)
    rw [List.pairwise_iff_getElem] at hk
    rw [hk p k hp hkl hpk]
    simp
  | false =>
    by_cases hj : rn[k] = j
    · subst hj
      rw [beh_self (hs _ (by rw [bld_len] at hi; exact hi))]
      simp
    · simp [hj]
end Go.Proofs.YtegpelpnbkdgcaaDoor.RPlain
namespace Go.Proofs.YtegpelpnbkdgcaaDoor
open Go.RowKit WPlain QPlain RPlain

set_option maxRecDepth 100000 in
set_option maxHeartbeats 4000000 in
theorem keptG_any (v rv : Value) (L rn : List Nat) (w : World) (hL6 : L.length ≤ 6) (hv : Rd w v (u32s L)) (hr : Rd w rv (ints (rn.map (fun x : Nat => (x : Int))))) (hl : rn.length ≤ 65536) (hlt : ∀ b ∈ rn, b < L.length) (hsm : ∀ i (hi : i < L.length), L[i] < 4294967296)
    (hk : ∀ k (hkl : k < rn.length) (hi : rn[k] < L.length), L[rn[k]] &&& (aheadN (rn.take k) ||| 2 ^ rn[k]) = 0) :
    Calls Tryd.prog 18 #[v, rv] w fun e w' => e = .returned (.bool true) ∧ Below w.heap.size w w' := by
  have HV := Lib.hid hv
  have HR := Lib.hid hr
  have HLT := Lib.hid hlt
  have HSM := Lib.hid hsm
  have HK := Lib.hid hk
  obtain ⟨va, vc, rfl⟩ := hv.len
  obtain ⟨ra, rc, rfl⟩ := hr.len
  have hul : (u32s L).length = L.length := by simp [u32s]
  rw [hul] at HV ⊢
  rw [ints_len, List.length_map] at HR ⊢
  clear hv hr hlt hsm hk
  go_enter Tryd.func18, Tryd.ntmps18
  go_wp2_with fail
  go_loopw [5, 10] (fun q x wr => ∃ k : Nat, k ≤ rn.length ∧ x = .int .i64 k ∧ q = .int .u32 (aheadN (rn.take k) : Nat) ∧ Hid (Below w.heap.size w wr)) (fun _ x _ => rn.length - (intOf x).toNat)
  case atStart => exact ⟨0, by omega, rfl, rfl, Below.refl _ _⟩
  case round =>
    obtain ⟨k, hk, rfl, rfl, HB⟩ := hrel
    by_cases hlt : k < rn.length
    · have hpl := HLT.out rn[k] (List.getElem_mem hlt)
      have HTK : Hid (aheadN (rn.take (k + 1)) = aheadN (rn.take k) ||| 2 ^ rn[k]) := by
        unfold Hid
        rw [List.take_succ_eq_append_getElem hlt, aheadN_snoc]
      have hA1 := pow_32 hL6 (aheadN_lt (row := rn.take k) (n := L.length) (fun p hp => HLT.out p (List.mem_of_mem_take hp)))
      have hA2 := HSM.out _ hpl
      have hA3 := two_32 hL6 hpl
      have hor := u32_or_nat _ _ hA1 hA3
      have hA4 : aheadN (rn.take k) ||| 2 ^ rn[k] < 4294967296 := Nat.or_lt_two_pow (n := 32) hA1 hA3
      have hand := u32_and_nat _ _ hA2 hA4
      rw [HK.out k hlt hpl] at hand
      have h2 : (2 : Int) ^ rn[k] = ((2 ^ rn[k] : Nat) : Int) := (Int.natCast_pow 2 _).symm
      have hpu : IntKind.u32.wrap ((2 : Int) ^ rn[k]) = ((2 ^ rn[k] : Nat) : Int) := by
        rw [h2]
        generalize 2 ^ rn[k] = z at hA3 ⊢
        exact IntWalk.u32_in _ (by omega)
      have hpm := pow_u32 (k := rn[k]) (by omega)
      obtain ⟨b, o, c', he, hbl, hcs⟩ := (HR.out.below HB.out (Nat.le_refl _)).opened (by rw [ints_len, List.length_map]; omega)
      simp only [Value.slice.injEq] at he
      obtain ⟨rfl, -, rfl⟩ := he
      have hck := hcs k (.int .i64 (rn[k] : Int)) (by unfold ints; rw [List.getElem?_map, List.getElem?_map, List.getElem?_eq_getElem hlt]; rfl)
      obtain ⟨b2, o2, c2, he2, hbl2, hcs2⟩ := (HV.out.below HB.out (Nat.le_refl _)).opened (by rw [hul]; omega)
      simp only [Value.slice.injEq] at he2
      obtain ⟨rfl, -, rfl⟩ := he2
      have hcp := hcs2 rn[k] (.int .u32 ((L[rn[k]] : Nat) : Int)) (by simp [u32s, hpl])
      clear hcs hcs2 hA1 hA2 hA4 h2 HK HSM
      generalize L[rn[k]] = af at *
      generalize aheadN (rn.take k) = ah at *
      generalize rn[k] = p at *
      have hp32 : min p 32 = p := by omega
      obtain ⟨pw, hpw⟩ : ∃ pw, 2 ^ p = pw := ⟨_, rfl⟩
      rw [hpw] at HTK hA3 hor hand hpu hpm
      clear hpw
      generalize ah ||| pw = oa at *
      have hpl2 : (p : Int) < (L.length : Int) := by omega
      have t0 : decide ((p : Int) < 0) = false := by simp
      have t1 : decide ((L.length : Int) ≤ (p : Int)) = false := by simp; omega
      go_upto_region 5 with fail
      go_quiet (fail)
      have HB4 := Lib.hid (below_drN HB.out nq)
      clear HB hck hcp
      go_wp2
      go_roundw
      case rel => exact ⟨k + 1, by omega, by go_num, by rw [HTK.out], HB4⟩
      case measure => simp [intOf]; omega
    · obtain rfl : k = rn.length := by omega
      go_wp2
      go_ret
      exact ⟨rfl, HB.out⟩
end Go.Proofs.YtegpelpnbkdgcaaDoor
