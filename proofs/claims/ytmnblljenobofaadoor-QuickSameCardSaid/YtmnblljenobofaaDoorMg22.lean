/- Merged: GpiC, ExtJ, GpiA, QckB, FstS, SrlP. -/
import Derived.Test.YtmnblljenobofaaDoorMg21
import Derived.Test.YtmnblljenobofaaDoorExtI
import Derived.Test.YtmnblljenobofaaDoorMg13
import Derived.Test.YtmnblljenobofaaDoorMg8
import Derived.Test.YtmnblljenobofaaDoorMg6
import Derived.Test.YtmnblljenobofaaDoorMg7
import Derived.Test.YtmnblljenobofaaDoorExtD
import Derived.Test.YtmnblljenobofaaDoorMg12
/- Plain words: graphs as they are built; an int that fits. -/
namespace Go.Proofs.YtmnblljenobofaaDoor.WPlain
end Go.Proofs.YtmnblljenobofaaDoor.WPlain
namespace Go.Proofs.YtmnblljenobofaaDoor.QPlain
end Go.Proofs.YtmnblljenobofaaDoor.QPlain
namespace Go.Proofs.YtmnblljenobofaaDoor.RPlain
end Go.Proofs.YtmnblljenobofaaDoor.RPlain
namespace Go.Proofs.YtmnblljenobofaaDoor.RPlain
open WPlain QPlain

theorem bld_len (l : List Tx) (c : Nat) (rn : List Nat) : (buildS l c rn).length = l.length := by unfold buildS; rw [List.length_map, List.length_range]
theorem errB_zero {h : List Ev} {cm : Nat} {row : List Int} (h0 : errB h cm row = 0) : errG h cm = 0 ∧ wholeS (tableS h).length row = true ∧ readS (tableS h) cm = true := by
  by_cases hg : errG h cm = 0
  · cases hw : wholeS (tableS h).length row with
    | false => rw [errB_row hg hw] at h0; cases h0
    | true =>
      cases hr : readS (tableS h) cm with
      | false => rw [errB_read hg hw hr] at h0; cases h0
      | true => exact ⟨hg, rfl, rfl⟩
  · rw [errB_off hg] at h0
    exact absurd h0 hg
end Go.Proofs.YtmnblljenobofaaDoor.RPlain
namespace Go.Proofs.YtmnblljenobofaaDoor
open Go.RowKit WPlain QPlain RPlain

end Go.Proofs.YtmnblljenobofaaDoor
/- The walks of package extend's All, Count and First. -/
namespace Go.Proofs.YtmnblljenobofaaDoor.RPlain
end Go.Proofs.YtmnblljenobofaaDoor.RPlain
namespace Go.Proofs.YtmnblljenobofaaDoor
open Go.RowKit Go.Shelf RPlain

attribute [local go_sem] Oper.semAt_some

theorem collect_any (A : List Nat) (hn : A.length ≤ 6) (hA : ∀ a ∈ A, a < 4294967296) (L R T : Nat) (w : World) (hC : ∀ X, (∀ k, k < w.heap.size → ¬ X k) → Cap A [] L R T X w) :
    Calls Tryd.prog 50 #[seqV L R T] w fun e w' => ∃ v vs, e = .returned v ∧ Rd w' v vs ∧ (∃ X, Rowl X w' vs (rowsS A)) ∧ SrcN v ∧ Below w.heap.size w w' := by
  have HS := Lib.hid (appendSeq_any A hn hA L R T w hC)
  clear hC
  generalize rowsS A = rows at *
  unfold seqV at *
  go_enter Tryd.func50, Tryd.ntmps50
  go_wp2_with fail
  refine HS.out.mono ?_
  rintro e w1 ⟨v, vs, rfl, h1, h2, h3, h4⟩
  obtain ⟨va, vc, rfl⟩ := h1.len
  go_wp2
  go_ret
  exact ⟨_, vs, rfl, h1, h2, h3, h4⟩
set_option maxRecDepth 100000 in
set_option maxHeartbeats 4000000 in
theorem all_any (a : Option Addr) (c : Nat) (A : List Nat) (w : World) (hv : Rd w (.slice a A.length c) (u32s A)) (hA : ∀ x ∈ A, x < 4294967296) (hl : A.length ≤ 65536) :
    Calls Tryd.prog 31 #[.slice a A.length c] w fun e w' => ∃ v vs, e = .returned (.tuple #[v, .int .i64 ((mayE A : Nat) : Int)]) ∧ Rd w' v vs ∧ (∃ X, Rowl X w' vs (if mayE A = 0 then allS A else [])) ∧ Below w.heap.size w w' := by
  have HCK := Lib.hid (checkX_any _ A w hv hA hl)
  have HV := Lib.hid hv
  by_cases h0 : mayE A = 0
  · obtain ⟨hn, _, hf⟩ := mayE_zero.1 h0
    have hro : rowsS A = allS A := rowsS_eq (self_free hf)
    rw [if_pos h0, ← hro]
    rw [h0] at HCK ⊢
    have HRW := Lib.hid (fun w1 => rows_any a c A hn w1)
    have HCP := Lib.hid (fun (w1 w2 : World) h => rows_cap (a := a) (c := c) (A := A) (w := w1) (w' := w2) h)
    have HCO := Lib.hid (fun (L R T : Nat) (w1 : World) h => collect_any A hn hA L R T w1 h)
    clear h0 hf hro hv
    generalize rowsS A = rows at *
    go_enter Tryd.func31, Tryd.ntmps31
    go_wp2_with fail
    refine HCK.out.mono ?_
    rintro e w1 ⟨rfl, hb1⟩
    have HB1 := Lib.hid hb1
    clear hb1
    go_wp2_with fail
    refine (HRW.out w1).mono ?_
    rintro e w2 ⟨rfl, hw2⟩
    obtain ⟨hb2, hs2, hcap⟩ := HCP.out w1 w2 hw2
    have HB2 := Lib.hid (HB1.out.trans (hb2.mono HB1.out.size))
    have HC2 := Lib.hid (HCO.out (w1.heap.size + 2) (w1.heap.size + 1) w1.heap.size w2 (fun X hX => hcap X (rdx_low (HV.out.below HB1.out (Nat.le_refl _)) (fun k hk => hX k (by omega))) (fun k _ hk => hX k (by omega))))
    clear hw2 hb2 hs2 hcap
    unfold seqV at *
    go_wp2_with fail
    refine HC2.out.mono ?_
    rintro e w3 ⟨v, vs, rfl, g1, g2, g3, g4⟩
    have HG1 := Lib.hid g1
    have HG4 := Lib.hid (HB2.out.trans (g4.mono HB2.out.size))
    have HG2 := Lib.hid g2
    obtain ⟨va, vc, rfl⟩ := g1.len
    clear g1 g2 g3 g4
    go_wp2
    refine bodyPost_ret (v := .tuple #[.slice va vs.length vc, .int .i64 0]) (by simp [results, Tryd.results31, go_sem]) rfl ⟨_, vs, rfl, HG1.out, HG2.out, HG4.out⟩
  · rw [if_neg h0]
    obtain ⟨er, her⟩ : ∃ er, mayE A = er := ⟨_, rfl⟩
    rw [her] at HCK h0 ⊢
    have te : ((er : Int) != 0) = true := by simp; omega
    clear her h0
    go_enter Tryd.func31, Tryd.ntmps31
    go_wp2_with fail
    refine HCK.out.mono ?_
    rintro e w1 ⟨rfl, hb1⟩
    go_wp2
    refine bodyPost_ret (v := .tuple #[.slice none 0 0, .int .i64 er]) (by simp [results, Tryd.results31, go_sem]) rfl ⟨_, [], rfl, .inl ⟨rfl, _, _, rfl⟩, ⟨fun _ => False, rfl, fun i hi => by cases hi⟩, hb1⟩
/-- what the loop that counts holds -/
def Cnt (w0 : World) (B : Nat) (pre : List (List Nat)) (X : Nat → Prop) (W : World) : Prop := At W B #[.int .i64 (pre.length : Int)] 3 ∧ (∀ k, X k ↔ k = B) ∧ Below B w0 W
theorem Cnt.own {w0 : World} {B C : Nat} (hC : B ≤ C) : OwnX C (Cnt w0 B) := by
  rintro pre X W W' r ⟨h1, h4, h5⟩ hg hr
  exact ⟨at_own h1 hg (fun k e => (hr k e).2), h4, h5.grown hg (by have := h1.lt; omega) (fun k e => Nat.le_trans hC (hr k e).1)⟩
/-- what the loop that stops at the first row holds -/
def Fst (w0 : World) (B : Nat) (pre : List (List Nat)) (X : Nat → Prop) (W : World) : Prop := pre = [] ∧ At W B #[.slice none 0 0] 24 ∧ (∀ k, X k ↔ k = B) ∧ Below B w0 W
def FstX (w0 : World) (B : Nat) (c : Code) (pre : List (List Nat)) (X : Nat → Prop) (W : World) : Prop :=
  c = .exit 0 ∧ ∃ r v, pre = [r] ∧ At W B #[v] 24 ∧ RdX X W v (nats r) ∧ (∀ k, X k ↔ k = B) ∧ Below B w0 W
theorem Fst.own {w0 : World} {B C : Nat} (hC : B ≤ C) : OwnX C (Fst w0 B) := by
  rintro pre X W W' r ⟨h0, h1, h4, h5⟩ hg hr
  exact ⟨h0, at_own h1 hg (fun k e => (hr k e).2), h4, h5.grown hg (by have := h1.lt; omega) (fun k e => Nat.le_trans hC (hr k e).1)⟩
theorem FstX.own {w0 : World} {B C : Nat} (hC : B ≤ C) (c : Code) : OwnX C (FstX w0 B c) := by
  rintro pre X W W' r ⟨h0, q, v, h1, h2, h3, h4, h5⟩ hg hr
  exact ⟨h0, q, v, h1, at_own h2 hg (fun k e => (hr k e).2), rd_own h3 hg (fun k e => (hr k e).2), h4, h5.grown hg (by have := h2.lt; omega) (fun k e => Nat.le_trans hC (hr k e).1)⟩
end Go.Proofs.YtmnblljenobofaaDoor
/- Plain words: rows that keep what graphs tell; the walk of the law's kept. -/
namespace Go.Proofs.YtmnblljenobofaaDoor.WPlain
end Go.Proofs.YtmnblljenobofaaDoor.WPlain
namespace Go.Proofs.YtmnblljenobofaaDoor.QPlain
end Go.Proofs.YtmnblljenobofaaDoor.QPlain
namespace Go.Proofs.YtmnblljenobofaaDoor.RPlain
end Go.Proofs.YtmnblljenobofaaDoor.RPlain
namespace Go.Proofs.YtmnblljenobofaaDoor.RPlain
open WPlain QPlain

theorem gi_lt {l : List Tx} {c : Nat} {row : List Nat} : ∀ a ∈ buildS l c row, a < 2 ^ (buildS l c row).length := fun a ha => by
  unfold buildS at ha
  obtain ⟨i, _, rfl⟩ := List.mem_map.1 ha
  rw [bld_len]
  exact bitsN_lt _ _
theorem gi_may {l : List Tx} (h6 : l.length ≤ 6) (c : Nat) (row : List Nat) : mayE (buildS l c row) = 0 ∨ mayE (buildS l c row) = 8 := by
  unfold mayE
  have h1 : ¬ (6 < (buildS l c row).length ∨ ((buildS l c row).any fun a => decide (2 ^ (buildS l c row).length ≤ a)) = true) := by
    rintro (h | h)
    · rw [bld_len] at h; omega
    · obtain ⟨a, ha, h2⟩ := List.any_eq_true.1 h
      have := gi_lt a ha
      rw [decide_eq_true_eq] at h2
      omega
  rw [if_neg h1]
  split
  · exact .inr rfl
  · exact .inl rfl
theorem gi_whole {l : List Tx} {L row : List Nat} (hL : L.length = l.length) (h : row ∈ allS L) : Whole l row := by
  obtain ⟨h1, h2, h3⟩ := allS_mem.1 h
  have hn := goes_nodup h3
  exact ⟨hn, fun k => ⟨fun hk => hL ▸ h2 k hk, fun hk => nodup_full row L.length hn h2 h1 k (by omega)⟩⟩
end Go.Proofs.YtmnblljenobofaaDoor.RPlain
namespace Go.Proofs.YtmnblljenobofaaDoor
open Go.RowKit WPlain QPlain RPlain

end Go.Proofs.YtmnblljenobofaaDoor
/- Plain words of quick, step by step; rows of places that are read. -/
namespace Go.Proofs.YtmnblljenobofaaDoor.WPlain
end Go.Proofs.YtmnblljenobofaaDoor.WPlain
namespace Go.Proofs.YtmnblljenobofaaDoor.QPlain
end Go.Proofs.YtmnblljenobofaaDoor.QPlain
namespace Go.Proofs.YtmnblljenobofaaDoor.RPlain
end Go.Proofs.YtmnblljenobofaaDoor.RPlain
namespace Go.Proofs.YtmnblljenobofaaDoor
open Go.RowKit WPlain QPlain RPlain

theorem quick_filter {B : Nat} {l : List Tx} : ∀ (cs : List Nat) (s : Nat), quickG B l (cs.filter (readS l)) s = quickG B l cs s := by
  intro cs
  induction cs with
  | nil => intro s; rfl
  | cons c r ih =>
    intro s
    cases hr : readS l c with
    | false => rw [List.filter_cons_of_neg (by rw [hr]; decide), quickG, if_pos hr]; exact ih s
    | true => rw [List.filter_cons_of_pos hr]; simp only [quickG, hr, ih]
/-- what follows what a choice's rows tell -/
def nxtQ (B : Nat) (l : List Tx) (r : List Nat) (x : Nat × Nat × List Nat × Nat) : Nat × Nat × List Nat × Nat := if x.1 = 1 then quickG B l r x.2.2.2 else x
theorem quick_step {B : Nat} {l : List Tx} {c : Nat} {r : List Nat} {s : Nat} (hr : readS l c = true) : quickG B l (c :: r) s = nxtQ B l r (rowsQ B l c (allS (afterS l)) s) := by
  rw [quickG, if_neg (by rw [hr]; decide)]
  rfl
theorem rowsQ_end {B : Nat} {l : List Tx} {r : List Nat} {c s : Nat} : nxtQ B l r (rowsQ B l c [] s) = quickG B l r s := by
  rw [rowsQ, nxtQ, if_pos rfl]
theorem rowsQ_full {B : Nat} {l : List Tx} {r : List Nat} {c : Nat} {row : List Nat} {t : List (List Nat)} : nxtQ B l r (rowsQ B l c (row :: t) B) = (2, 0, [], B) := by
  rw [rowsQ, if_pos rfl, nxtQ, if_neg (by intro h; cases h)]
theorem rowsQ_hit {B : Nat} {l : List Tx} {r : List Nat} {c : Nat} {row : List Nat} {t : List (List Nat)} {s : Nat} (hs : s ≠ B) (hh : hitQ l c row = true) : nxtQ B l r (rowsQ B l c (row :: t) s) = (0, c, (allS (buildS l c row)).headD [], s + 1) := by
  rw [rowsQ, if_neg hs, if_pos hh, nxtQ, if_neg (by intro h; cases h)]
theorem rowsQ_miss {B : Nat} {l : List Tx} {r : List Nat} {c : Nat} {row : List Nat} {t : List (List Nat)} {s : Nat} (hs : s ≠ B) (hh : hitQ l c row = false) : nxtQ B l r (rowsQ B l c (row :: t) s) = nxtQ B l r (rowsQ B l c t (s + 1)) := by
  rw [rowsQ, if_neg hs, if_neg (by rw [hh]; decide)]
theorem quick_errG {h : List Ev} {c : Nat} (hu : errU h = 0) (hc : c < 2 ^ (tableS h).length) : errG h c = 0 := by
  unfold errG
  rw [if_pos hu, if_pos hc]
theorem quick_errB {h : List Ev} {c : Nat} {row : List Nat} (hu : errU h = 0) (hc : c < 2 ^ (tableS h).length) (hr : readS (tableS h) c = true) (hrow : row ∈ allS (afterS (tableS h))) : errB h c (row.map fun x : Nat => (x : Int)) = 0 :=
  errB_ok (quick_errG hu hc) (whole_iff.2 ⟨row, rfl, gi_whole (afterS_len _) hrow⟩) hr
theorem hit_may {l : List Tx} (h6 : l.length ≤ 6) (c : Nat) (row : List Nat) : (hitQ l c row = true ∧ mayE (buildS l c row) = 0) ∨ (hitQ l c row = false ∧ mayE (buildS l c row) = 8) := by
  unfold hitQ
  rcases gi_may h6 c row with h | h
  · exact .inl ⟨by rw [h]; rfl, h⟩
  · exact .inr ⟨by rw [h]; rfl, h⟩
theorem all_len {L row : List Nat} (h : row ∈ allS L) : row.length = L.length := (allS_mem.1 h).1
/-- a slice reads as rows of places -/
def RowsN (w : World) (v : Value) (rows : List (List Nat)) : Prop := ∃ vs, Rd w v vs ∧ vs.length = rows.length ∧ ∀ i (hi : i < rows.length) (h : i < vs.length), Rd w vs[i] (nats rows[i])
theorem RowsN.of {X : Nat → Prop} {w : World} {v : Value} {vs : List Value} {rows : List (List Nat)} (h : Rd w v vs) (hr : Rowl X w vs rows) : RowsN w v rows := ⟨vs, h, hr.1, fun i hi hi' => (hr.2 i hi hi').rd⟩
theorem RowsN.below {w w' : World} {v : Value} {rows : List (List Nat)} (h : RowsN w v rows) (hb : Below w.heap.size w w') : RowsN w' v rows := by
  obtain ⟨vs, h1, h2, h3⟩ := h
  exact ⟨vs, h1.below hb (Nat.le_refl _), h2, fun i hi hi' => (h3 i hi hi').below hb (Nat.le_refl _)⟩
theorem RowsN.len {w : World} {v : Value} {rows : List (List Nat)} (h : RowsN w v rows) : ∃ a c, v = .slice a rows.length c := by
  obtain ⟨vs, h1, h2, _⟩ := h
  rw [← h2]
  exact h1.len
theorem RowsN.get {w : World} {a : Option Addr} {n c : Nat} {rows : List (List Nat)} (h : RowsN w (.slice a n c) rows) (i : Nat) (hi : i < rows.length) :
    ∃ b o ra rc, a = some ⟨b, o, none⟩ ∧ b < w.heap.size ∧ w.cell? ⟨b, o + i, none⟩ = some (.slice ra rows[i].length rc) ∧ Rd w (.slice ra rows[i].length rc) (nats rows[i]) := by
  obtain ⟨vs, h1, h2, h3⟩ := h
  obtain ⟨b, o, c', he, hb, hc⟩ := h1.opened (by rw [h2]; omega)
  have hi' : i < vs.length := by rw [h2]; exact hi
  have hr := h3 i hi hi'
  obtain ⟨ra, rc, hg⟩ := hr.len
  rw [nats_len] at hg
  simp only [Value.slice.injEq] at he
  obtain ⟨rfl, -, -⟩ := he
  refine ⟨b, o, ra, rc, rfl, hb, hc i _ (by rw [List.getElem?_eq_getElem hi', hg]), ?_⟩
  rw [← hg]
  exact hr
end Go.Proofs.YtmnblljenobofaaDoor
/- The walk of package extend's First, its row with its place. -/
namespace Go.Proofs.YtmnblljenobofaaDoor.RPlain
end Go.Proofs.YtmnblljenobofaaDoor.RPlain
namespace Go.Proofs.YtmnblljenobofaaDoor
open Go.RowKit Go.Shelf RPlain

attribute [local go_sem] Oper.semAt_some

/-- what the loop that stops at the first row holds -/
def FstS (S : Nat → Prop) (w0 : World) (B : Nat) (pre : List (List Nat)) (X : Nat → Prop) (W : World) : Prop := pre = [] ∧ At W B #[.slice none 0 0] 24 ∧ (∀ k, X k ↔ S k ∨ k = B) ∧ Below B w0 W
def FstSX (S : Nat → Prop) (w0 : World) (B : Nat) (c : Code) (pre : List (List Nat)) (X : Nat → Prop) (W : World) : Prop :=
  c = .exit 0 ∧ ∃ r v, pre = [r] ∧ At W B #[v] 24 ∧ RdX X W v (nats r) ∧ (∀ k, X k ↔ S k ∨ k = B) ∧ Below B w0 W
theorem FstS.own {S : Nat → Prop} {w0 : World} {B C : Nat} (hC : B ≤ C) : OwnX C (FstS S w0 B) := by
  rintro pre X W W' r ⟨h0, h1, h4, h5⟩ hg hr
  exact ⟨h0, at_own h1 hg (fun k e => (hr k e).2), h4, h5.grown hg (by have := h1.lt; omega) (fun k e => Nat.le_trans hC (hr k e).1)⟩
theorem FstSX.own {S : Nat → Prop} {w0 : World} {B C : Nat} (hC : B ≤ C) (c : Code) : OwnX C (FstSX S w0 B c) := by
  rintro pre X W W' r ⟨h0, q, v, h1, h2, h3, h4, h5⟩ hg hr
  exact ⟨h0, q, v, h1, at_own h2 hg (fun k e => (hr k e).2), rd_own h3 hg (fun k e => (hr k e).2), h4, h5.grown hg (by have := h2.lt; omega) (fun k e => Nat.le_trans hC (hr k e).1)⟩
set_option maxRecDepth 100000 in
set_option maxHeartbeats 4000000 in
theorem firstS_any (S : Nat → Prop) (a : Option Addr) (c : Nat) (A : List Nat) (w : World) (hS : ∀ k, S k → k < w.heap.size) (hv : RdX S w (.slice a A.length c) (u32s A)) (hA : ∀ x ∈ A, x < 4294967296) (hl : A.length ≤ 65536) :
    Calls Tryd.prog 53 #[.slice a A.length c] w fun e w' => ∃ v, e = .returned (.tuple #[v, .int .i64 ((mayE A : Nat) : Int)]) ∧ RdX S w' v (nats (if mayE A = 0 then (allS A).headD [] else [])) ∧ Below w.heap.size w w' := by
  have HCK := Lib.hid (checkX_any _ A w hv.rd hA hl)
  have HV := Lib.hid hv
  by_cases h0 : mayE A = 0
  · obtain ⟨hn, _, hf⟩ := mayE_zero.1 h0
    have hro : rowsS A = allS A := rowsS_eq (self_free hf)
    have hsome := allS_some hf
    rw [← hro] at hsome
    rw [if_pos h0, ← hro]
    rw [h0] at HCK ⊢
    have HRW := Lib.hid (fun w1 => rows_any a c A hn w1)
    have HCP := Lib.hid (fun (w1 w2 : World) h => rows_cap (a := a) (c := c) (A := A) (w := w1) (w' := w2) h)
    have HG := Lib.hid (fun L R T => rows1_gives A hn hA (rowsS A) A.length [] List.nodup_nil (fun k hk => by cases hk) (by simp) L R T [] (by show ([] ++ rowsS A) <+: rowsS A; exact List.prefix_refl _))
    have hrs : extP A.length (nxR A) A.length [] = rowsS A := rfl
    rw [hrs] at HG
    clear h0 hf hro hv hrs
    generalize rowsS A = rows at *
    have HSM := Lib.hid hsome
    clear hsome
    refine (callsIn_wide (n := 6)).1 ?_
    refine callsIn_of_wp_marks Tryd.func53 rfl trivial ?_ rfl
    simp only [Tryd.ntmps53, List.size_toArray, List.length_cons, List.length_nil, Nat.reduceAdd, Nat.reduceSub, Array.replicate_succ, Array.replicate_zero, List.push_toArray, List.append_toArray, List.nil_append, List.cons_append]
    gi_wp2_with (first
      | (refine ⟨trivial, ?_⟩; gi_at_call 49; refine (callsIn_wide.2 HCK.out).mono ?_; rintro e w1 ⟨rfl, hb1⟩; have HB1 := Lib.hid hb1; clear hb1)
      | (refine ⟨trivial, ?_⟩; gi_at_call 51; refine (callsIn_wide.2 (HRW.out _)).mono ?_; rintro e w2 ⟨rfl, hw2⟩; obtain ⟨hb2, hs2, hcap⟩ := HCP.out _ w2 hw2; have HS2 := Lib.hid hs2; have HB2 := Lib.hid hb2; have HCAP := Lib.hid hcap; clear hw2 hb2 hs2 hcap))
    have hs2 := HS2.out
    have hb2 := HB2.out
    have hat : At w2 w1.heap.size #[.slice none 0 0] 24 := (At.new w1 #[.slice none 0 0] 24).below hb2 (by simp)
    have hbw : Below w1.heap.size w1 w2 := ((Below.refl _ w1).alloc (Nat.le_refl _) _).trans (hb2.mono (by simp))
    simp only [World.size_alloc] at hs2
    unfold seqV
    refine range_x (gf := 88) (lb := #[.pointer (some ⟨w1.heap.size + 1 + 2, 0, none⟩), .pointer (some ⟨w1.heap.size + 1 + 1, 0, none⟩), .pointer (some ⟨w1.heap.size + 1, 0, none⟩)]) rfl (enters_of Tryd.func88 (by kernel_rfl) rfl) rfl
      (HG.out _ _ _) (FstS S w1 w1.heap.size) (FstSX S w1 w1.heap.size) (fun k => S k ∨ k = w1.heap.size) ?hyp ?top (FstS.own (by omega)) (FstSX.own (by omega)) ?start ?round ?done ?stop
    case hyp =>
      intro W1 hbW
      have hcap := HCAP.out (addX (fun k => S k ∨ k = w1.heap.size) (w2.heap.size + 1))
      simp only [World.size_alloc] at hcap
      refine (hcap ?_ fun k hk hk2 hx => ?_).below hbW
      · exact ((HV.out.below HB1.out).more (fun k hk hx => by
          rcases hx with (hx | hx) | hx
          · exact hx
          · omega
          · omega)).below ((Below.refl _ w1).alloc (Nat.le_refl _) _)
      · rcases hx with (hx | hx) | hx
        · have := hS k hx
          have := HB1.out.size
          omega
        · omega
        · omega
    case top =>
      rintro pre X W ⟨h0, h1, h4, h5⟩ k hk
      have h7 := h1.lt
      rcases (h4 k).1 hk with h6 | h6
      · have := hS k h6
        have := HB1.out.size
        omega
      · omega
    case start => exact ⟨rfl, hat, fun k => Iff.rfl, hbw⟩
    case round =>
      rintro l' pre r v X V hl1 hl2 hl3 ⟨rfl, h1, h4, h5⟩ hTp hv
      obtain ⟨va, vc, rfl⟩ := hv.rd.len
      have hc := h1.cell (i := 0) rfl
      have hf := h1.free 0
      have H1 := Lib.hid h1
      have H4 := Lib.hid h4
      have H5 := Lib.hid h5
      have HVV := Lib.hid hv
      clear h1 h4 h5 hv
      gi_wp2
      have hkept : Kept X X V (V.setCell ⟨w1.heap.size, 0, none⟩ (.slice va (nats r).length vc)) := by
        refine ⟨?_, fun k hk hx => ?_, fun k hk => .inl hk⟩
        · show V.heap.size ≤ (V.heap.modify _ _).size
          rw [Array.size_modify]; omega
        · exact Below.heap_setCell _ _ _ _ (fun e => hx ((H4.out k).2 (.inr e)))
      refine ⟨hkept, ?_⟩
      intro V2 hg hnc
      have hro : ∀ x, some l' = some x → w2.heap.size ≤ x ∧ ∃ o : Obj, (V.setCell ⟨w1.heap.size, 0, none⟩ (.slice va (nats r).length vc)).heap[x]? = some o ∧ o.isCells = false := fun x e => by cases e; exact ⟨hl1, hnc⟩
      have hX1 : FstSX S w1 w1.heap.size (.exit 0) [r] X (V.setCell ⟨w1.heap.size, 0, none⟩ (.slice va (nats r).length vc)) :=
        ⟨rfl, r, .slice va (nats r).length vc, rfl, by simpa using H1.out.set 0 (.slice va (nats r).length vc), hkept.rd HVV.out, H4.out, H5.out.setCell (Nat.le_refl _) _⟩
      have HX2 := Lib.hid ((FstSX.own (C := w2.heap.size) (by omega) _) _ _ _ _ _ hX1 hg hro)
      clear hX1 hkept
      gi_wp2
      exact ⟨X, HX2.out, Kept.refl _ _⟩
    case done =>
      rintro X V ⟨h0, _⟩ hD hdef
      have := HSM.out
      rw [List.nil_append] at h0
      rw [h0] at this
      exact absurd this (by simp)
    case stop =>
      rintro cc q X V hq ⟨rfl, r, v, h0, h1, h2, h4, h5⟩ hD hdef
      rw [List.nil_append] at h0
      subst h0
      have HHD : Hid (rows.headD [] = r) := by
        obtain ⟨t, ht⟩ := hq
        rw [← ht]; rfl
      obtain ⟨va, vc, rfl⟩ := h2.rd.len
      have hc := h1.cell (i := 0) rfl
      have H2 := Lib.hid (h2.less (Y := S) (fun k hk => (h4 k).2 (.inl hk)))
      have H5 := Lib.hid h5
      clear h1 h2 h4 h5 hq
      gi_wp2
      refine leaves_marks (fun V' => RdX S V' (.slice va (nats r).length vc) (nats r) ∧ Below w1.heap.size w1 V') (fun V' hg => ⟨.tuple #[.slice va (nats r).length vc, .int .i64 0], by simp [results, Tryd.results53, go_sem], _, rfl, by rw [HHD.out]; exact hg.1, HB1.out.trans (hg.2.mono HB1.out.size)⟩) [w2.heap.size] V (by simp) (fun D hDm => ?_) (fun V' D hg hDm hw => ?_) ⟨H2.out, H5.out⟩
      · rw [List.mem_singleton.1 hDm]; exact hdef
      · rw [List.mem_singleton] at hDm
        subst hDm
        exact ⟨rd_own hg.1 (grownBy_putObj' V' w2.heap.size _) (fun k e => by cases e; exact ⟨_, hw, rfl⟩), hg.2.grown (grownBy_putObj' V' w2.heap.size _) hg.2.size (fun k e => by cases e; omega)⟩
  · rw [if_neg h0]
    obtain ⟨er, her⟩ : ∃ er, mayE A = er := ⟨_, rfl⟩
    rw [her] at HCK h0 ⊢
    have te : ((er : Int) != 0) = true := by simp; omega
    clear her h0
    go_enter Tryd.func53, Tryd.ntmps53
    go_wp2_with fail
    refine HCK.out.mono ?_
    rintro e w1 ⟨rfl, hb1⟩
    go_wp2
    refine bodyPost_ret (v := .tuple #[.slice none 0 0, .int .i64 er]) (by simp [results, Tryd.results53, go_sem]) rfl ⟨_, rfl, .inl ⟨rfl, _, _, rfl⟩, hb1⟩
end Go.Proofs.YtmnblljenobofaaDoor
/- Plain words: the places left as bits; a loop over all places, of which some are left. -/
namespace Go.Proofs.YtmnblljenobofaaDoor.WPlain
end Go.Proofs.YtmnblljenobofaaDoor.WPlain
namespace Go.Proofs.YtmnblljenobofaaDoor.QPlain
end Go.Proofs.YtmnblljenobofaaDoor.QPlain
namespace Go.Proofs.YtmnblljenobofaaDoor.RPlain
open WPlain QPlain

/-- those of who that are not in a row, as bits -/
def leftW (who : Nat) (row : List Nat) : Nat := row.foldl (fun acc k => lessN acc (2 ^ k)) who
theorem leftW_snoc (who : Nat) (row : List Nat) (k : Nat) : leftW who (row ++ [k]) = lessN (leftW who row) (2 ^ k) := by simp [leftW]
theorem leftW_lt {who : Nat} (h : who < 64) (row : List Nat) : leftW who row < 64 := by
  have : ∀ (r : List Nat) (x : Nat), x < 64 → r.foldl (fun acc k => lessN acc (2 ^ k)) x < 64 := by
    intro r
    induction r with
    | nil => intro x h; exact h
    | cons k t ih => intro x h; exact ih _ (Nat.lt_of_le_of_lt (lessN_le _ _) h)
  exact this row _ h
theorem pow_le_64 {n : Nat} (h : n ≤ 6) : 2 ^ n ≤ 64 := Nat.pow_le_pow_right (n := 2) (i := n) (j := 6) (by decide) h
theorem leftW_test {l : List Tx} {who : Nat} {row : List Nat} (h6 : l.length ≤ 6) (hw : who < 2 ^ l.length) (hr : ∀ k ∈ row, k < l.length) (j : Nat) : (leftW who row).testBit j = decide (j ∈ leftS l who row) := by
  have hw64 := Nat.lt_of_lt_of_le hw (pow_le_64 h6)
  unfold leftW
  rw [left_fold j row who hw64 (fun k hk => by have := hr k hk; omega), Bool.eq_iff_iff, decide_eq_true_eq, left_mem, Bool.and_eq_true]
  constructor
  · rintro ⟨h1, h2⟩
    refine ⟨?_, h1, by simpa using h2⟩
    rcases Nat.lt_or_ge j l.length with h | h
    · exact h
    · rw [Nat.testBit_lt_two_pow (Nat.lt_of_lt_of_le hw (Nat.pow_le_pow_right (by decide) h))] at h1
      cases h1
  · rintro ⟨_, h2, h3⟩
    exact ⟨h2, by simpa using h3⟩
theorem leftW_zero {l : List Tx} {who : Nat} {row : List Nat} (h6 : l.length ≤ 6) (hw : who < 2 ^ l.length) (hr : ∀ k ∈ row, k < l.length) : leftW who row = 0 ↔ leftS l who row = [] := by
  constructor
  · intro h
    refine List.eq_nil_iff_forall_not_mem.2 fun k hk => ?_
    have h1 := leftW_test h6 hw hr k
    rw [h, Nat.zero_testBit, decide_eq_true hk] at h1
    cases h1
  · intro h
    refine Nat.eq_of_testBit_eq fun j => ?_
    rw [leftW_test h6 hw hr, h, Nat.zero_testBit]
    simp
theorem after_lt (l : List Tx) (h6 : l.length ≤ 6) : ∀ a ∈ afterS l, a < 64 := fun a ha => by
  obtain ⟨X, _, rfl⟩ := List.mem_map.1 ha
  exact Nat.lt_of_lt_of_le (afterN_lt _ _) (pow_le_64 h6)
/-- may a place come next? -/
theorem next_free {l : List Tx} {who : Nat} {row : List Nat} (h6 : l.length ≤ 6) (hw : who < 2 ^ l.length) (hr : ∀ k ∈ row, k < l.length) (k : Nat) :
    (nextS (afterS l) (leftW who row) (afterS l).length).testBit k = (decide (k ∈ leftS l who row) && freeS l (leftS l who row) k) := by
  have h64 := leftW_lt (Nat.lt_of_lt_of_le hw (pow_le_64 h6)) row
  rw [nextS_test (fun a ha => by have := after_lt l h6 a ha; omega) (by omega), leftW_test h6 hw hr, afterS_len]
  congr 1
  rw [Bool.eq_iff_iff, List.all_eq_true, free_iff']
  constructor
  · intro h i hi
    have hi2 := (left_mem.1 hi).1
    have h1 := h i (List.mem_range.2 hi2)
    rw [leftW_test h6 hw hr, decide_eq_true hi, aft_after] at h1
    simpa using h1
  · intro h i hi
    rw [leftW_test h6 hw hr, aft_after]
    by_cases hm : i ∈ leftS l who row
    · rw [h i hm]; simp
    · simp [hm]
/-- those left from a place on -/
def restS (l : List Tx) (who : Nat) (row : List Nat) (p : Nat) : List Nat := ((List.range l.length).drop p).filter fun k => who.testBit k && !row.contains k
theorem rest_end (l : List Tx) (who : Nat) (row : List Nat) : restS l who row l.length = [] := by
  unfold restS
  rw [List.drop_eq_nil_of_le (by simp)]; rfl
theorem rest_next {l : List Tx} {who : Nat} {row : List Nat} {p : Nat} (hp : p < l.length) : restS l who row p = if p ∈ leftS l who row then p :: restS l who row (p + 1) else restS l who row (p + 1) := by
  unfold restS
  rw [List.drop_eq_getElem_cons (by simpa using hp), List.getElem_range, List.filter_cons]
  by_cases h : p ∈ leftS l who row
  · rw [if_pos h, if_pos]
    have := left_mem.1 h
    simp [this.2.1, this.2.2]
  · rw [if_neg h, if_neg]
    intro hc
    refine h (left_mem.2 ⟨hp, ?_⟩)
    simpa using hc
/-- a round of the loop: a place that may not come, and one that may -/
theorem rest_skip {B : Nat} {rec : List Nat → Nat → Nat × List Nat × Nat} {l : List Tx} {who c : Nat} {row : List Nat} {p s : Nat} (hp : p < l.length)
    (h : (decide (p ∈ leftS l who row) && freeS l (leftS l who row) p) = false) :
    loopS B rec l c (leftS l who row) row (restS l who row p) s = loopS B rec l c (leftS l who row) row (restS l who row (p + 1)) s := by
  rw [rest_next hp]
  by_cases hm : p ∈ leftS l who row
  · rw [if_pos hm, loopS, if_pos (by simpa [hm] using h)]
  · rw [if_neg hm]
theorem rest_step {B : Nat} {rec : List Nat → Nat → Nat × List Nat × Nat} {l : List Tx} {who c : Nat} {row : List Nat} {p s : Nat} (hp : p < l.length)
    (h : (decide (p ∈ leftS l who row) && freeS l (leftS l who row) p) = true) :
    loopS B rec l c (leftS l who row) row (restS l who row p) s = if s = B then (2, [], s)
    else if okL l c (row ++ [p]) = true then (if (rec (row ++ [p]) (s + 1)).1 = 1 then loopS B rec l c (leftS l who row) row (restS l who row (p + 1)) (rec (row ++ [p]) (s + 1)).2.2 else rec (row ++ [p]) (s + 1))
      else loopS B rec l c (leftS l who row) row (restS l who row (p + 1)) (s + 1) := by
  rw [Bool.and_eq_true, decide_eq_true_eq] at h
  rw [rest_next hp, if_pos h.1, loopS, if_neg (by rw [h.2]; decide)]
end Go.Proofs.YtmnblljenobofaaDoor.RPlain
