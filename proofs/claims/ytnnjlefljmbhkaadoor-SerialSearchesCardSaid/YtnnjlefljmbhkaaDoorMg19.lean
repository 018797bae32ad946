/- Merged: ExtJ, OrdJ, OrdP, SerA, SerB. -/
import Derived.Test.YtnnjlefljmbhkaaDoorExtI
import Derived.Test.YtnnjlefljmbhkaaDoorMg10
import Derived.Test.YtnnjlefljmbhkaaDoorMg9
import Derived.Test.YtnnjlefljmbhkaaDoorMg13
import Derived.Test.YtnnjlefljmbhkaaDoorMg16
import Derived.Test.YtnnjlefljmbhkaaDoorMg11
import Derived.BigQuiet
/- The walks of package extend's All, Count and First. -/
namespace Go.Proofs.YtnnjlefljmbhkaaDoor.RPlain
end Go.Proofs.YtnnjlefljmbhkaaDoor.RPlain
namespace Go.Proofs.YtnnjlefljmbhkaaDoor
open Go.RowKit Go.Shelf RPlain

attribute [local go_sem] Oper.semAt_some

theorem collect_any (A : List Nat) (hn : A.length ≤ 6) (hA : ∀ a ∈ A, a < 4294967296) (L R T : Nat) (w : World) (hC : ∀ X, (∀ k, k < w.heap.size → ¬ X k) → Cap A [] L R T X w) :
    Calls Tryd.prog 75 #[seqV L R T] w fun e w' => ∃ v vs, e = .returned v ∧ Rd w' v vs ∧ (∃ X, Rowl X w' vs (rowsS A)) ∧ SrcN v ∧ Below w.heap.size w w' := by
  have HS := Lib.hid (appendSeq_any A hn hA L R T w hC)
  clear hC
  generalize rowsS A = rows at *
  unfold seqV at *
  go_enter Tryd.func75, Tryd.ntmps75
  go_wp2_with fail
  refine HS.out.mono ?_
  rintro e w1 ⟨v, vs, rfl, h1, h2, h3, h4⟩
  obtain ⟨va, vc, rfl⟩ := h1.len
  go_wp2
  go_ret
  exact ⟨_, vs, rfl, h1, h2, h3, h4⟩
set_option maxRecDepth 100000 in
set_option maxHeartbeats 4000000 in
theorem all_any (a : Option Addr) (c : Nat) (A : List Nat) (w : World) (hv : Rd w (.slice a A.length c) (u32s A)) (hA : ∀ x ∈ A, x < 4294967296) (hl : A.length ≤ 65536) :
    Calls Tryd.prog 48 #[.slice a A.length c] w fun e w' => ∃ v vs, e = .returned (.tuple #[v, .int .i64 ((mayE A : Nat) : Int)]) ∧ Rd w' v vs ∧ (∃ X, Rowl X w' vs (if mayE A = 0 then allS A else [])) ∧ Below w.heap.size w w' := by
  have HCK := Lib.hid (checkX_any _ A w hv hA hl)
  have HV := Lib.hid hv
  by_cases h0 : mayE A = 0
  · obtain ⟨hn, _, hf⟩ := mayE_zero.1 h0
    have hro : rowsS A = allS A := rowsS_eq (self_free hf)
    rw [if_pos h0, ← hro]
    rw [h0] at HCK ⊢
    have HRW := Lib.hid (fun w1 => rows_any a c A hn w1)
    have HCP := Lib.hid (fun (w1 w2 : World) h => rows_cap (a := a) (c := c) (A := A) (w := w1) (w' := w2) h)
    have HCO := Lib.hid (fun (L R T : Nat) (w1 : World) h => collect_any A hn hA L R T w1 h)
    clear h0 hf hro hv
    generalize rowsS A = rows at *
    go_enter Tryd.func48, Tryd.ntmps48
    go_wp2_with fail
    refine HCK.out.mono ?_
    rintro e w1 ⟨rfl, hb1⟩
    have HB1 := Lib.hid hb1
    clear hb1
    go_wp2_with fail
    refine (HRW.out w1).mono ?_
    rintro e w2 ⟨rfl, hw2⟩
    obtain ⟨hb2, hs2, hcap⟩ := HCP.out w1 w2 hw2
    have HB2 := Lib.hid (HB1.out.trans (hb2.mono HB1.out.size))
    have HC2 := Lib.hid (HCO.out (w1.heap.size + 2) (w1.heap.size + 1) w1.heap.size w2 (fun X hX => hcap X (rdx_low (HV.out.below HB1.out (Nat.le_refl _)) (fun k hk => hX k (by omega))) (fun k _ hk => hX k (by omega))))
    clear hw2 hb2 hs2 hcap
    unfold seqV at *
    go_wp2_with fail
    refine HC2.out.mono ?_
    rintro e w3 ⟨v, vs, rfl, g1, g2, g3, g4⟩
    have HG1 := Lib.hid g1
    have HG4 := Lib.hid (HB2.out.trans (g4.mono HB2.out.size))
    have HG2 := Lib.hid g2
    obtain ⟨va, vc, rfl⟩ := g1.len
    clear g1 g2 g3 g4
    go_wp2
    refine bodyPost_ret (v := .tuple #[.slice va vs.length vc, .int .i64 0]) (by simp [results, Tryd.results48, go_sem]) rfl ⟨_, vs, rfl, HG1.out, HG2.out, HG4.out⟩
  · rw [if_neg h0]
    obtain ⟨er, her⟩ : ∃ er, mayE A = er := ⟨_, rfl⟩
    rw [her] at HCK h0 ⊢
    have te : ((er : Int) != 0) = true := by simp; omega
    clear her h0
    go_enter Tryd.func48, Tryd.ntmps48
    go_wp2_with fail
    refine HCK.out.mono ?_
    rintro e w1 ⟨rfl, hb1⟩
    go_wp2
    refine bodyPost_ret (v := .tuple #[.slice none 0 0, .int .i64 er]) (by simp [results, Tryd.results48, go_sem]) rfl ⟨_, [], rfl, .inl ⟨rfl, _, _, rfl⟩, ⟨fun _ => False, rfl, fun i hi => by cases hi⟩, hb1⟩
/-- what the loop that counts holds -/
def Cnt (w0 : World) (B : Nat) (pre : List (List Nat)) (X : Nat → Prop) (W : World) : Prop := At W B #[.int .i64 (pre.length : Int)] 3 ∧ (∀ k, X k ↔ k = B) ∧ Below B w0 W
theorem Cnt.own {w0 : World} {B C : Nat} (hC : B ≤ C) : OwnX C (Cnt w0 B) := by
  rintro pre X W W' r ⟨h1, h4, h5⟩ hg hr
  exact ⟨at_own h1 hg (fun k e => (hr k e).2), h4, h5.grown hg (by have := h1.lt; omega) (fun k e => Nat.le_trans hC (hr k e).1)⟩
/-- what the loop that stops at the first row holds -/
def Fst (w0 : World) (B : Nat) (pre : List (List Nat)) (X : Nat → Prop) (W : World) : Prop := pre = [] ∧ At W B #[.slice none 0 0] 24 ∧ (∀ k, X k ↔ k = B) ∧ Below B w0 W
def FstX (w0 : World) (B : Nat) (c : Code) (pre : List (List Nat)) (X : Nat → Prop) (W : World) : Prop :=
  c = .exit 0 ∧ ∃ r v, pre = [r] ∧ At W B #[v] 24 ∧ RdX X W v (nats r) ∧ (∀ k, X k ↔ k = B) ∧ Below B w0 W
theorem Fst.own {w0 : World} {B C : Nat} (hC : B ≤ C) : OwnX C (Fst w0 B) := by
  rintro pre X W W' r ⟨h0, h1, h4, h5⟩ hg hr
  exact ⟨h0, at_own h1 hg (fun k e => (hr k e).2), h4, h5.grown hg (by have := h1.lt; omega) (fun k e => Nat.le_trans hC (hr k e).1)⟩
theorem FstX.own {w0 : World} {B C : Nat} (hC : B ≤ C) (c : Code) : OwnX C (FstX w0 B c) := by
  rintro pre X W W' r ⟨h0, q, v, h1, h2, h3, h4, h5⟩ hg hr
  exact ⟨h0, q, v, h1, at_own h2 hg (fun k e => (hr k e).2), rd_own h3 hg (fun k e => (hr k e).2), h4, h5.grown hg (by have := h2.lt; omega) (fun k e => Nat.le_trans hC (hr k e).1)⟩
end Go.Proofs.YtnnjlefljmbhkaaDoor
/- The walks of the reference's Keeps and After. -/
namespace Go.Proofs.YtnnjlefljmbhkaaDoor.WPlain
end Go.Proofs.YtnnjlefljmbhkaaDoor.WPlain
namespace Go.Proofs.YtnnjlefljmbhkaaDoor.QPlain
end Go.Proofs.YtnnjlefljmbhkaaDoor.QPlain
namespace Go.Proofs.YtnnjlefljmbhkaaDoor.RPlain
end Go.Proofs.YtnnjlefljmbhkaaDoor.RPlain
namespace Go.Proofs.YtnnjlefljmbhkaaDoor
open Go.RowKit WPlain QPlain RPlain

/-- a place keeps the order to what is ahead of it, up to a place -/
def okIn (l : List Tx) (rn : List Nat) (i j : Nat) : Prop := ∀ b (_ : b < j) (hb : b < rn.length) (hi : i < rn.length), badP l (rn[i] : Int) (rn[b] : Int) = false
theorem okIn_next {l : List Tx} {rn : List Nat} {i j : Nat} (h : okIn l rn i j) (hn : ∀ (hb : j < rn.length) (hi : i < rn.length), badP l (rn[i] : Int) (rn[j] : Int) = false) : okIn l rn i (j + 1) := by
  intro b hbj hb hi
  by_cases hj : b = j
  · subst hj; exact hn hb hi
  · exact h b (by omega) hb hi
theorem okTo_in {l : List Tx} {rn : List Nat} {i : Nat} (hi : i < rn.length) (h : okTo l (rn.map (fun x : Nat => (x : Int))) i) (hn : okIn l rn i i) : okTo l (rn.map (fun x : Nat => (x : Int))) (i + 1) := by
  refine okTo_next (by simpa using hi) h fun b hb => ?_
  have := hn b hb (by omega) hi
  simpa using this
theorem keeps_in {l : List Tx} {rn : List Nat} {i j : Nat} (hi : i < rn.length) (hj : j < i) (hb : badP l (rn[i] : Int) (rn[j] : Int) = true) : keepsS l (rn.map (fun x : Nat => (x : Int))) = false := by
  refine keeps_not (i := i) (j := j) (by simpa using hi) hj ?_
  simpa using hb
theorem badP_nat {l : List Tx} {a b : Nat} (ha : a < l.length) (hb : b < l.length) : badP l (a : Int) (b : Int) = (decide (a = b) || bfr l[a] l[b]) := by
  unfold badP
  rw [Int.toNat_natCast, Int.toNat_natCast, List.getElem?_eq_getElem ha, List.getElem?_eq_getElem hb]
  congr 1
  exact decide_eq_decide.2 (by omega)
theorem bits_after (l : List Tx) {i : Nat} (hi : i < l.length) : bitsN (bfrAt l i) l.length = afterN l l[i] := by
  unfold afterN
  refine bitsN_congr _ fun k hk => ?_
  unfold bfrAt
  rw [List.getElem?_eq_getElem hi, List.getElem?_eq_getElem hk]
end Go.Proofs.YtnnjlefljmbhkaaDoor
/- Plain words: befores of a table's places. -/
namespace Go.Proofs.YtnnjlefljmbhkaaDoor.WPlain
end Go.Proofs.YtnnjlefljmbhkaaDoor.WPlain
namespace Go.Proofs.YtnnjlefljmbhkaaDoor.QPlain
end Go.Proofs.YtnnjlefljmbhkaaDoor.QPlain
namespace Go.Proofs.YtnnjlefljmbhkaaDoor.RPlain
open WPlain QPlain

theorem bfrAt_at {l : List Tx} {i k : Nat} (hi : i < l.length) (hk : k < l.length) : bfrAt l i k = bfr l[i] l[k] := by
  unfold bfrAt
  rw [List.getElem?_eq_getElem hi, List.getElem?_eq_getElem hk]
/-- what follows of two befores, of a table's places -/
theorem bfrAt_self {h : List Ev} {i : Nat} (hi : i < (tableS h).length) : bfrAt (tableS h) i i = false := by
  have hin : i < (namesOf h).length := by rw [tableS_len] at hi; exact hi
  rw [bfrAt_at hi hi, tableS_get hin]
  exact bfr_self h (List.getElem_mem hin)
theorem bfrAt_trans {h : List Ev} {i k m : Nat} (hi : i < (tableS h).length) (hk : k < (tableS h).length) (hm : m < (tableS h).length)
    (h1 : bfrAt (tableS h) i k = true) (h2 : bfrAt (tableS h) k m = true) : bfrAt (tableS h) i m = true := by
  have hin : i < (namesOf h).length := by rw [tableS_len] at hi; exact hi
  have hkn : k < (namesOf h).length := by rw [tableS_len] at hk; exact hk
  have hmn : m < (namesOf h).length := by rw [tableS_len] at hm; exact hm
  rw [bfrAt_at hi hk, tableS_get hin, tableS_get hkn] at h1
  rw [bfrAt_at hk hm, tableS_get hkn, tableS_get hmn] at h2
  rw [bfrAt_at hi hm, tableS_get hin, tableS_get hmn]
  exact bfr_trans h (List.getElem_mem hkn) h1 h2
theorem bfrAt_interval {h : List Ev} {i k m n : Nat} (hi : i < (tableS h).length) (hk : k < (tableS h).length) (hm : m < (tableS h).length) (hn : n < (tableS h).length)
    (h1 : bfrAt (tableS h) i k = true) (h2 : bfrAt (tableS h) m n = true) (h3 : bfrAt (tableS h) i n = false) : bfrAt (tableS h) m k = true := by
  have hin : i < (namesOf h).length := by rw [tableS_len] at hi; exact hi
  have hkn : k < (namesOf h).length := by rw [tableS_len] at hk; exact hk
  have hmn : m < (namesOf h).length := by rw [tableS_len] at hm; exact hm
  have hnn : n < (namesOf h).length := by rw [tableS_len] at hn; exact hn
  rw [bfrAt_at hi hk, tableS_get hin, tableS_get hkn] at h1
  rw [bfrAt_at hm hn, tableS_get hmn, tableS_get hnn] at h2
  rw [bfrAt_at hi hn, tableS_get hin, tableS_get hnn] at h3
  rw [bfrAt_at hm hk, tableS_get hmn, tableS_get hkn]
  rcases bfr_interval h h1 h2 with h4 | h4
  · rw [h3] at h4; cases h4
  · exact h4
end Go.Proofs.YtnnjlefljmbhkaaDoor.RPlain
/- Plain words: the search for a row that explains. -/
namespace Go.Proofs.YtnnjlefljmbhkaaDoor.WPlain
end Go.Proofs.YtnnjlefljmbhkaaDoor.WPlain
namespace Go.Proofs.YtnnjlefljmbhkaaDoor.QPlain
end Go.Proofs.YtnnjlefljmbhkaaDoor.QPlain
namespace Go.Proofs.YtnnjlefljmbhkaaDoor.RPlain
open WPlain QPlain

def leftS (l : List Tx) (who : Nat) (row : List Nat) : List Nat := (List.range l.length).filter fun k => who.testBit k && !row.contains k
def freeS (l : List Tx) (lft : List Nat) (k : Nat) : Bool := lft.all fun i => !bfrAt l i k
def okL (l : List Tx) (c : Nat) (row : List Nat) : Bool := decide (legalS l c row = row.length)
def loopS (B : Nat) (rec : List Nat → Nat → Nat × List Nat × Nat) (l : List Tx) (c : Nat) (lft row : List Nat) : List Nat → Nat → Nat × List Nat × Nat
  | [], s => (1, [], s)
  | k :: r, s => if freeS l lft k = false then loopS B rec l c lft row r s else if s = B then (2, [], s)
    else if okL l c (row ++ [k]) = true then (if (rec (row ++ [k]) (s + 1)).1 = 1 then loopS B rec l c lft row r (rec (row ++ [k]) (s + 1)).2.2 else rec (row ++ [k]) (s + 1)) else loopS B rec l c lft row r (s + 1)
def fromS (B : Nat) (l : List Tx) (who c : Nat) : Nat → List Nat → Nat → Nat × List Nat × Nat
  | 0, row, s => (0, row, s)
  | f + 1, row, s => if leftS l who row = [] then (0, row, s) else loopS B (fromS B l who c f) l c (leftS l who row) row (leftS l who row) s
def rowS (B : Nat) (l : List Tx) (who c : Nat) : Nat × List Nat × Nat := fromS B l who c (l.length + 1) [] 0
/-- choice by choice, each with those that it has to do with -/
def searchG (B : Nat) (l : List Tx) (W : Nat → Nat) : List Nat → Nat → Nat × Nat × List Nat × Nat
  | [], s => (1, 0, [], s)
  | c :: r, s => if (fromS B l (W c) c (l.length + 1) [] s).1 = 1 then searchG B l W r (fromS B l (W c) c (l.length + 1) [] s).2.2
    else ((fromS B l (W c) c (l.length + 1) [] s).1, (if (fromS B l (W c) c (l.length + 1) [] s).1 = 0 then c else 0), (fromS B l (W c) c (l.length + 1) [] s).2)
/-- the search for all; for those that commit alone -/
def searchS (B : Nat) (l : List Tx) : Nat × Nat × List Nat × Nat := searchG B l (fun _ => 2 ^ l.length - 1) (choicesS l) 0
def strictS (B : Nat) (l : List Tx) : Nat × Nat × List Nat × Nat := searchG B l (fun c => c) (choicesS l) 0

theorem left_mem {l : List Tx} {who : Nat} {row : List Nat} {k : Nat} : k ∈ leftS l who row ↔ k < l.length ∧ who.testBit k = true ∧ k ∉ row := by
  unfold leftS
  rw [List.mem_filter, List.mem_range]
  simp
theorem left_nodup (l : List Tx) (who : Nat) (row : List Nat) : (leftS l who row).Nodup := List.nodup_range.filter _
theorem left_next (l : List Tx) (who : Nat) (row : List Nat) (k : Nat) : leftS l who (row ++ [k]) = (leftS l who row).filter fun x => !decide (x = k) := by
  unfold leftS
  rw [List.filter_filter]
  refine List.filter_congr fun x _ => ?_
  by_cases hx : x = k
  · subst hx; simp
  · simp [hx]
theorem left_len {l : List Tx} {who : Nat} {row : List Nat} {k : Nat} (hk : k ∈ leftS l who row) : (leftS l who (row ++ [k])).length + 1 = (leftS l who row).length := by
  rw [left_next]
  have hn := left_nodup l who row
  generalize leftS l who row = L at *
  obtain ⟨a, b, rfl⟩ := List.append_of_mem hk
  rw [List.nodup_append] at hn
  obtain ⟨_, hb, hab⟩ := hn
  obtain ⟨hkb, _⟩ := List.nodup_cons.1 hb
  have h1 : a.filter (fun x => !decide (x = k)) = a := List.filter_eq_self.2 fun x hx => by
    have := hab x hx k (List.mem_cons_self ..)
    simpa using this
  have h2 : b.filter (fun x => !decide (x = k)) = b := List.filter_eq_self.2 fun x hx => by
    have : x ≠ k := fun hc => hkb (hc ▸ hx)
    simpa using this
  rw [List.filter_append, List.filter_cons, h1, h2]
  simp
  omega
/-- how many steps there may be -/
def mostW : Nat → Nat
  | 0 => 0
  | m + 1 => (m + 1) * (1 + mostW m)
theorem mostW_six : mostW 6 = 1956 := rfl
theorem mostW_mono : ∀ {a b : Nat}, a ≤ b → mostW a ≤ mostW b := by
  have h1 : ∀ m, mostW m ≤ mostW (m + 1) := fun m => by
    rw [mostW, Nat.succ_mul]
    omega
  intro a b h
  induction b with
  | zero => rw [Nat.le_zero.1 h]; exact Nat.le_refl _
  | succ b ih =>
    rcases Nat.lt_or_ge a (b + 1) with h2 | h2
    · exact Nat.le_trans (ih (by omega)) (h1 b)
    · rw [show a = b + 1 from by omega]; exact Nat.le_refl _
/-- what is always so of an answer: steps, and the verdict -/
structure Ans (B s w : Nat) (x : Nat × List Nat × Nat) : Prop where
  v : x.1 = 0 ∨ x.1 = 1 ∨ x.1 = 2
  ge : s ≤ x.2.2
  le : x.2.2 ≤ B
  most : x.2.2 ≤ s + w
  full : x.1 = 2 → x.2.2 = B ∧ B < s + w
  none : x.1 ≠ 0 → x.2.1 = []
theorem loop_ans {B : Nat} {rec : List Nat → Nat → Nat × List Nat × Nat} {l : List Tx} {c : Nat} {lft row : List Nat} {W : Nat} :
    ∀ (r : List Nat) (s : Nat), s ≤ B → (∀ k ∈ r, ∀ s, s ≤ B → Ans B s W (rec (row ++ [k]) s)) → Ans B s (r.length * (1 + W)) (loopS B rec l c lft row r s) := by
  intro r
  induction r with
  | nil => intro s hs _; exact ⟨.inr (.inl rfl), Nat.le_refl _, hs, by simp [loopS], fun h => (by cases h), fun _ => rfl⟩
  | cons k r ih =>
    intro s hs hrec
    have hlen : (k :: r).length * (1 + W) = r.length * (1 + W) + (1 + W) := by rw [List.length_cons, Nat.succ_mul]
    have hnext : ∀ s', s ≤ s' → s' ≤ s + 1 + W → s' ≤ B → Ans B s ((k :: r).length * (1 + W)) (loopS B rec l c lft row r s') := fun s' h1 h2 h3 => by
      have h := ih s' h3 (fun x hx => hrec x (List.mem_cons_of_mem _ hx))
      exact ⟨h.v, Nat.le_trans h1 h.ge, h.le, by have := h.most; omega, fun he => by have := h.full he; exact ⟨this.1, by omega⟩, h.none⟩
    rw [loopS]
    by_cases hf : freeS l lft k = false
    · rw [if_pos hf]; exact hnext s (Nat.le_refl _) (by omega) hs
    · rw [if_neg hf]
      by_cases hB : s = B
      · rw [if_pos hB]
        exact ⟨.inr (.inr rfl), Nat.le_refl _, hs, by dsimp only; omega, fun _ => ⟨hB, by omega⟩, fun _ => rfl⟩
      · rw [if_neg hB]
        by_cases ho : okL l c (row ++ [k]) = true
        · rw [if_pos ho]
          have h := hrec k (List.mem_cons_self ..) (s + 1) (by omega)
          by_cases hv : (rec (row ++ [k]) (s + 1)).1 = 1
          · rw [if_pos hv]
            exact hnext _ (by have := h.ge; omega) (by have := h.most; omega) h.le
          · rw [if_neg hv]
            exact ⟨h.v, by have := h.ge; omega, h.le, by have := h.most; omega, fun he => by have := h.full he; exact ⟨this.1, by omega⟩, h.none⟩
        · rw [if_neg ho]
          exact hnext _ (by omega) (by omega) (by omega)
theorem from_ans {B : Nat} {l : List Tx} {who c : Nat} : ∀ (f : Nat) (row : List Nat) (s : Nat), s ≤ B → (leftS l who row).length < f → Ans B s (mostW (leftS l who row).length) (fromS B l who c f row s) := by
  intro f
  induction f with
  | zero => intro row s _ h; omega
  | succ f ih =>
    intro row s hs hf
    rw [fromS]
    by_cases hl : leftS l who row = []
    · rw [if_pos hl]
      exact ⟨.inl rfl, Nat.le_refl _, hs, Nat.le_add_right _ _, fun h => (by cases h), fun h => absurd rfl h⟩
    · rw [if_neg hl]
      have hpos : 0 < (leftS l who row).length := List.length_pos_iff.2 hl
      obtain ⟨m, hm⟩ : ∃ m, (leftS l who row).length = m + 1 := ⟨(leftS l who row).length - 1, by omega⟩
      rw [hm, mostW, ← hm]
      refine loop_ans _ s hs fun k hk s' hs' => ?_
      have h1 := left_len hk
      have h2 := ih (row ++ [k]) s' hs' (by omega)
      rw [show (leftS l who (row ++ [k])).length = m from by omega] at h2
      exact h2
/-- a greater budget changes nothing of what is known -/
theorem loop_more {B B' : Nat} (hB : B ≤ B') {rec rec' : List Nat → Nat → Nat × List Nat × Nat} {l : List Tx} {c : Nat} {lft row : List Nat} :
    ∀ (r : List Nat) (s : Nat), s ≤ B → (∀ k ∈ r, ∀ s, s ≤ B → (rec (row ++ [k]) s).2.2 ≤ B ∧ ((rec (row ++ [k]) s).1 ≠ 2 → rec' (row ++ [k]) s = rec (row ++ [k]) s)) →
      (loopS B rec l c lft row r s).1 ≠ 2 → loopS B' rec' l c lft row r s = loopS B rec l c lft row r s := by
  intro r
  induction r with
  | nil => intro s _ _ _; rfl
  | cons k r ih =>
    intro s hs hrec hne
    have hr : ∀ x ∈ r, ∀ s, s ≤ B → (rec (row ++ [x]) s).2.2 ≤ B ∧ ((rec (row ++ [x]) s).1 ≠ 2 → rec' (row ++ [x]) s = rec (row ++ [x]) s) := fun x hx => hrec x (List.mem_cons_of_mem _ hx)
    rw [loopS] at hne ⊢
    rw [loopS]
    by_cases hf : freeS l lft k = false
    · rw [if_pos hf] at hne ⊢
      rw [if_pos hf]
      exact ih s hs hr hne
    · rw [if_neg hf] at hne ⊢
      rw [if_neg hf]
      by_cases hsB : s = B
      · rw [if_pos hsB] at hne; exact absurd rfl hne
      · rw [if_neg hsB] at hne ⊢
        rw [if_neg (show ¬ s = B' by omega)]
        by_cases ho : okL l c (row ++ [k]) = true
        · rw [if_pos ho] at hne ⊢
          rw [if_pos ho]
          obtain ⟨h1, h2⟩ := hrec k (List.mem_cons_self ..) (s + 1) (by omega)
          by_cases hv : (rec (row ++ [k]) (s + 1)).1 = 1
          · rw [if_pos hv] at hne ⊢
            have h3 := h2 (by omega)
            rw [h3, if_pos hv]
            exact ih _ h1 hr hne
          · rw [if_neg hv] at hne ⊢
            have h3 := h2 hne
            rw [h3, if_neg hv]
        · rw [if_neg ho] at hne ⊢
          rw [if_neg ho]
          exact ih _ (by omega) hr hne
theorem from_more {B B' : Nat} (hB : B ≤ B') {l : List Tx} {who c : Nat} : ∀ (f : Nat) (row : List Nat) (s : Nat), s ≤ B → (leftS l who row).length < f →
    (fromS B l who c f row s).1 ≠ 2 → fromS B' l who c f row s = fromS B l who c f row s := by
  intro f
  induction f with
  | zero => intro row s _ _ _; rfl
  | succ f ih =>
    intro row s hs hf hne
    rw [fromS] at hne ⊢
    rw [fromS]
    by_cases hl : leftS l who row = []
    · rw [if_pos hl, if_pos hl]
    · rw [if_neg hl] at hne ⊢
      rw [if_neg hl]
      refine loop_more hB _ s hs (fun k hk s' hs' => ?_) hne
      have h1 := left_len hk
      exact ⟨(from_ans f (row ++ [k]) s' hs' (by omega)).le, ih (row ++ [k]) s' hs' (by omega)⟩
end Go.Proofs.YtnnjlefljmbhkaaDoor.RPlain
/- Plain words: what is found explains; if nothing is, no row does. -/
namespace Go.Proofs.YtnnjlefljmbhkaaDoor.WPlain
end Go.Proofs.YtnnjlefljmbhkaaDoor.WPlain
namespace Go.Proofs.YtnnjlefljmbhkaaDoor.QPlain
end Go.Proofs.YtnnjlefljmbhkaaDoor.QPlain
namespace Go.Proofs.YtnnjlefljmbhkaaDoor.RPlain
open WPlain QPlain

/-- a way that the search goes, from a row on -/
def goodP (l : List Tx) (who c : Nat) : List Nat → List Nat → Prop
  | row, [] => leftS l who row = []
  | row, k :: t => k ∈ leftS l who row ∧ freeS l (leftS l who row) k = true ∧ okL l c (row ++ [k]) = true ∧ goodP l who c (row ++ [k]) t
theorem loop_found {B : Nat} {rec : List Nat → Nat → Nat × List Nat × Nat} {l : List Tx} {who c : Nat} {row : List Nat} :
    ∀ (r : List Nat) (s : Nat), (∀ k ∈ r, k ∈ leftS l who row) → (∀ k ∈ r, ∀ s, (rec (row ++ [k]) s).1 = 0 → ∃ t, (rec (row ++ [k]) s).2.1 = row ++ [k] ++ t ∧ goodP l who c (row ++ [k]) t) →
      (loopS B rec l c (leftS l who row) row r s).1 = 0 → ∃ t, (loopS B rec l c (leftS l who row) row r s).2.1 = row ++ t ∧ goodP l who c row t := by
  intro r
  induction r with
  | nil => intro s _ _ h; cases h
  | cons k r ih =>
    intro s hin hrec h
    have hnext := fun s' => ih s' (fun x hx => hin x (List.mem_cons_of_mem _ hx)) (fun x hx => hrec x (List.mem_cons_of_mem _ hx))
    rw [loopS] at h ⊢
    by_cases hf : freeS l (leftS l who row) k = false
    · rw [if_pos hf] at h ⊢; exact hnext s h
    · rw [if_neg hf] at h ⊢
      by_cases hB : s = B
      · rw [if_pos hB] at h; cases h
      · rw [if_neg hB] at h ⊢
        by_cases ho : okL l c (row ++ [k]) = true
        · rw [if_pos ho] at h ⊢
          by_cases hv : (rec (row ++ [k]) (s + 1)).1 = 1
          · rw [if_pos hv] at h ⊢; exact hnext _ h
          · rw [if_neg hv] at h ⊢
            obtain ⟨t, h1, h2⟩ := hrec k (List.mem_cons_self ..) (s + 1) h
            exact ⟨k :: t, by rw [h1, List.append_assoc]; rfl, hin k (List.mem_cons_self ..), by simpa using hf, ho, h2⟩
        · rw [if_neg ho] at h ⊢; exact hnext _ h
theorem from_found {B : Nat} {l : List Tx} {who c : Nat} : ∀ (f : Nat) (row : List Nat) (s : Nat), (leftS l who row).length < f → (fromS B l who c f row s).1 = 0 →
    ∃ t, (fromS B l who c f row s).2.1 = row ++ t ∧ goodP l who c row t := by
  intro f
  induction f with
  | zero => intro row s h; omega
  | succ f ih =>
    intro row s hf h
    rw [fromS] at h ⊢
    by_cases hl : leftS l who row = []
    · rw [if_pos hl]; exact ⟨[], by rw [List.append_nil], hl⟩
    · rw [if_neg hl] at h ⊢
      refine loop_found _ s (fun k hk => hk) (fun k hk s' h' => ?_) h
      have := left_len hk
      exact ih (row ++ [k]) s' (by omega) h'
theorem loop_none {B : Nat} {rec : List Nat → Nat → Nat × List Nat × Nat} {l : List Tx} {c : Nat} {lft row : List Nat} {G : Nat → Prop} :
    ∀ (r : List Nat) (s : Nat), (∀ k ∈ r, ∀ s, (rec (row ++ [k]) s).1 = 1 → ¬ G k) → (loopS B rec l c lft row r s).1 = 1 → ∀ k ∈ r, freeS l lft k = true → okL l c (row ++ [k]) = true → ¬ G k := by
  intro r
  induction r with
  | nil => intro s _ _ k hk; cases hk
  | cons x r ih =>
    intro s hrec h k hk hfr hok
    have hnext := fun s' => ih s' (fun y hy => hrec y (List.mem_cons_of_mem _ hy))
    rw [loopS] at h
    by_cases hf : freeS l lft x = false
    · rw [if_pos hf] at h
      rcases List.mem_cons.1 hk with rfl | hk
      · rw [hfr] at hf; cases hf
      · exact hnext s h k hk hfr hok
    · rw [if_neg hf] at h
      by_cases hB : s = B
      · rw [if_pos hB] at h; cases h
      · rw [if_neg hB] at h
        by_cases ho : okL l c (row ++ [x]) = true
        · rw [if_pos ho] at h
          by_cases hv : (rec (row ++ [x]) (s + 1)).1 = 1
          · rw [if_pos hv] at h
            rcases List.mem_cons.1 hk with rfl | hk
            · exact hrec _ (List.mem_cons_self ..) _ hv
            · exact hnext _ h k hk hfr hok
          · rw [if_neg hv] at h; exact absurd h hv
        · rw [if_neg ho] at h
          rcases List.mem_cons.1 hk with rfl | hk
          · exact absurd hok ho
          · exact hnext _ h k hk hfr hok
theorem from_none {B : Nat} {l : List Tx} {who c : Nat} : ∀ (f : Nat) (row : List Nat) (s : Nat), (leftS l who row).length < f → (fromS B l who c f row s).1 = 1 → ∀ t, ¬ goodP l who c row t := by
  intro f
  induction f with
  | zero => intro row s h; omega
  | succ f ih =>
    intro row s hf h t hg
    rw [fromS] at h
    by_cases hl : leftS l who row = []
    · rw [if_pos hl] at h; cases h
    · rw [if_neg hl] at h
      cases t with
      | nil => exact hl hg
      | cons k t =>
        obtain ⟨h1, h2, h3, h4⟩ := hg
        have hall := loop_none (G := fun k => ∃ t, goodP l who c (row ++ [k]) t) _ s (fun k hk s' h' => by
          have := left_len hk
          rintro ⟨t, ht⟩
          exact ih (row ++ [k]) s' (by omega) h' t ht) h k h1 h2 h3
        exact hall ⟨t, h4⟩
/-- rows that explain -/
structure Expl (l : List Tx) (who c : Nat) (row : List Nat) : Prop where
  nodup : row.Nodup
  mem : ∀ k, k ∈ row ↔ k < l.length ∧ who.testBit k = true
  keeps : row.Pairwise fun b a => bfrAt l a b = false
  legal : legalS l c row = row.length
theorem ok_app {l : List Tx} {c : Nat} {a b : List Nat} (h : okL l c (a ++ b) = true) : okL l c a = true := by
  unfold okL legalS at *
  rw [decide_eq_true_eq] at *
  have h1 := legal_take l c (a ++ b) a.length zeroM
  rw [List.take_left' rfl, h, List.length_append] at h1
  omega
theorem free_iff' {l : List Tx} {lft : List Nat} {k : Nat} : freeS l lft k = true ↔ ∀ i ∈ lft, bfrAt l i k = false := by
  unfold freeS
  rw [List.all_eq_true]
  simp
theorem good_iff {l : List Tx} {who c : Nat} (hself : ∀ i, i < l.length → bfrAt l i i = false) : ∀ (t row : List Nat), okL l c row = true →
    (goodP l who c row t ↔ t.Nodup ∧ (∀ k, k ∈ t ↔ k ∈ leftS l who row) ∧ (t.Pairwise fun b a => bfrAt l a b = false) ∧ okL l c (row ++ t) = true) := by
  intro t
  induction t with
  | nil =>
    intro row ho
    rw [List.append_nil]
    constructor
    · intro h
      have h' : leftS l who row = [] := h
      exact ⟨List.nodup_nil, fun k => by rw [h'], List.Pairwise.nil, ho⟩
    · rintro ⟨_, h, _, _⟩
      exact List.eq_nil_iff_forall_not_mem.2 fun k hk => by cases (h k).2 hk
  | cons k t ih =>
    intro row ho
    have happ : row ++ k :: t = row ++ [k] ++ t := by rw [List.append_assoc]; rfl
    have hmem : ∀ x, x ∈ leftS l who (row ++ [k]) ↔ x ∈ leftS l who row ∧ x ≠ k := fun x => by
      rw [left_next, List.mem_filter]
      simp
    constructor
    · rintro ⟨h1, h2, h3, h4⟩
      obtain ⟨g1, g2, g3, g4⟩ := (ih (row ++ [k]) h3).1 h4
      have hkt : k ∉ t := fun hc => ((hmem k).1 ((g2 k).1 hc)).2 rfl
      refine ⟨List.nodup_cons.2 ⟨hkt, g1⟩, fun x => ?_, List.pairwise_cons.2 ⟨fun x hx => free_iff'.1 h2 x ((hmem x).1 ((g2 x).1 hx)).1, g3⟩, by rw [happ]; exact g4⟩
      rw [List.mem_cons, g2, hmem]
      constructor
      · rintro (rfl | hx)
        · exact h1
        · exact hx.1
      · intro hx
        by_cases hxk : x = k
        · exact .inl hxk
        · exact .inr ⟨hx, hxk⟩
    · rintro ⟨h1, h2, h3, h4⟩
      obtain ⟨hkt, hnt⟩ := List.nodup_cons.1 h1
      obtain ⟨hk, hp⟩ := List.pairwise_cons.1 h3
      rw [happ] at h4
      have hok := ok_app h4
      have hkl := (h2 k).1 (List.mem_cons_self ..)
      refine ⟨hkl, free_iff'.2 fun i hi => ?_, hok, (ih (row ++ [k]) hok).2 ⟨hnt, fun x => ?_, hp, h4⟩⟩
      · rcases List.mem_cons.1 ((h2 i).2 hi) with rfl | hit
        · exact hself _ (left_mem.1 hi).1
        · exact hk i hit
      · rw [hmem, ← h2, List.mem_cons]
        constructor
        · intro hx; exact ⟨.inr hx, fun hc => hkt (hc ▸ hx)⟩
        · rintro ⟨rfl | hx, hne⟩
          · exact absurd rfl hne
          · exact hx
theorem good_expl {l : List Tx} {who c : Nat} (hself : ∀ i, i < l.length → bfrAt l i i = false) (t : List Nat) : goodP l who c [] t ↔ Expl l who c t := by
  rw [good_iff hself t [] (by simp [okL, legalS, legalG]), List.nil_append]
  have hm : ∀ k, k ∈ leftS l who [] ↔ k < l.length ∧ who.testBit k = true := fun k => by rw [left_mem]; simp
  constructor
  · rintro ⟨h1, h2, h3, h4⟩
    exact ⟨h1, fun k => (h2 k).trans (hm k), h3, by simpa [okL] using h4⟩
  · rintro ⟨h1, h2, h3, h4⟩
    exact ⟨h1, fun k => (h2 k).trans (hm k).symm, h3, by simpa [okL] using h4⟩
theorem left_le (l : List Tx) (who : Nat) (row : List Nat) : (leftS l who row).length ≤ l.length := by
  unfold leftS
  have := List.length_filter_le (fun k => who.testBit k && !row.contains k) (List.range l.length)
  rwa [List.length_range] at this
/-- what a row's search tells -/
theorem row_tells {B : Nat} {l : List Tx} {who c : Nat} (hself : ∀ i, i < l.length → bfrAt l i i = false) (s : Nat) (hs : s ≤ B) :
    Ans B s (mostW l.length) (fromS B l who c (l.length + 1) [] s) ∧ ((fromS B l who c (l.length + 1) [] s).1 = 0 → Expl l who c (fromS B l who c (l.length + 1) [] s).2.1) ∧
      ((fromS B l who c (l.length + 1) [] s).1 = 1 → ∀ t, ¬ Expl l who c t) := by
  have hle := left_le l who []
  have h1 := from_ans (B := B) (l := l) (who := who) (c := c) (l.length + 1) [] s hs (by omega)
  have hw := mostW_mono hle
  refine ⟨⟨h1.v, h1.ge, h1.le, by have := h1.most; omega, fun h => ⟨(h1.full h).1, by have := (h1.full h).2; omega⟩, h1.none⟩, fun h => ?_, fun h t ht => ?_⟩
  · obtain ⟨t, ht, hg⟩ := from_found (l.length + 1) [] s (by omega) h
    rw [ht, List.nil_append]
    exact (good_expl hself t).1 hg
  · exact from_none (l.length + 1) [] s (by omega) h t ((good_expl hself t).2 ht)
/-- with a budget that is enough, a row that explains is found -/
theorem row_yes {B : Nat} {l : List Tx} {who c : Nat} (hself : ∀ i, i < l.length → bfrAt l i i = false) (hB : mostW l.length ≤ B) {t : List Nat} (ht : Expl l who c t) : (rowS B l who c).1 = 0 := by
  obtain ⟨h1, _, h3⟩ := row_tells (B := B) (l := l) (who := who) (c := c) hself 0 (Nat.zero_le _)
  unfold rowS
  rcases h1.v with h | h | h
  · exact h
  · exact absurd ht (h3 h t)
  · have := (h1.full h).2; omega
/-- all choices -/
theorem search_tells {B : Nat} {l : List Tx} {W : Nat → Nat} (hself : ∀ i, i < l.length → bfrAt l i i = false) : ∀ (cs : List Nat) (s : Nat), s ≤ B →
    ((searchG B l W cs s).1 = 0 ∨ (searchG B l W cs s).1 = 1 ∨ (searchG B l W cs s).1 = 2) ∧ s ≤ (searchG B l W cs s).2.2.2 ∧ (searchG B l W cs s).2.2.2 ≤ B ∧
      ((searchG B l W cs s).1 = 2 → (searchG B l W cs s).2.2.2 = B ∧ B < s + cs.length * mostW l.length) ∧
      ((searchG B l W cs s).1 ≠ 0 → (searchG B l W cs s).2.1 = 0 ∧ (searchG B l W cs s).2.2.1 = []) ∧
      ((searchG B l W cs s).1 = 0 → (searchG B l W cs s).2.1 ∈ cs ∧ Expl l (W (searchG B l W cs s).2.1) (searchG B l W cs s).2.1 (searchG B l W cs s).2.2.1) ∧
      ((searchG B l W cs s).1 = 1 → ∀ c ∈ cs, ∀ t, ¬ Expl l (W c) c t) ∧ (searchG B l W cs s).2.2.2 ≤ s + cs.length * mostW l.length := by
  intro cs
  induction cs with
  | nil => intro s hs; exact ⟨.inr (.inl rfl), Nat.le_refl _, hs, fun h => (by cases h), fun _ => ⟨rfl, rfl⟩, fun h => (by cases h), fun _ c hc => (by cases hc), Nat.le_add_right _ _⟩
  | cons c r ih =>
    intro s hs
    obtain ⟨h1, h2, h3⟩ := row_tells (B := B) (l := l) (who := W c) (c := c) hself s hs
    have hmul : (c :: r).length * mostW l.length = r.length * mostW l.length + mostW l.length := by rw [List.length_cons, Nat.succ_mul]
    rw [searchG]
    by_cases hv : (fromS B l (W c) c (l.length + 1) [] s).1 = 1
    · rw [if_pos hv]
      obtain ⟨g1, g2, g3, g4, g5, g6, g7, g8⟩ := ih _ h1.le
      have hge := h1.ge
      have hmost := h1.most
      refine ⟨g1, by omega, g3, fun h => ⟨(g4 h).1, by have := (g4 h).2; omega⟩, g5, fun h => ⟨List.mem_cons_of_mem _ (g6 h).1, (g6 h).2⟩, fun h x hx => ?_, by omega⟩
      rcases List.mem_cons.1 hx with rfl | hx
      · exact h3 hv
      · exact g7 h x hx
    · rw [if_neg hv]
      refine ⟨h1.v, h1.ge, h1.le, fun h => ⟨(h1.full h).1, by have := (h1.full h).2; omega⟩, fun h => ⟨if_neg h, h1.none h⟩, fun h => ?_, fun h => absurd h hv, by dsimp only; have := h1.most; omega⟩
      rw [if_pos h]
      exact ⟨List.mem_cons_self .., h2 h⟩
theorem search_more {B B' : Nat} (hB : B ≤ B') {l : List Tx} {W : Nat → Nat} : ∀ (cs : List Nat) (s : Nat), s ≤ B → (searchG B l W cs s).1 ≠ 2 → searchG B' l W cs s = searchG B l W cs s := by
  intro cs
  induction cs with
  | nil => intro s _ _; rfl
  | cons c r ih =>
    intro s hs hne
    have hle := left_le l (W c) []
    have h1 := from_ans (B := B) (l := l) (who := W c) (c := c) (l.length + 1) [] s hs (by omega)
    have h2 := from_more hB (l := l) (who := W c) (c := c) (l.length + 1) [] s hs (by omega)
    rw [searchG] at hne ⊢
    rw [searchG]
    by_cases hv : (fromS B l (W c) c (l.length + 1) [] s).1 = 1
    · rw [if_pos hv] at hne ⊢
      rw [h2 (by omega), if_pos hv]
      exact ih _ h1.le hne
    · rw [if_neg hv] at hne ⊢
      rw [h2 hne, if_neg hv]
theorem choices_count (l : List Tx) : (choicesS l).length ≤ 64 := by
  unfold choicesS
  have := List.length_filter_le (choiceS l) (List.range 64)
  rwa [List.length_range] at this
/-- what the search for all tells -/
theorem search_known {B : Nat} {l : List Tx} {W : Nat → Nat} (hself : ∀ i, i < l.length → bfrAt l i i = false) (h6 : l.length ≤ 6) (hB : 125184 ≤ B) : (searchG B l W (choicesS l) 0).1 ≠ 2 := by
  intro hc
  have h1 := (search_tells (B := B) (W := W) hself (choicesS l) 0 (Nat.zero_le _)).2.2.2.1 hc
  have h2 := mostW_mono h6
  have h3 := Nat.mul_le_mul (choices_count l) h2
  rw [mostW_six] at h3
  omega
/-- some choice has a row: it is found; none has: not -/
theorem search_yes {B : Nat} {l : List Tx} {W : Nat → Nat} (hself : ∀ i, i < l.length → bfrAt l i i = false) (h6 : l.length ≤ 6) (hB : 125184 ≤ B) :
    (searchG B l W (choicesS l) 0).1 = 0 ↔ ∃ c ∈ choicesS l, ∃ t, Expl l (W c) c t := by
  obtain ⟨h1, _, _, _, _, h6', h7, _⟩ := search_tells (B := B) (W := W) hself (choicesS l) 0 (Nat.zero_le _)
  constructor
  · intro h; exact ⟨_, (h6' h).1, _, (h6' h).2⟩
  · rintro ⟨c, hc, t, ht⟩
    rcases h1 with h | h | h
    · exact h
    · exact absurd ht (h7 h c hc t)
    · exact absurd h (search_known hself h6 hB)
end Go.Proofs.YtnnjlefljmbhkaaDoor.RPlain
