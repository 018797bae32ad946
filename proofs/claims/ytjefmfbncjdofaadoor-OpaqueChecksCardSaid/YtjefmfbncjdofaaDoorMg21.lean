/- Merged: SrlK, SrlS, SrlF, SrlO, SerP, PfxA, PfxB, PrpR, PfxC, PfxN. -/
import Derived.Test.YtjefmfbncjdofaaDoorSrlC
import Derived.Test.YtjefmfbncjdofaaDoorMg13
import Derived.Test.YtjefmfbncjdofaaDoorMg20
import Derived.Test.YtjefmfbncjdofaaDoorMg10
import Derived.Test.YtjefmfbncjdofaaDoorSrlD
import Derived.Test.YtjefmfbncjdofaaDoorMg9
import Derived.Test.YtjefmfbncjdofaaDoorMg18
import Derived.Test.YtjefmfbncjdofaaDoorMg6
import Derived.Test.YtjefmfbncjdofaaDoorSrlJ
import Derived.Test.YtjefmfbncjdofaaDoorMg7
import Derived.Test.YtjefmfbncjdofaaDoorMg4
import Derived.Test.YtjefmfbncjdofaaDoorMg3
import Derived.Test.YtjefmfbncjdofaaDoorMg5
import Derived.Test.YtjefmfbncjdofaaDoorShelf
import Derived.Test.YtjefmfbncjdofaaDoorMg1
import Derived.Test.YtjefmfbncjdofaaDoorMg2
import Derived.Test.YtjefmfbncjdofaaDoorTabF
import Derived.Test.YtjefmfbncjdofaaDoorTxtS
import Derived.BigQuiet
import Derived.Deep.Cut
import Derived.Deep.DeepCutAuto
import Derived.Deep.CutRange
import Derived.Shelf.Abstract
import Derived.WalkKit
import Derived.OwnWalkIn
import Derived.TacticsInMore
import Derived.LoopNIn
import Derived.LoopIn
import Derived.RangeFuncLeaves
import Derived.Deep.RegionHeld
import Derived.Deep.DeepMust
import Derived.Laws.OwnMore
import Derived.Laws.IdiomCopy
import Derived.WalkLawsBesides
import Derived.Shelf.SlSortCmp.QuietGrown
import Derived.Deep.QuietTactic
import Derived.Laws.StructEq
/- The walks of recantref01's Ints at any two rows, of slices.Equal, and of both packages' call that tells whether two findings are the same. -/
namespace Go.Proofs.YtjefmfbncjdofaaDoor.WPlain
end Go.Proofs.YtjefmfbncjdofaaDoor.WPlain
namespace Go.Proofs.YtjefmfbncjdofaaDoor.QPlain
end Go.Proofs.YtjefmfbncjdofaaDoor.QPlain
namespace Go.Proofs.YtjefmfbncjdofaaDoor.RPlain
end Go.Proofs.YtjefmfbncjdofaaDoor.RPlain
namespace Go.Proofs.YtjefmfbncjdofaaDoor
open Go.RowKit WPlain QPlain RPlain

theorem beq_false' {a b : Int} (h : ¬ a = b) : (a == b) = false := by rw [beq_eq_false_iff_ne]; exact h
theorem ints_getI {xs : List Int} {k : Nat} (h : k < xs.length) : (ints xs)[k]? = some (.int .i64 xs[k]) := by
  unfold ints
  rw [List.getElem?_map, List.getElem?_eq_getElem h]; rfl
theorem take_differ {xs ys : List Int} {k : Nat} (hx : k < xs.length) (_hy : k < ys.length) (h : ¬ xs[k] = ys[k]) : ¬ xs = ys := by
  rintro rfl
  exact h rfl
set_option maxRecDepth 100000 in
set_option maxHeartbeats 1000000 in
theorem refIntsD_any (v1 v2 : Value) (xs ys : List Int) (w : World) (h1 : Rd w v1 (ints xs)) (h2 : Rd w v2 (ints ys)) (hx : xs.length ≤ 65536) :
    Calls Tryd.prog 20 #[v1, v2] w fun e w' => e = .returned (.bool (decide (xs = ys))) ∧ ∃ n, w' = w.drewN n := by
  have H1 := Lib.hid h1
  have H2 := Lib.hid h2
  obtain ⟨a1, c1, rfl⟩ := h1.len
  obtain ⟨a2, c2, rfl⟩ := h2.len
  rw [ints_len] at H1 H2 ⊢
  rw [ints_len]
  clear h1 h2
  by_cases hl : xs.length = ys.length
  · have HL := Lib.hid hl
    have HD := Lib.hid (fun (k : Nat) (hx : k < xs.length) (hy : k < ys.length) (h : ¬ xs[k] = ys[k]) => take_differ hx hy h)
    obtain ⟨res, hres⟩ : ∃ res, decide (xs = ys) = res := ⟨_, rfl⟩
    have HRES := Lib.hid hres
    rw [hres]
    have HT0 : Hid (xs.take 0 = ys.take 0) := rfl
    have HNX : Hid (∀ k (hx : k < xs.length) (hy : k < ys.length), xs.take k = ys.take k → xs[k] = ys[k] → xs.take (k + 1) = ys.take (k + 1)) := fun k hx hy h1 h2 => by
      rw [List.take_succ_eq_append_getElem hx, List.take_succ_eq_append_getElem hy, h1, h2]
    have HFN : Hid (xs.take xs.length = ys.take xs.length → xs = ys) := fun h => by
      rw [List.take_length, hl, List.take_length] at h
      exact h
    obtain ⟨nx, hnx⟩ : ∃ nx, xs.length = nx := ⟨_, rfl⟩
    obtain ⟨ny, hny⟩ : ∃ ny, ys.length = ny := ⟨_, rfl⟩
    have tl : ((nx : Int) != (ny : Int)) = false := by simp; omega
    have HNXE := Lib.hid hnx
    have HNYE := Lib.hid hny
    rw [hnx] at H1 hx ⊢
    rw [hny] at H2 ⊢
    have hxy : nx ≤ ny ∧ ny ≤ nx := by omega
    clear hl hres hnx hny
    obtain ⟨hxy1, hxy2⟩ := hxy
    go_enter Tryd.func20, Tryd.ntmps20
    go_wp2_with fail
    go_loopw [13] (fun x wr => ∃ k n : Nat, k ≤ nx ∧ x = .int .i64 k ∧ Hid (xs.take k = ys.take k) ∧ wr = w.drewN n) (fun x _ => nx - (intOf x).toNat)
    case atStart => exact ⟨0, 0, by omega, rfl, HT0, rfl⟩
    case round =>
      clear HT0
      obtain ⟨k, n, hk, rfl, HT, rfl⟩ := hrel
      by_cases hlt : k < nx
      · have hkx : k < xs.length := by have := HNXE.out; omega
        have hky : k < ys.length := by have := HNYE.out; omega
        obtain ⟨b1, o1, d1, he1, -, hc1⟩ := H1.out.opened (by rw [ints_len]; omega)
        obtain ⟨b2, o2, d2, he2, -, hc2⟩ := H2.out.opened (by rw [ints_len]; omega)
        have g1 := hc1 k _ (ints_getI hkx)
        have g2 := hc2 k _ (ints_getI hky)
        rw [ints_len, HNXE.out] at he1
        rw [ints_len, HNYE.out] at he2
        simp only [Value.slice.injEq] at he1 he2
        obtain ⟨rfl, -, rfl⟩ := he1
        obtain ⟨rfl, -, rfl⟩ := he2
        have HDK := Lib.hid (HD.out k hkx hky)
        have HNK := Lib.hid (HNX.out k hkx hky HT.out)
        have k1 : (k : Int) < (nx : Int) := by omega
        have k2 : (k : Int) < (ny : Int) := by omega
        clear hc1 hc2 HT
        generalize xs[k] = y at *
        generalize ys[k] = z at *
        clear hkx hky
        by_cases hyz : y = z
        · have HT2 := Lib.hid (HNK.out hyz)
          subst hyz
          clear HDK HNK
          go_wp2
          go_quiet (fail)
          go_wp2
          go_roundw
          case rel => exact ⟨k + 1, _, by omega, by go_num, HT2, rfl⟩
          case measure => simp [intOf]; omega
        · have HF : Hid (res = false) := by
            unfold Hid
            rw [← HRES.out]
            exact decide_eq_false (HDK.out hyz)
          have tne : (y != z) = true := by simp [hyz]
          clear HDK HNK
          go_wp2
          go_quiet (fail)
          go_wp2
          go_ret
          exact ⟨by rw [HF.out]; rfl, n + nq, by rw [World.drewN_drewN]⟩
      · obtain rfl : k = nx := by omega
        have HF : Hid (res = true) := by
          unfold Hid
          rw [← HRES.out]
          refine decide_eq_true (HFN.out ?_)
          rw [HNXE.out]
          exact HT.out
        clear HT
        go_wp2
        go_ret
        exact ⟨by rw [HF.out]; rfl, n, rfl⟩
  · have hne : ¬ xs = ys := fun h => hl (by rw [h])
    rw [decide_eq_false hne]
    generalize xs.length = nx at *
    generalize ys.length = ny at *
    have tl : ((nx : Int) != (ny : Int)) = true := by simp; omega
    clear hl
    go_enter Tryd.func20, Tryd.ntmps20
    go_wp2_with fail
    go_ret
    exact ⟨rfl, 0, rfl⟩
theorem equalI_any (v1 v2 : Value) (xs ys : List Int) (w : World) (h1 : Rd w v1 (ints xs)) (h2 : Rd w v2 (ints ys)) (hx : xs.length ≤ 65536) (hy : ys.length ≤ 65536) :
    Calls Tryd.prog 19 #[v1, v2] w fun e w' => e = .returned (.bool (decide (xs = ys))) ∧ ∃ n, w' = w.drewN n := by
  by_cases h0 : xs.length = 0
  · have hx0 : xs = [] := List.length_eq_zero_iff.1 h0
    subst hx0
    obtain ⟨a1, c1, rfl⟩ := h1.len
    obtain ⟨a2, c2, rfl⟩ := h2.len
    rw [ints_len]
    rw [ints_len]
    refine (Tryd.slices_Equal_int_empty a1 a2 c1 ys.length c2 w (by omega)).mono ?_
    rintro e w' ⟨rfl, rfl⟩
    refine ⟨?_, 0, rfl⟩
    congr 2
    rw [decide_eq_decide]
    constructor
    · intro h; exact (List.length_eq_zero_iff.1 h).symm
    · intro h; rw [← h]; rfl
  · by_cases hl : xs.length = ys.length
    · obtain ⟨b1, o1, d1, rfl, -, hc1⟩ := h1.opened (by rw [ints_len]; omega)
      obtain ⟨b2, o2, d2, rfl, -, hc2⟩ := h2.opened (by rw [ints_len]; omega)
      rw [ints_len]
      rw [ints_len]
      refine (Tryd.slices_Equal_int b1 o1 xs.length d1 b2 o2 ys.length d2 xs ys w (Nat.le_refl _) (Nat.le_refl _) (by omega) (by omega) ?_ ?_).mono ?_
      · intro j hj
        rw [hc1 j _ (ints_getI hj), List.getD_eq_getElem?_getD, List.getElem?_eq_getElem hj]; rfl
      · intro j hj
        rw [hc2 j _ (ints_getI hj), List.getD_eq_getElem?_getD, List.getElem?_eq_getElem hj]; rfl
      · rintro e w' ⟨rfl, n, rfl⟩
        refine ⟨?_, n, rfl⟩
        rw [List.take_length, List.take_length]
        congr 2
        rw [Bool.eq_iff_iff, beq_iff_eq, decide_eq_true_eq]
    · obtain ⟨a1, c1, rfl⟩ := h1.len
      obtain ⟨a2, c2, rfl⟩ := h2.len
      rw [ints_len]
      rw [ints_len]
      refine (Tryd.slices_Equal_int_lens a1 a2 xs.length c1 ys.length c2 w hl).mono ?_
      rintro e w' ⟨rfl, rfl⟩
      refine ⟨?_, 0, rfl⟩
      rw [decide_eq_false (fun h => hl (by rw [h]))]
/-- are two findings the same? -/
def sameF (v1 c1 s1 v2 c2 s2 : Int) (xs ys : List Int) : Bool := decide (v1 = v2 ∧ c1 = c2 ∧ xs = ys ∧ s1 = s2)
end Go.Proofs.YtjefmfbncjdofaaDoor
/- Plain words: what SerialRight asks of what is found. -/
namespace Go.Proofs.YtjefmfbncjdofaaDoor.WPlain
end Go.Proofs.YtjefmfbncjdofaaDoor.WPlain
namespace Go.Proofs.YtjefmfbncjdofaaDoor.QPlain
end Go.Proofs.YtjefmfbncjdofaaDoor.QPlain
namespace Go.Proofs.YtjefmfbncjdofaaDoor.RPlain
open WPlain QPlain

theorem expl_full {l : List Tx} {C : Nat} {R : List Nat} (h : Expl l (2 ^ l.length - 1) C R) : R.length = l.length := (allS_mem.1 (expl_all.1 h).1).1.trans (afterS_len l)
theorem expl_keeps {l : List Tx} {C : Nat} {R : List Nat} (h : Expl l (2 ^ l.length - 1) C R) : keepsS l (R.map fun x : Nat => (x : Int)) = true := by
  rw [keeps_nat]
  refine (List.pairwise_and_iff.2 ⟨h.nodup, h.keeps⟩).imp fun {b a} hab => ⟨fun he => hab.1 he.symm, hab.2⟩
theorem row_there {l : List Tx} {R : List Nat} (h : ∀ k ∈ R, k < l.length) : thereS l (R.map fun x : Nat => (x : Int)) = true := (thereS_iff _ _).2 fun x hx => by
  obtain ⟨k, hk, rfl⟩ := List.mem_map.1 hx
  have := h k hk
  omega
/-- nothing found: no row of any choice explains -/
theorem none_expl {h : List Ev} {B : Nat} (h1 : (searchG B (tableS h) (fun _ => 2 ^ (tableS h).length - 1) (chL (tableS h)) 0).1 = 1) :
    ∀ c ∈ chL (tableS h), ∀ row ∈ allS (afterS (tableS h)), legalS (tableS h) c row ≠ row.length := by
  obtain ⟨_, _, _, _, _, _, h7, _⟩ := search_tells (B := B) (l := tableS h) (W := fun _ => 2 ^ (tableS h).length - 1) (self_table h) (chL (tableS h)) 0 (Nat.zero_le _)
  intro c hc row hr hl
  exact h7 h1 c hc row (expl_all.2 ⟨hr, hl⟩)
theorem all_row {l : List Tx} {row : List Nat} (h : row ∈ allS (afterS l)) : row.Nodup ∧ (∀ k ∈ row, k < l.length) ∧ row.length = l.length := by
  obtain ⟨h1, h2, h3⟩ := allS_mem.1 h
  rw [afterS_len] at h1 h2
  exact ⟨goes_nodup h3, h2, h1⟩
/-- what holds of a search's answer, whatever it is -/
theorem right_known {h : List Ev} (h0 : (checkS h).2 = 0) {B B' : Nat} (hB : B ≤ B') :
    let x := searchG B (tableS h) (fun _ => 2 ^ (tableS h).length - 1) (chL (tableS h)) 0
    (x.1 = 0 ∨ x.1 = 1 ∨ x.1 = 2) ∧ x.2.2.2 ≤ B ∧ (x.1 = 2 → x.2.2.2 = B ∧ B < 125184) ∧ (x.1 ≠ 0 → x.2.1 = 0 ∧ x.2.2.1 = []) ∧ (x.1 ≠ 2 → searchG B' (tableS h) (fun _ => 2 ^ (tableS h).length - 1) (chL (tableS h)) 0 = x) := by
  intro x
  obtain ⟨g1, g2, g3, g4, g5, _⟩ := search_tells (B := B) (l := tableS h) (W := fun _ => 2 ^ (tableS h).length - 1) (self_table h) (chL (tableS h)) 0 (Nat.zero_le _)
  refine ⟨g1, g3, fun h2 => ⟨(g4 h2).1, ?_⟩, g5, fun h2 => search_more hB _ _ (Nat.zero_le _) h2⟩
  rcases Nat.lt_or_ge B 125184 with hlt | hge
  · exact hlt
  · have := search_known (B := B) (l := tableS h) (W := fun _ => 2 ^ (tableS h).length - 1) (self_table h) (table_six h0) hge
    rw [choices_chL (table_six h0)] at this
    exact absurd h2 this
theorem rows_fewS {A : List Nat} (h : A.length ≤ 6) : (allS A).length ≤ 65536 := by
  have hz : ∀ a b, aft (List.replicate A.length 0) a b = false := fun a b => by
    unfold aft
    rw [List.getD_eq_getElem?_getD, List.getElem?_replicate]
    split <;> exact Nat.zero_testBit _
  have h1 := allS_more (L := List.replicate A.length 0) (L' := A) (by simp) (fun a b hab => by rw [hz] at hab; cases hab)
  rw [allS_fact hz, List.length_replicate] at h1
  have h2 : ∀ j, j < 7 → factN j ≤ 720 := by decide
  have := h2 A.length (by omega)
  omega
end Go.Proofs.YtjefmfbncjdofaaDoor.RPlain
/- The walk of SerialPart. -/
namespace Go.Proofs.YtjefmfbncjdofaaDoor.WPlain
end Go.Proofs.YtjefmfbncjdofaaDoor.WPlain
namespace Go.Proofs.YtjefmfbncjdofaaDoor.QPlain
end Go.Proofs.YtjefmfbncjdofaaDoor.QPlain
namespace Go.Proofs.YtjefmfbncjdofaaDoor.RPlain
end Go.Proofs.YtjefmfbncjdofaaDoor.RPlain
namespace Go.Proofs.YtjefmfbncjdofaaDoor
open Go.RowKit WPlain QPlain RPlain

theorem srchE_of {h : List Ev} (h0 : (checkS h).2 = 0) {B : Int} (h1 : 0 ≤ B) (h2 : B ≤ 1000000) : srchE h B = 0 := by
  unfold srchE
  rw [if_pos h0, if_neg (by omega)]
theorem rowE_of {h : List Ev} (h0 : (checkS h).2 = 0) {who c : Nat} (hw : who < 2 ^ (tableS h).length) (hc : c < 2 ^ (tableS h).length) : rowE h who c 1956 = 0 := by
  unfold rowE
  rw [srchE_of h0 (by decide) (by decide), if_pos rfl, if_pos (Nat.or_lt_two_pow hw hc)]
theorem rowF_of {h : List Ev} (h0 : (checkS h).2 = 0) {who c : Nat} (hw : who < 2 ^ (tableS h).length) (hc : c < 2 ^ (tableS h).length) : rowF h who c 1956 = searchG 1956 (tableS h) (fun _ => who) [c] 0 := by
  unfold rowF
  rw [rowE_of h0 hw hc, if_pos rfl]; rfl
end Go.Proofs.YtjefmfbncjdofaaDoor
/- The walk of SerialRight. -/
namespace Go.Proofs.YtjefmfbncjdofaaDoor.WPlain
end Go.Proofs.YtjefmfbncjdofaaDoor.WPlain
namespace Go.Proofs.YtjefmfbncjdofaaDoor.QPlain
end Go.Proofs.YtjefmfbncjdofaaDoor.QPlain
namespace Go.Proofs.YtjefmfbncjdofaaDoor.RPlain
end Go.Proofs.YtjefmfbncjdofaaDoor.RPlain
namespace Go.Proofs.YtjefmfbncjdofaaDoor
open Go.RowKit WPlain QPlain RPlain

theorem srchF_of {h : List Ev} {B : Nat} (h0 : srchE h (B : Int) = 0) : srchF h (B : Int) = searchG B (tableS h) (fun _ => 2 ^ (tableS h).length - 1) (chL (tableS h)) 0 := by
  unfold srchF
  rw [if_pos h0, Int.toNat_natCast]
end Go.Proofs.YtjefmfbncjdofaaDoor
/- Plain words: transactions one after the other, event by event, and by the table. -/
namespace Go.Proofs.YtjefmfbncjdofaaDoor.WPlain
end Go.Proofs.YtjefmfbncjdofaaDoor.WPlain
namespace Go.Proofs.YtjefmfbncjdofaaDoor.QPlain
end Go.Proofs.YtjefmfbncjdofaaDoor.QPlain
namespace Go.Proofs.YtjefmfbncjdofaaDoor.RPlain
open WPlain QPlain

/-- are transactions one after the other? -/
def serP (h : List Ev) : Prop := ∀ (i k : Nat) (hik : i < k) (hk : k < h.length), h[k].t = (h[i]'(by omega)).t → (h[k - 1]'(by omega)).t = (h[i]'(by omega)).t
theorem ser_block {h : List Ev} (hs : serP h) : ∀ (d i k : Nat) (hik : i < k) (hk : k < h.length), k - i = d → h[k].t = (h[i]'(by omega)).t → ∀ j (_hj : i ≤ j) (hjk : j ≤ k), (h[j]'(by omega)).t = (h[i]'(by omega)).t := by
  intro d
  induction d with
  | zero => intro i k hik hk hd; omega
  | succ d ih =>
    intro i k hik hk hd he j hj hjk
    by_cases h1 : j = k
    · subst h1; exact he
    · have h2 := hs i k hik hk he
      by_cases h3 : i = k - 1
      · have : j = i := by omega
        subst this; rfl
      · exact ih i (k - 1) (by omega) (by omega) (by omega) h2 j hj (by omega)
theorem fst_at {h : List Ev} {t : Int} (ht : t ∈ namesOf h) : ∃ i : Nat, fstOf h t = (i : Int) ∧ ∃ hi : i < h.length, h[i].t = t := by
  have hne := (not_congr (fst_names h t)).2 (fun hc => hc ht)
  unfold fstOf at *
  cases h1 : h.findIdx? (fun e => e.t == t) with
  | none => rw [h1] at hne; simp at hne
  | some i =>
    obtain ⟨hi, hp, _⟩ := List.findIdx?_eq_some_iff_getElem.1 h1
    exact ⟨i, rfl, hi, by simpa using hp⟩
theorem fst_first {h : List Ev} {t : Int} {p : Nat} (hp : p < h.length) (ht : h[p].t = t) : fstOf h t ≤ (p : Int) := by
  unfold fstOf
  cases h1 : h.findIdx? (fun e => e.t == t) with
  | none =>
    rw [List.findIdx?_eq_none_iff] at h1
    have := h1 h[p] (List.getElem_mem hp)
    simp [ht] at this
  | some i =>
    obtain ⟨hi, _, hm⟩ := List.findIdx?_eq_some_iff_getElem.1 h1
    dsimp only
    by_cases hle : i ≤ p
    · omega
    · have := hm p (by omega)
      simp [ht] at this
/-- what began ahead of another one is over there -/
theorem ser_over {h : List Ev} (hs : serP h) {t u : Int} (ht : t ∈ namesOf h) (hu : u ∈ namesOf h) (hlt : fstOf h t < fstOf h u) {p : Nat} (hp : p < h.length) (hpt : h[p].t = t) : (p : Int) < fstOf h u := by
  obtain ⟨i, hi, hil, hit⟩ := fst_at ht
  obtain ⟨j, hj, hjl, hju⟩ := fst_at hu
  rw [hi, hj] at hlt
  rw [hj]
  rcases Nat.lt_or_ge p j with h1 | h1
  · omega
  · exfalso
    have hip : i < p := by omega
    have h2 := ser_block hs (p - i) i p hip hp rfl (by rw [hpt, hit]) j (by omega) h1
    rw [hit, hju] at h2
    subst h2
    rw [hi] at hj
    omega
theorem lst_last {h : List Ev} {t : Int} {p : Nat} (hp : p < h.length) (ht : h[p].t = t) : (p : Int) ≤ lstOf h t := by
  have h1 := some_more (h := h.take p) (t := t) (h.drop p) ⟨h[p], by rw [List.drop_eq_getElem_cons hp]; exact List.mem_cons_self .., ht⟩
  rw [List.take_append_drop, List.length_take] at h1
  omega
theorem asked_tx {h : List Ev} {t : Int} (ht : t ∈ namesOf h) : (askedOf h t).t = t := by
  have : ∀ (r : List Ev) (o : Ev), (r.foldl (fun o e => if e.t = t then e else o) o).t = t ∨ ((∀ e ∈ r, e.t ≠ t) ∧ r.foldl (fun o e => if e.t = t then e else o) o = o) := by
    intro r
    induction r with
    | nil => intro o; exact .inr ⟨by intro e he; simp at he, rfl⟩
    | cons e r ih =>
      intro o
      rw [List.foldl_cons]
      by_cases he : e.t = t
      · rw [if_pos he]
        rcases ih e with h1 | ⟨_, h1⟩
        · exact .inl h1
        · exact .inl (by rw [h1]; exact he)
      · rw [if_neg he]
        rcases ih o with h1 | ⟨h0, h1⟩
        · exact .inl h1
        · refine .inr ⟨?_, h1⟩
          intro d hd
          rcases List.mem_cons.1 hd with rfl | hd
          · exact he
          · exact h0 d hd
  obtain ⟨e, he, het⟩ := (mem_names h t).1 ht
  rcases this h ⟨0, 0, 0, 0⟩ with h1 | ⟨h0, _⟩
  · exact h1
  · exact absurd het (h0 e he)
theorem lst_at {h : List Ev} {t : Int} (ht : t ∈ namesOf h) : ∃ l : Nat, lstOf h t = (l : Int) ∧ ∃ hl : l < h.length, h[l].t = t := by
  obtain ⟨l, h1, hl, h2⟩ := asked_at h t ht
  exact ⟨l, h1, hl, by rw [h2]; exact asked_tx ht⟩
/-- by the table: the next one begins where the one ahead is over -/
def serT (l : List Tx) : Prop := ∀ (i : Nat) (hi : i + 1 < l.length), ¬ (l[i + 1]).f < (l[i]'(by omega)).l
theorem serT_iff {h : List Ev} : serT (tableS h) ↔ serP h := by
  have hlen := tableS_len h
  constructor
  · intro hs i k hik hk he
    rcases Decidable.em ((h[k - 1]'(by omega)).t = (h[i]'(by omega)).t) with hc | hc
    · exact hc
    · exfalso
      obtain ⟨p, hp, hpt⟩ := List.mem_iff_getElem.1 ((mem_names h (h[i]'(by omega)).t).2 ⟨_, List.getElem_mem _, rfl⟩)
      obtain ⟨q, hq, hqt⟩ := List.mem_iff_getElem.1 ((mem_names h (h[k - 1]'(by omega)).t).2 ⟨_, List.getElem_mem _, rfl⟩)
      have chain : ∀ (d p q : Nat) (hpq : p + d + 1 = q) (hq : q < (namesOf h).length), lstOf h ((namesOf h)[p]'(by omega)) ≤ fstOf h (namesOf h)[q] := by
        intro d
        induction d with
        | zero =>
          intro p q hpq hq
          obtain rfl : q = p + 1 := by omega
          have h1 := hs p (by omega)
          rw [tableS_get hq, tableS_get (by omega)] at h1
          simp only [txOf] at h1
          omega
        | succ d ih =>
          intro p q hpq hq
          have h1 := ih p (q - 1) (by omega) (by omega)
          have h2 := hs (q - 1) (by omega)
          have h3 := (fst_lst h ((namesOf h)[q - 1]'(by omega)) (List.getElem_mem _)).1
          have h4 := tableS_get (h := h) (i := q - 1) (by omega)
          have h5 := tableS_get (h := h) (i := q - 1 + 1) (by omega)
          rw [h4, h5] at h2
          simp only [txOf, show q - 1 + 1 = q from by omega] at h2
          omega
      have f1 := fst_first (h := h) (t := (h[i]'(by omega)).t) (p := i) (by omega) rfl
      have l1 := lst_last (h := h) (t := (h[i]'(by omega)).t) (p := k) hk he
      have f2 := fst_first (h := h) (t := (h[k - 1]'(by omega)).t) (p := k - 1) (by omega) rfl
      have l2 := lst_last (h := h) (t := (h[k - 1]'(by omega)).t) (p := k - 1) (by omega) rfl
      rcases Nat.lt_trichotomy p q with h1 | h1 | h1
      · have := chain (q - p - 1) p q (by omega) hq
        rw [hpt, hqt] at this
        omega
      · subst h1
        rw [hpt] at hqt
        exact hc hqt.symm
      · have := chain (p - q - 1) q p (by omega) hp
        rw [hpt, hqt] at this
        have : i ≠ k - 1 := by
          intro h2
          subst h2
          exact hc rfl
        omega
  · intro hs i hi hlt
    rw [tableS_get (by omega), tableS_get (by omega)] at hlt
    simp only [txOf] at hlt
    have hi2 : i + 1 < (namesOf h).length := by omega
    have hf := List.pairwise_iff_getElem.1 (fst_rise h) i (i + 1) (by omega) hi2 (by omega)
    obtain ⟨l, hl1, hl2, hl3⟩ := lst_at (List.getElem_mem (l := namesOf h) (n := i) (by omega))
    have := ser_over hs (List.getElem_mem _) (List.getElem_mem _) hf hl2 hl3
    omega
end Go.Proofs.YtjefmfbncjdofaaDoor.RPlain
/- Plain words: rows of events that are alike, name by name. -/
namespace Go.Proofs.YtjefmfbncjdofaaDoor.WPlain
end Go.Proofs.YtjefmfbncjdofaaDoor.WPlain
namespace Go.Proofs.YtjefmfbncjdofaaDoor.QPlain
end Go.Proofs.YtjefmfbncjdofaaDoor.QPlain
namespace Go.Proofs.YtjefmfbncjdofaaDoor.RPlain
open WPlain QPlain

theorem sum_of {ns : List Int} (hn : ns.Nodup) : ∀ b : List Ev, (ns.map fun t => (ofT b t).length).sum = (b.filter fun e => ns.contains e.t).length := by
  intro b
  induction b with
  | nil =>
    simp only [ofT, List.filter_nil, List.length_nil]
    induction ns with
    | nil => rfl
    | cons x r ih => rw [List.map_cons, List.sum_cons, ih (List.nodup_cons.1 hn).2]
  | cons e r ih =>
    have hone : ∀ ns : List Int, ns.Nodup → (ns.map fun t => (ofT (e :: r) t).length).sum = (ns.map fun t => (ofT r t).length).sum + (if ns.contains e.t = true then 1 else 0) := by
      intro ns
      induction ns with
      | nil => intro _; rfl
      | cons x q ihq =>
        intro hnd
        obtain ⟨hx, hq⟩ := List.nodup_cons.1 hnd
        rw [List.map_cons, List.sum_cons, List.map_cons, List.sum_cons, ihq hq]
        have h1 : (ofT (e :: r) x).length = (ofT r x).length + (if e.t = x then 1 else 0) := by
          unfold ofT
          rw [List.filter_cons]
          by_cases he : e.t = x
          · simp [he]
          · simp [he]
        rw [h1]
        by_cases he : e.t = x
        · subst he
          have hnc : q.contains e.t = false := by simpa using hx
          rw [if_pos rfl, List.contains_cons, hnc]
          simp
          omega
        · have hne : (e.t == x) = false := by simpa using he
          rw [if_neg he, List.contains_cons, hne, Bool.false_or]
          omega
    rw [hone ns hn, ih, List.filter_cons]
    split <;> simp
theorem names_filter (h : List Ev) : (h.filter fun e => (namesOf h).contains e.t) = h := by
  rw [List.filter_eq_self]
  intro e he
  have := (mem_names h e.t).2 ⟨e, he, rfl⟩
  simpa using this
/-- all transactions' events together are all -/
theorem all_sum (h : List Ev) : ((namesOf h).map fun t => (ofT h t).length).sum = h.length := by rw [sum_of (names_nodup h), names_filter]
theorem len_of {a b : List Ev} (h : ∀ t, ofT a t = ofT b t) : a.length ≤ b.length := by
  have h1 := all_sum a
  have h2 := sum_of (names_nodup a) b
  have h3 : ((namesOf a).map fun t => (ofT a t).length) = ((namesOf a).map fun t => (ofT b t).length) := List.map_congr_left fun t _ => by rw [h t]
  rw [h3, h2] at h1
  rw [← h1]
  exact List.length_filter_le _ _
end Go.Proofs.YtjefmfbncjdofaaDoor.RPlain
/- Plain words: rows of events in order of their names, each name's in their order: what a stable sort makes. -/
namespace Go.Proofs.YtjefmfbncjdofaaDoor.WPlain
end Go.Proofs.YtjefmfbncjdofaaDoor.WPlain
namespace Go.Proofs.YtjefmfbncjdofaaDoor.QPlain
end Go.Proofs.YtjefmfbncjdofaaDoor.QPlain
namespace Go.Proofs.YtjefmfbncjdofaaDoor.RPlain
open WPlain QPlain

instance : Inhabited Ev := ⟨⟨0, 0, 0, 0⟩⟩
/-- of each name the same events, in the same order -/
def Alk (a b : List Ev) : Prop := ∀ t, ofT a t = ofT b t
theorem Alk.refl (a : List Ev) : Alk a a := fun _ => rfl
theorem Alk.symm {a b : List Ev} (h : Alk a b) : Alk b a := fun t => (h t).symm
theorem Alk.trans {a b c : List Ev} (h : Alk a b) (k : Alk b c) : Alk a c := fun t => (h t).trans (k t)
theorem Alk.len {a b : List Ev} (h : Alk a b) : a.length = b.length := Nat.le_antisymm (len_of h) (len_of h.symm)
theorem get_mid (p r : List Ev) (a : Ev) (h : p.length < (p ++ a :: r).length) : (p ++ a :: r)[p.length] = a := by simp
end Go.Proofs.YtjefmfbncjdofaaDoor.RPlain
/- The walks of ProperEach's closure, of slices.IndexFunc and of slices.DeleteFunc with it. -/
namespace Go.Proofs.YtjefmfbncjdofaaDoor.WPlain
end Go.Proofs.YtjefmfbncjdofaaDoor.WPlain
namespace Go.Proofs.YtjefmfbncjdofaaDoor.QPlain
end Go.Proofs.YtjefmfbncjdofaaDoor.QPlain
namespace Go.Proofs.YtjefmfbncjdofaaDoor
open Go.RowKit WPlain QPlain

theorem row_cell {w : World} {B g cap n : Nat} {H : List Ev} (h : w.ownsRow B 58 4 (.slice (some ⟨g, 0, none⟩) n cap) n (evsCells H)) (hn : H.length = n) (j : Nat) (hj : j < n) (c : Nat) (hc : c < 4) : w.cell? ⟨g, j * 4 + c, none⟩ = (evCells (H[j]'(by omega)))[c]? := by
  rw [h.cellAt (j * 4 + c) (by omega)]
  exact evsCells_get H j (by omega) c hc
end Go.Proofs.YtjefmfbncjdofaaDoor
/- Rows of events of the call's own, read, and with two of them swapped; the walks of the order's closure, and of slices.insertionSortCmpFunc with it. -/
namespace Go.Proofs.YtjefmfbncjdofaaDoor.WPlain
end Go.Proofs.YtjefmfbncjdofaaDoor.WPlain
namespace Go.Proofs.YtjefmfbncjdofaaDoor.QPlain
end Go.Proofs.YtjefmfbncjdofaaDoor.QPlain
namespace Go.Proofs.YtjefmfbncjdofaaDoor.RPlain
end Go.Proofs.YtjefmfbncjdofaaDoor.RPlain
namespace Go.Proofs.YtjefmfbncjdofaaDoor
open Go.RowKit WPlain QPlain RPlain

/-- a row of the call's own that reads as events -/
def Row (B g cap n : Nat) (w : World) (H : List Ev) : Prop := H.length = n ∧ w.ownsRow B 58 4 (.slice (some ⟨g, 0, none⟩) n cap) n (evsCells H)
theorem Row.lt {B g cap n : Nat} {w : World} {H : List Ev} (h : Row B g cap n w H) : B ≤ g ∧ g < w.heap.size := by
  have := h.2.lt g rfl
  exact this
theorem Row.at {B g cap n : Nat} {w : World} {p r : List Ev} {e : Ev} (h : Row B g cap n w (p ++ e :: r)) {i : Nat} (hi : i = p.length) :
    w.cell? ⟨g, i * 4, none⟩ = some (.int .i64 e.k) ∧ w.cell? ⟨g, i * 4 + 1, none⟩ = some (.int .i64 e.t) ∧ w.cell? ⟨g, i * 4 + 2, none⟩ = some (.int .i64 e.v) ∧ w.cell? ⟨g, i * 4 + 3, none⟩ = some (.int .i64 e.x) := by
  subst hi
  have hn := h.1
  have hlt : p.length < n := by rw [← hn]; simp
  have e0 := row_cell h.2 hn p.length hlt 0 (by omega)
  have e1 := row_cell h.2 hn p.length hlt 1 (by omega)
  have e2 := row_cell h.2 hn p.length hlt 2 (by omega)
  have e3 := row_cell h.2 hn p.length hlt 3 (by omega)
  rw [get_mid] at e0 e1 e2 e3
  exact ⟨e0, e1, e2, e3⟩
end Go.Proofs.YtjefmfbncjdofaaDoor
/- The walks of package prefix's Serial and Cut, and of the reference's Alike. -/
namespace Go.Proofs.YtjefmfbncjdofaaDoor.WPlain
end Go.Proofs.YtjefmfbncjdofaaDoor.WPlain
namespace Go.Proofs.YtjefmfbncjdofaaDoor.QPlain
end Go.Proofs.YtjefmfbncjdofaaDoor.QPlain
namespace Go.Proofs.YtjefmfbncjdofaaDoor.RPlain
end Go.Proofs.YtjefmfbncjdofaaDoor.RPlain
namespace Go.Proofs.YtjefmfbncjdofaaDoor
open Go.RowKit WPlain QPlain RPlain

theorem txs_open {w : World} {v : Value} {l : List Tx} (h : Txs w v l) (h0 : 0 < l.length) : ∃ b o c, v = .slice (some ⟨b, o, none⟩) l.length c := by
  obtain ⟨ps, rfl, hr, _⟩ := h
  rcases hr with ⟨rfl, _⟩ | ⟨_, b, o, c, rfl, _⟩
  · simp at h0
  · exact ⟨b, o, c, by simp⟩
theorem serT_idx (l : List Tx) : serT l ↔ ∀ i (hi : i < l.length), 0 < i → (l[i - 1]'(by omega)).l ≤ (l[i]).f := by
  constructor
  · intro h i hi h0
    obtain ⟨j, rfl⟩ : ∃ j, i = j + 1 := ⟨i - 1, by omega⟩
    have h1 := h j hi
    simp only [Nat.add_sub_cancel]
    omega
  · intro h i hi
    have h1 := h (i + 1) hi (by omega)
    simp only [Nat.add_sub_cancel] at h1
    omega
set_option maxRecDepth 100000 in
set_option maxHeartbeats 2000000 in
theorem serial_any (v : Value) (h : List Ev) (w : World) (hK : HasK w) (hv : Evs w v h) (hl : h.length ≤ 65536) :
    Calls Tryd.prog 14 #[v] w fun e w' => ∃ r : Bool, e = .returned (.tuple #[.bool r, .int .i64 ((checkS h).2 : Nat)]) ∧ (r = true ↔ ((checkS h).2 = 0 ∧ serP h)) ∧ Below w.heap.size w w' := by
  have HT := Lib.hid (table_any v h w hK hv hl)
  have HTL : Hid ((tableS h).length ≤ 65536) := by rw [tableS_len]; exact Nat.le_trans (namesOf_len h) hl
  obtain ⟨a, c, rfl⟩ := hv.len
  clear hv hK
  by_cases h0 : (checkS h).2 = 0
  · rw [h0, if_pos rfl] at HT
    rw [h0]
    clear h0
    go_enter Tryd.func14, Tryd.ntmps14
    go_wp2_with fail
    refine HT.out.mono ?_
    rintro e w1 ⟨v1, rfl, hv1, hb1⟩
    have HB1 := Lib.hid hb1
    have HV1 := Lib.hid hv1
    have HBR := Lib.hid (Below.refl w1.heap.size w1)
    obtain ⟨a1, c1, rfl⟩ := hv1.len
    have hll := HTL.out
    have HSI := Lib.hid (serT_iff (h := h))
    generalize tableS h = l at *
    clear hv1 hb1 HT
    go_wp2_with fail
    go_loopw [6] (fun x wr => ∃ k : Nat, x = .int .i64 k ∧ 0 < k ∧ (k ≤ l.length ∨ k = 1) ∧ Hid (∀ i (hi : i < l.length), i < k → 0 < i → (l[i - 1]'(by omega)).l ≤ (l[i]).f) ∧ Hid (Below w1.heap.size w1 wr)) (fun x _ => l.length - (intOf x).toNat)
    case atStart => exact ⟨1, by first | rfl | go_num, by omega, by omega, (by intro i hi h1 h2; omega), HBR⟩
    case round =>
      clear HBR
      obtain ⟨k, rfl, hk0, hk1, HI, HB⟩ := hrel
      by_cases hlt : k < l.length
      · obtain ⟨kp, rfl⟩ : ∃ kp, k = kp + 1 := ⟨k - 1, by omega⟩
        have hv2 := HV1.out.below HB.out (Nat.le_refl _)
        obtain ⟨b, o, c', he⟩ := txs_open hv2 (by omega)
        obtain ⟨rfl, rfl⟩ : a1 = some ⟨b, o, none⟩ ∧ c1 = c' := by simpa using he
        clear he
        obtain ⟨ua, x0, x1, x2, x3, x4, qa⟩ := hv2.get (kp + 1) hlt
        obtain ⟨ub, y0, y1, y2, y3, y4, qb⟩ := hv2.get kp (by omega)
        clear hv2 x0 x2 x3 x4 qa y0 y1 y3 y4 qb
        have HG : Hid (∀ (hi : kp + 1 < l.length), (l[kp + 1]).f = (l[kp + 1]).f ∧ (l[kp + 1 - 1]'(by omega)).l = (l[kp]'(by omega)).l) := fun _ => ⟨rfl, rfl⟩
        obtain ⟨F, hF⟩ : ∃ F, (l[kp + 1]).f = F := ⟨_, rfl⟩
        obtain ⟨L, hL⟩ : ∃ L, (l[kp]'(by omega)).l = L := ⟨_, rfl⟩
        rw [hF] at x1
        rw [hL] at y2
        have HF := Lib.hid hF
        have HL := Lib.hid hL
        clear hF hL
        have qk : (kp : Int) < (l.length : Int) := by omega
        have qk1 : (kp : Int) + 1 < (l.length : Int) := by omega
        have qz : ((kp : Int) + 1).toNat = kp + 1 := by omega
        have q0 : (0 : Int) ≤ (kp : Int) + 1 := by omega
        have hwp : IntKind.i64.wrap (kp : Int) = (kp : Int) := by rw [IntKind.wrap_i64]; omega
        have HB3 : Hid (Below w1.heap.size w1 wr.drew) := HB.out.drew
        by_cases g : F < L
        · have tg : decide (F < L) = true := decide_eq_true g
          have HNO : Hid (¬ serP h) := by
            intro hs
            have := (serT_idx l).1 (HSI.out.2 hs) (kp + 1) hlt (by omega)
            rw [HF.out] at this
            simp only [Nat.add_sub_cancel] at this
            rw [HL.out] at this
            omega
          go_wp2_with fail
          go_big_region
          all_goals go_wp2
          go_ret2
          exact ⟨false, rfl, ⟨by simp, fun hs => absurd hs.2 HNO.out⟩, HB1.out.trans (HB3.out.mono HB1.out.size)⟩
        · have tg : decide (F < L) = false := decide_eq_false g
          have HI2 : Hid (∀ i (hi : i < l.length), i < kp + 1 + 1 → 0 < i → (l[i - 1]'(by omega)).l ≤ (l[i]).f) := by
            intro i hi h1 h2
            by_cases h3 : i = kp + 1
            · subst h3
              simp only [Nat.add_sub_cancel]
              rw [HF.out, HL.out]
              omega
            · exact HI.out i hi (by omega) h2
          clear g
          go_wp2_with fail
          go_big_region
          all_goals go_wp2
          go_roundw
          case rel => exact ⟨kp + 1 + 1, by go_num, by omega, by omega, HI2, HB3⟩
          case measure => simp [intOf]; omega
      · have HS : Hid (serP h) := HSI.out.1 ((serT_idx l).2 fun i hi h1 => HI.out i hi (by omega) h1)
        go_wp2
        go_ret2
        exact ⟨true, rfl, ⟨fun _ => ⟨by simp, HS.out⟩, fun _ => rfl⟩, HB1.out.trans (HB.out.mono HB1.out.size)⟩
  · rw [if_neg h0] at HT
    obtain ⟨er, her⟩ : ∃ er, (checkS h).2 = er := ⟨_, rfl⟩
    rw [her] at HT h0 ⊢
    have te : ((er : Int) != 0) = true := by simp; omega
    have H0 := Lib.hid h0
    clear her h0
    go_enter Tryd.func14, Tryd.ntmps14
    go_wp2_with fail
    refine HT.out.mono ?_
    rintro e w1 ⟨v1, rfl, hv1, hb1⟩
    have HB1 := Lib.hid hb1
    obtain ⟨a1, c1, rfl⟩ := hv1.len
    clear hv1 hb1 HT
    go_wp2
    go_ret2
    exact ⟨false, rfl, ⟨by simp, fun hs => absurd hs.1 H0.out⟩, HB1.out⟩
end Go.Proofs.YtjefmfbncjdofaaDoor
