/- Merged: SrlQ, SrlG, SrlH. -/
import Derived.Test.YtoemcdcabamgiaaDoorMg20
import Derived.Test.YtoemcdcabamgiaaDoorSrlD
import Derived.Test.YtoemcdcabamgiaaDoorMg19
import Derived.Test.YtoemcdcabamgiaaDoorCmpF
import Derived.Test.YtoemcdcabamgiaaDoorMg6
import Derived.Test.YtoemcdcabamgiaaDoorTabJ
/- Plain words: what the law of parts asks of what is found. -/
namespace Go.Proofs.YtoemcdcabamgiaaDoor.WPlain
end Go.Proofs.YtoemcdcabamgiaaDoor.WPlain
namespace Go.Proofs.YtoemcdcabamgiaaDoor.QPlain
end Go.Proofs.YtoemcdcabamgiaaDoor.QPlain
namespace Go.Proofs.YtoemcdcabamgiaaDoor.RPlain
open WPlain QPlain

theorem one_verdict {B : Nat} {l : List Tx} {W : Nat → Nat} {c : Nat} : (searchG B l W [c] 0).1 = (rowS B l (W c) c).1 := by
  unfold rowS
  rw [searchG]
  by_cases h : (fromS B l (W c) c (l.length + 1) [] 0).1 = 1
  · rw [if_pos h, h]; rfl
  · rw [if_neg h]
theorem row_found {h : List Ev} (h0 : (checkS h).2 = 0) {W c : Nat} {t : List Nat} (ht : Expl (tableS h) W c t) : (searchG 1956 (tableS h) (fun _ => W) [c] 0).1 = 0 := by
  rw [one_verdict]
  refine row_yes (self_table h) ?_ ht
  have := mostW_mono (table_six h0)
  rwa [mostW_six] at this
/-- those ahead of one that commit, and it -/
def whoN (C : Nat) (R : List Nat) (T : Nat) (hT : T < R.length) : Nat := leftW C (R.drop T) ||| 2 ^ R[T]
theorem whoN_iff {l : List Tx} {C : Nat} {R : List Nat} (h6 : l.length ≤ 6) (hC : C < 2 ^ l.length) (hR : Expl l (2 ^ l.length - 1) C R) {T : Nat} (hT : T < R.length) (k : Nat) :
    (whoN C R T hT).testBit k = true ↔ (k = R[T] ∨ (C.testBit k = true ∧ k ∈ R.take T)) := by
  have hlt : ∀ x ∈ R, x < l.length := fun x hx => ((hR.mem x).1 hx).1
  have hC64 := Nat.lt_of_lt_of_le hC (pow_le_64 h6)
  unfold whoN leftW
  rw [Nat.testBit_or, left_fold k (R.drop T) C hC64 (fun x hx => by have := hlt x (List.mem_of_mem_drop hx); omega), Nat.testBit_two_pow]
  simp only [Bool.or_eq_true, Bool.and_eq_true, decide_eq_true_eq, Bool.not_eq_true', List.contains_eq_mem, decide_eq_false_iff_not]
  have hspl : R.take T ++ R.drop T = R := List.take_append_drop T R
  constructor
  · rintro (⟨h1, h2⟩ | h1)
    · refine .inr ⟨h1, ?_⟩
      have hkl : k < l.length := by
        rcases Nat.lt_or_ge k l.length with h | h
        · exact h
        · rw [Nat.testBit_lt_two_pow (Nat.lt_of_lt_of_le hC (Nat.pow_le_pow_right (by decide) h))] at h1
          cases h1
      have hm := (hR.mem k).2 ⟨hkl, by rw [two_bits]; simpa using hkl⟩
      rw [← hspl] at hm
      rcases List.mem_append.1 hm with h | h
      · exact h
      · exact absurd h h2
    · exact .inl h1.symm
  · rintro (h1 | ⟨h1, h2⟩)
    · exact .inr h1.symm
    · refine .inl ⟨h1, fun h3 => ?_⟩
      have hn := hR.nodup
      rw [← hspl, List.nodup_append] at hn
      exact hn.2.2 k h2 k h3 rfl
theorem part_two {l : List Tx} {C : Nat} {R : List Nat} (h6 : l.length ≤ 6) (hC : C < 2 ^ l.length) (hR : Expl l (2 ^ l.length - 1) C R) {T : Nat} (hT : T < R.length) :
    Expl l (whoN C R T hT) (C &&& whoN C R T hT) ((R.take T).filter C.testBit ++ [R[T]]) ∧ whoN C R T hT < 2 ^ l.length := by
  refine ⟨part_ahead hR hT (whoN_iff h6 hC hR hT), ?_⟩
  refine Nat.lt_pow_two_of_testBit _ fun k hk => ?_
  cases hb : (whoN C R T hT).testBit k with
  | false => rfl
  | true =>
    have hlt : ∀ x ∈ R, x < l.length := fun x hx => ((hR.mem x).1 hx).1
    rcases (whoN_iff h6 hC hR hT k).1 hb with h1 | ⟨_, h2⟩
    · have := hlt _ (List.getElem_mem hT)
      omega
    · have := hlt _ (List.mem_of_mem_take h2)
      omega
/-- what is found of a search that found -/
theorem found_facts {h : List Ev} {B : Nat} {x : Nat × Nat × List Nat × Nat} (hx : searchG B (tableS h) (fun _ => 2 ^ (tableS h).length - 1) (chL (tableS h)) 0 = x) (h1 : x.1 = 0) :
    x.2.1 ∈ chL (tableS h) ∧ x.2.1 < 2 ^ (tableS h).length ∧ Expl (tableS h) (2 ^ (tableS h).length - 1) x.2.1 x.2.2.1 := by
  obtain ⟨_, _, _, _, _, g, _⟩ := search_tells (B := B) (l := tableS h) (W := fun _ => 2 ^ (tableS h).length - 1) (self_table h) (chL (tableS h)) 0 (Nat.zero_le _)
  rw [hx] at g
  obtain ⟨g1, g2⟩ := g h1
  exact ⟨g1, (mem_chL.1 g1).1, g2⟩
theorem expl_len {l : List Tx} {W C : Nat} {R : List Nat} (h6 : l.length ≤ 6) (h : Expl l W C R) : R.length ≤ 6 := by
  have := nodup_le R (List.range l.length) h.nodup (fun x hx => List.mem_range.2 ((h.mem x).1 hx).1)
  rw [List.length_range] at this
  omega
theorem srch_len {h : List Ev} (h0 : (checkS h).2 = 0) {B : Nat} : (searchG B (tableS h) (fun _ => 2 ^ (tableS h).length - 1) (chL (tableS h)) 0).2.2.1.length ≤ 65536 := by
  obtain ⟨h1, _, _, _, h5, h6, _⟩ := search_tells (B := B) (l := tableS h) (W := fun _ => 2 ^ (tableS h).length - 1) (self_table h) (chL (tableS h)) 0 (Nat.zero_le _)
  by_cases hx : (searchG B (tableS h) (fun _ => 2 ^ (tableS h).length - 1) (chL (tableS h)) 0).1 = 0
  · have := expl_len (table_six h0) (h6 hx).2
    omega
  · rw [(h5 hx).2]; exact Nat.zero_le _
end Go.Proofs.YtoemcdcabamgiaaDoor.RPlain
/- The walks of the reference's small functions: in, with, Bits, Of, Why, All, left, free. -/
namespace Go.Proofs.YtoemcdcabamgiaaDoor.WPlain
end Go.Proofs.YtoemcdcabamgiaaDoor.WPlain
namespace Go.Proofs.YtoemcdcabamgiaaDoor.QPlain
end Go.Proofs.YtoemcdcabamgiaaDoor.QPlain
namespace Go.Proofs.YtoemcdcabamgiaaDoor.RPlain
end Go.Proofs.YtoemcdcabamgiaaDoor.RPlain
namespace Go.Proofs.YtoemcdcabamgiaaDoor
open Go.RowKit WPlain QPlain RPlain

set_option maxHeartbeats 1000000 in
theorem refIn0_any (v : Value) (xs : List Int) (x : Int) (w : World) (h : Rd w v (ints xs)) (hl : xs.length ≤ 2147483648) :
    Calls Tryd.prog 70 #[v, .int .i64 x] w fun e w' => e = .returned (.bool (xs.contains x)) ∧ w = w' := by
  obtain ⟨r, hr⟩ : ∃ r, r = xs.contains x := ⟨_, rfl⟩
  rw [← hr]
  have HR := Lib.hid hr
  have HH := Lib.hid h
  obtain ⟨a, c, rfl⟩ := h.len
  rw [ints_len] at HH ⊢
  clear hr h
  go_enter Tryd.func70, Tryd.ntmps70
  go_wp2_with fail
  go_loop [9] (fun i => ∃ k : Nat, k ≤ xs.length ∧ i = .int .i64 k ∧ Hid (∀ j, j < k → xs[j]? ≠ some x)) (fun i => xs.length - (intOf i).toNat)
  case atStart => exact ⟨0, by omega, rfl, fun j hj => absurd hj (Nat.not_lt_zero _)⟩
  case round =>
    obtain ⟨k, hk, rfl, HN⟩ := hrel
    by_cases hlt : k < xs.length
    · obtain ⟨b, o, c', he, hb, hc⟩ := HH.out.opened (by rw [ints_len]; omega)
      have hck := hc k (.int .i64 xs[k]) (by unfold ints; rw [List.getElem?_map, List.getElem?_eq_getElem hlt]; rfl)
      simp only [ints_len, Value.slice.injEq, true_and] at he
      obtain ⟨rfl, rfl⟩ := he
      clear hc
      have hg : xs[k]? = some xs[k] := List.getElem?_eq_getElem hlt
      by_cases hx : xs[k] = x
      · have HF : Hid (r = true) := by
          unfold Hid
          rw [HR.out]
          rw [List.contains_iff_mem]
          rw [← hx]
          exact List.getElem_mem _
        rw [hx] at hck
        clear hx hg
        go_wp2
        go_ret
        exact ⟨by rw [HF.out]; rfl, rfl⟩
      · have HN2 : Hid (∀ j, j < k + 1 → xs[j]? ≠ some x) := by
          intro j hj
          by_cases hj' : j < k
          · exact HN.out j hj'
          · obtain rfl : j = k := by omega
            rw [hg]
            intro h
            exact hx (Option.some.inj h)
        have tx : ((xs[k] : Int) == x) = false := by simpa using hx
        clear hx hg
        generalize xs[k] = y at *
        go_wp2
        go_round
        case rel => exact ⟨k + 1, by omega, by go_num, HN2⟩
        case measure => simp [intOf]; omega
    · have HF : Hid (r = false) := by
        unfold Hid
        rw [HR.out]
        cases hcn : xs.contains x with
        | false => rfl
        | true =>
          rw [List.contains_iff_mem] at hcn
          obtain ⟨j, hj, hjx⟩ := List.mem_iff_getElem.1 hcn
          exact absurd (by rw [List.getElem?_eq_getElem hj, hjx]) (HN.out j (by omega))
      go_wp2
      go_ret
      exact ⟨by rw [HF.out]; rfl, rfl⟩

theorem refInS_any (v : Value) (L : List Nat) (x : Nat) (w : World) (h : Rd w v (nats L)) (hl : L.length ≤ 65536) :
    Calls Tryd.prog 70 #[v, .int .i64 (x : Int)] w fun e w' => e = .returned (.bool (L.contains x)) ∧ w = w' := by
  rw [nats_intsS] at h
  have he : (L.map fun (y : Nat) => (y : Int)).contains (x : Int) = L.contains x := by
    rw [Bool.eq_iff_iff]
    simp only [List.contains_eq_mem, List.mem_map, decide_eq_true_eq]
    exact ⟨fun ⟨y, hy, e⟩ => by rw [← Int.ofNat_inj.1 e]; exact hy, fun h => ⟨x, h, rfl⟩⟩
  rw [← he]
  exact refIn0_any v _ _ w h (by simp; omega)
set_option maxRecDepth 100000 in
set_option maxHeartbeats 1000000 in
theorem refWithS_any (v : Value) (row : List Nat) (k : Nat) (w : World) (hv : Rd w v (nats row)) (hs : SrcN v) (hl : row.length ≤ 1000) :
    Calls Tryd.prog 49 #[v, .int .i64 (k : Int)] w fun e w' => ∃ v', e = .returned v' ∧ w'.ownsRow w.heap.size 3 1 v' (row.length + 1) (nats (row ++ [k])) ∧ SrcN v' ∧ Below w.heap.size w w' := by
  obtain ⟨j0, hj0, hy0, hy1', hy2'⟩ := info_parts infoN11
  have HV := Lib.hid hv
  have HS := Lib.hid hs
  obtain ⟨a, c, rfl⟩ := hv.len
  rw [nats_len] at HV HS ⊢
  have hba : Below w.heap.size w (w.alloc (.cells #[] 3)) := (Below.refl _ w).alloc (Nat.le_refl _) _
  have HBA := Lib.hid hba
  have HOA := Lib.hid (World.ownsRow_made (e := 3) (base := w.heap.size) (size := 1) w #[] 0 (Nat.le_refl _) (by unfold maxLen; omega) (by simp))
  have HNA : Hid (nats row ++ [.int .i64 (k : Int)] = nats (row ++ [k])) := by unfold Hid; simp [nats]
  clear hv hs hba
  go_enter Tryd.func49, Tryd.ntmps49
  go_wp2_with (at_builtin; refine wpList_append_srcI rfl _ _ rfl w.heap.size _ 0 [] rfl HOA.out _ row rfl (HV.out.below HBA.out (Nat.le_refl _)) HS.out (by omega) HBA.out.size ?_)
  intro v1 w1 ho1 hg1
  have hb1 := HBA.out.grown hg1 HBA.out.size (fun x hx => (HOA.out.lt x hx).1)
  have HO1 := Lib.hid ho1
  have HB1 := Lib.hid hb1
  obtain ⟨a1, c1, rfl⟩ := row_slice ho1
  clear ho1 hg1 hb1
  go_wp2_with (at_builtin; refine wpList_append_own _ rfl _ _ 24 rfl w.heap.size 3 j0 (.int .i64 0) 1 8 Tryd.underlying24 hj0 hy0 hy1' hy2' rfl (by decide) (.slice a1 row.length c1) row.length (nats row) rfl (HO1.out.alloc _) ⟨w1.heap.size, 0, none⟩ 1 1 [.int .i64 (k : Int)] rfl rfl (cell_one_at w1 _ _) (one_int _ _) (by unfold maxLen; omega) (by omega) (by have := HB1.out.size; simp; omega) ?_)
  intro v2 w2 ho2 hg2 _
  rw [HNA.out] at ho2
  have HO2 := Lib.hid ho2
  have HB2 := Lib.hid ((HB1.out.alloc HB1.out.size _).grown hg2 (by have := HB1.out.size; simp; omega) (fun x hx => (HO1.out.lt x hx).1))
  obtain ⟨a2, c2, rfl⟩ := row_slice ho2
  clear ho2 hg2
  go_wp2
  go_ret
  exact ⟨_, rfl, HO2.out, SrcN.of_row HO2.out, HB2.out⟩
theorem refOfS_any (v : Value) (h : List Ev) (w : World) (hv : Evs w v h) (hl : h.length ≤ 65536) (hcap : ∀ a n c, v = .slice a n c → n ≤ c) :
    Calls Tryd.prog 10 #[v] w fun e w' => ∃ v', e = .returned v' ∧ Txs w' v' (tableS h) ∧ Below w.heap.size w w' := by
  have HT := Lib.hid (refTable_any v h w hv hl hcap)
  clear hv
  go_enter Tryd.func10, Tryd.ntmps10
  go_wp2_with fail
  refine HT.out.mono ?_
  rintro e w1 ⟨v1, rfl, hv1, hb1⟩
  have HV1 := Lib.hid hv1
  have HB1 := Lib.hid hb1
  obtain ⟨a1, c1, rfl⟩ := hv1.len
  clear hv1 hb1
  go_wp2
  go_ret
  exact ⟨_, rfl, HV1.out, HB1.out⟩
set_option maxRecDepth 100000 in
theorem refWhyS_any (v : Value) (h : List Ev) (B : Int) (w : World) (hv : Evs w v h) (hl : h.length ≤ 65536) (hcap : ∀ a n c, v = .slice a n c → n ≤ c) :
    Calls Tryd.prog 6 #[v, .int .i64 B] w fun e w' => e = .returned (.int .i64 ((srchE h B : Nat) : Int)) ∧ Below w.heap.size w w' := by
  have HW := Lib.hid (why_any v h w hv hl hcap)
  rw [whyS_check] at HW
  clear hv
  unfold srchE
  by_cases h0 : (checkS h).2 = 0
  · simp only [if_pos h0]
    rw [h0] at HW
    clear h0
    by_cases h1 : B < 0
    · have h2 : B < 0 ∨ 1000000 < B := .inl h1
      simp only [if_pos h2]
      clear h2
      go_enter Tryd.func6, Tryd.ntmps6
      go_wp2_with fail
      refine HW.out.mono ?_
      rintro e w1 ⟨rfl, hb1⟩
      have HB1 := Lib.hid hb1
      clear hb1
      go_wp2
      go_ret
      exact ⟨rfl, HB1.out⟩
    · by_cases h3 : 1000000 < B
      · have h2 : B < 0 ∨ 1000000 < B := .inr h3
        simp only [if_pos h2]
        clear h2
        go_enter Tryd.func6, Tryd.ntmps6
        go_wp2_with fail
        refine HW.out.mono ?_
        rintro e w1 ⟨rfl, hb1⟩
        have HB1 := Lib.hid hb1
        clear hb1
        go_wp2
        go_ret
        exact ⟨rfl, HB1.out⟩
      · have h2 : ¬ (B < 0 ∨ 1000000 < B) := by omega
        simp only [if_neg h2]
        clear h2
        go_enter Tryd.func6, Tryd.ntmps6
        go_wp2_with fail
        refine HW.out.mono ?_
        rintro e w1 ⟨rfl, hb1⟩
        have HB1 := Lib.hid hb1
        clear hb1
        go_wp2
        go_ret
        exact ⟨rfl, HB1.out⟩
  · simp only [if_neg h0]
    obtain ⟨er, her⟩ : ∃ er, (checkS h).2 = er := ⟨_, rfl⟩
    rw [her] at h0 HW ⊢
    have te : ((er : Int) == 0) = false := by rw [beq_eq_false_iff_ne]; omega
    clear her h0
    go_enter Tryd.func6, Tryd.ntmps6
    go_wp2_with fail
    refine HW.out.mono ?_
    rintro e w1 ⟨rfl, hb1⟩
    have HB1 := Lib.hid hb1
    clear hb1
    go_wp2
    go_ret
    exact ⟨rfl, HB1.out⟩
end Go.Proofs.YtoemcdcabamgiaaDoor
/- The walks of the reference's left, free. -/
namespace Go.Proofs.YtoemcdcabamgiaaDoor.WPlain
end Go.Proofs.YtoemcdcabamgiaaDoor.WPlain
namespace Go.Proofs.YtoemcdcabamgiaaDoor.QPlain
end Go.Proofs.YtoemcdcabamgiaaDoor.QPlain
namespace Go.Proofs.YtoemcdcabamgiaaDoor.RPlain
end Go.Proofs.YtoemcdcabamgiaaDoor.RPlain
namespace Go.Proofs.YtoemcdcabamgiaaDoor
open Go.RowKit WPlain QPlain RPlain

theorem left_take (who : Nat) (row : List Nat) (k : Nat) : (List.range (k + 1)).filter (fun k => who.testBit k && !row.contains k) = if (who.testBit k && !row.contains k) = true then (List.range k).filter (fun k => who.testBit k && !row.contains k) ++ [k] else (List.range k).filter (fun k => who.testBit k && !row.contains k) := by
  rw [List.range_succ, List.filter_append]
  cases hc : (who.testBit k && !row.contains k) <;> simp only [List.filter_cons, List.filter_nil, hc] <;> simp
/-- a search's terms by value, as they lie in a box -/
def gC (lv : Value) (who c B : Nat) : Array Value := #[lv, .int .u32 (who : Int), .int .u32 (c : Int), .int .i64 (B : Int)]
set_option maxRecDepth 100000 in
set_option maxHeartbeats 2000000 in
theorem refLeft_any (lv rv : Value) (l : List Tx) (who c B : Nat) (row : List Nat) (w : World) (hv : Txs w lv l) (hl : l.length ≤ 6) (hw : who < 4294967296) (hr : Rd w rv (nats row)) (hrl : row.length ≤ 1000) :
    Calls Tryd.prog 47 #[.agg (gC lv who c B), rv] w fun e w' => ∃ v', e = .returned v' ∧ w'.ownsRow w.heap.size 3 1 v' (leftS l who row).length (nats (leftS l who row)) ∧ Below w.heap.size w w' := by
  obtain ⟨j0, hj0, hy0, hy1', hy2'⟩ := info_parts infoN11
  have HFE : Hid (leftS l who row = (List.range l.length).filter (fun k => who.testBit k && !row.contains k)) := rfl
  have HST := Lib.hid (left_take who row)
  obtain ⟨a, c', rfl⟩ := hv.len
  obtain ⟨w1, hw1⟩ : ∃ w1, (w.alloc (.cells #[.slice a l.length c', .int .u32 (who : Int), .int .u32 (c : Int), .int .i64 (B : Int)] 63)).alloc (.cells #[] 3) = w1 := ⟨_, rfl⟩
  obtain ⟨N, hN⟩ : ∃ N, w.heap.size = N := ⟨_, rfl⟩
  have hat : At w1 N (gC (.slice a l.length c') who c B) 63 := by
    rw [← hw1, ← hN]
    exact (At.new w _ _).alloc _
  have hb1 : Below N w w1 := by
    rw [← hw1, ← hN]
    exact ((Below.refl _ w).alloc (Nat.le_refl _) _).alloc (by simp) _
  have HR0 : Hid (w1.ownsRow (N + 1) 3 1 (.slice (some ⟨N + 1, 0, none⟩) 0 0) ((List.range 0).filter (fun k => who.testBit k && !row.contains k)).length (nats ((List.range 0).filter (fun k => who.testBit k && !row.contains k)))) := by
    unfold Hid
    rw [← hw1, ← hN]
    have := World.ownsRow_made (size := 1) (e := 3) (base := w.heap.size + 1) (w.alloc (.cells #[.slice a l.length c', .int .u32 (who : Int), .int .u32 (c : Int), .int .i64 (B : Int)] 63)) #[] 0 (by simp) (by unfold maxLen; omega) rfl
    rwa [World.size_alloc] at this
  have HAT := Lib.hid hat
  have HB1 := Lib.hid hb1
  have HNL : Hid (N + 1 ≤ w1.heap.size) := hat.lt
  have HRV := Lib.hid hr
  have HL : Hid (row.length ≤ 65536) := by show _ ≤ _; omega
  have HW := Lib.hid hw
  obtain ⟨ra, rc, rfl⟩ := hr.len
  obtain ⟨rn, hrn⟩ : ∃ z, (nats row).length = z := ⟨_, rfl⟩
  rw [hrn] at HRV ⊢
  have g0 : w1.cell? ⟨N, 0, none⟩ = some (.slice a l.length c') := hat.cell rfl
  clear hv hr hat hb1 hrl hw hrn
  unfold gC
  go_enter Tryd.func47, Tryd.ntmps47
  go_wp2_with fail
  obtain ⟨pd, hpd⟩ : ∃ pd, (fun k => who.testBit k && !row.contains k) = pd := ⟨_, rfl⟩
  have HPD := Lib.hid hpd
  rw [hpd] at HST HR0 HFE
  clear hpd g0
  go_loopw [5, 11] (fun y x wr => ∃ k : Nat, k ≤ l.length ∧ x = .int .i64 k ∧ Hid (wr.ownsRow (N + 1) 3 1 y ((List.range k).filter pd).length (nats ((List.range k).filter pd))) ∧ Hid (Below (N + 1) w1 wr)) (fun _ x _ => l.length - (intOf x).toNat)
  case atStart => exact ⟨0, by omega, rfl, HR0, ⟨rfl, rfl, rfl, Nat.le_refl _, fun _ _ => rfl⟩⟩
  case round =>
    clear HR0 hw1
    obtain ⟨k, hk, rfl, HR, HB⟩ := hrel
    by_cases hlt : k < l.length
    · have HSK := Lib.hid (HST.out k)
      have hgl : ((List.range k).filter pd).length ≤ 6 := by
        have := List.length_filter_le pd (List.range k)
        rw [List.length_range] at this
        omega
      have ha2 := HAT.out.below HB.out (Nat.lt_succ_self N)
      have g1 : wr.cell? ⟨N, 1, none⟩ = some (.int .u32 (who : Int)) := ha2.cell rfl
      have HBT := Lib.hid (refBit9_any who k HW.out (by omega) wr)
      have HIN := Lib.hid (refInS_any _ row k wr (HRV.out.below (HB1.out.trans (HB.out.mono (by omega))) (by omega)) HL.out)
      have hpk : pd k = (who.testBit k && !row.contains k) := by rw [← HPD.out]
      have hbs := HB.out.size
      have hbN := HNL.out
      generalize (List.range k).filter pd = M at *
      obtain ⟨ma, mc, rfl⟩ := row_slice HR.out
      clear ha2
      cases hb1 : who.testBit k with
      | false =>
        rw [hb1] at HBT hpk
        have HS2 : Hid ((List.range (k + 1)).filter pd = M) := by unfold Hid; rw [HSK.out, hb1]; rfl
        clear hb1 hpk HSK HIN
        go_wp2_with (go_at_call 69; refine HBT.out.mono ?_; rintro e w3 ⟨rfl, hw3⟩; rw [hw3]; clear hw3)
        go_roundw
        case rel => exact ⟨k + 1, by omega, by go_num, by rw [HS2.out]; exact HR, HB⟩
        case measure => simp [intOf]; omega
      | true =>
        rw [hb1] at HBT hpk
        cases hb2 : row.contains k with
        | true =>
          rw [hb2] at HIN hpk
          have HS2 : Hid ((List.range (k + 1)).filter pd = M) := by unfold Hid; rw [HSK.out, hb1, hb2]; rfl
          clear hb1 hb2 hpk HSK
          go_wp2_with (first | (go_at_call 69; refine HBT.out.mono ?_; rintro e w3 ⟨rfl, hw3⟩; rw [hw3]; clear hw3) | (go_at_call 70; refine HIN.out.mono ?_; rintro e w3 ⟨rfl, hw3⟩; rw [← hw3]; clear hw3))
          go_roundw
          case rel => exact ⟨k + 1, by omega, by go_num, by rw [HS2.out]; exact HR, HB⟩
          case measure => simp [intOf]; omega
        | false =>
          rw [hb2] at HIN hpk
          have HS2 : Hid ((List.range (k + 1)).filter pd = M ++ [k]) := by unfold Hid; rw [HSK.out, hb1, hb2]; rfl
          have HNA : Hid (nats M ++ [.int .i64 (k : Int)] = nats (M ++ [k])) := by unfold Hid; simp [nats]
          clear hb1 hb2 hpk HSK
          go_wp2_with (first
            | (go_at_call 69; refine HBT.out.mono ?_; rintro e w3 ⟨rfl, hw3⟩; rw [hw3]; clear hw3)
            | (go_at_call 70; refine HIN.out.mono ?_; rintro e w3 ⟨rfl, hw3⟩; rw [← hw3]; clear hw3)
            | (at_builtin; refine wpList_append_own _ rfl _ _ 24 rfl (N + 1) 3 j0 (.int .i64 0) 1 8 Tryd.underlying24 hj0 hy0 hy1' hy2' rfl (by decide) (.slice ma M.length mc) M.length (nats M) rfl (HR.out.alloc _) ⟨wr.heap.size, 0, none⟩ 1 1 [.int .i64 (k : Int)] rfl rfl (cell_one_at wr _ _) (one_int _ _) (by unfold maxLen; omega) (by omega) (by simp; omega) ?_))
          intro v2 w2 ho2 hg2 _
          have HB2 := Lib.hid ((HB.out.alloc (by omega) _).grown hg2 (by simp; omega) (fun x hx => (HR.out.lt x hx).1))
          rw [HNA.out] at ho2
          have HO2 : Hid (w2.ownsRow (N + 1) 3 1 v2 (M ++ [k]).length (nats (M ++ [k]))) := by
            unfold Hid
            rw [List.length_append]
            exact ho2
          clear ho2 hg2
          go_wp2_with fail
          go_roundw
          case rel => exact ⟨k + 1, by omega, by go_num, by rw [HS2.out]; exact HO2, HB2⟩
          case measure => simp [intOf]; omega
    · obtain rfl : k = l.length := by omega
      rw [← HFE.out] at HR
      obtain ⟨ma, mc, rfl⟩ := row_slice HR.out
      clear HST HPD
      go_wp2_with fail
      go_ret
      exact ⟨_, rfl, by rw [hN]; exact own_monoT HR.out (by omega), by rw [hN]; exact HB1.out.trans (HB.out.mono (by omega))⟩
theorem freeS_cons (l : List Tx) (i : Nat) (r : List Nat) (k : Nat) : freeS l (i :: r) k = (!bfrAt l i k && freeS l r k) := rfl
set_option maxRecDepth 100000 in
set_option maxHeartbeats 2000000 in
theorem refFree_any (lv pv : Value) (l : List Tx) (who c B : Nat) (ps : List Nat) (k : Nat) (w : World) (hv : Txs w lv l) (hl : l.length ≤ 6) (hr : Rd w pv (nats ps)) (hps : ∀ i ∈ ps, i < l.length) (hk : k < l.length) (hrl : ps.length ≤ 1000) :
    Calls Tryd.prog 48 #[.agg (gC lv who c B), pv, .int .i64 (k : Int)] w fun e w' => e = .returned (.bool (freeS l ps k)) ∧ Below w.heap.size w w' := by
  obtain ⟨a, c', rfl⟩ := hv.len
  obtain ⟨w1, hw1⟩ : ∃ w1, w.alloc (.cells #[.slice a l.length c', .int .u32 (who : Int), .int .u32 (c : Int), .int .i64 (B : Int)] 63) = w1 := ⟨_, rfl⟩
  obtain ⟨N, hN⟩ : ∃ N, w.heap.size = N := ⟨_, rfl⟩
  have hat : At w1 N (gC (.slice a l.length c') who c B) 63 := by
    rw [← hw1, ← hN]
    exact At.new w _ _
  have hb1 : Below N w w1 := by
    rw [← hw1, ← hN]
    exact (Below.refl _ w).alloc (Nat.le_refl _) _
  have hv1 := hv.below hb1 (by omega)
  have hr1 := hr.below hb1 (by omega)
  have HBF : Hid (∀ i z (hi : i < l.length), Calls Tryd.prog 71 #[.slice a l.length c', .int .i64 (i : Int), .int .i64 (k : Int)] (w1.drewN z) fun e w' => e = .returned (.bool (bfrAt l i k)) ∧ ∃ y, w' = (w1.drewN z).drewN y) := fun i z hi => by
    have := refBefore_any (.slice a l.length c') l i k (w1.drewN z) (hv1.drewN z) hi hk (by omega)
    rwa [← bfrAt_at hi hk] at this
  have HPS := Lib.hid hps
  have HRV := Lib.hid hr1
  have HAT := Lib.hid hat
  have HB1 := Lib.hid hb1
  have HF0 : Hid (freeS l ps k = freeS l (ps.drop 0) k) := rfl
  have HFE : Hid (freeS l (ps.drop ps.length) k = true) := by unfold Hid; rw [List.drop_length]; rfl
  have HFN : Hid (∀ j (hj : j < ps.length), freeS l (ps.drop j) k = (!bfrAt l ps[j] k && freeS l (ps.drop (j + 1)) k)) := fun j hj => by rw [List.drop_eq_getElem_cons hj, freeS_cons]
  obtain ⟨ra, rc, rfl⟩ := hr.len
  rw [nats_len] at HRV ⊢
  obtain ⟨res, hres⟩ : ∃ res, freeS l ps k = res := ⟨_, rfl⟩
  rw [hres] at HF0 ⊢
  clear hv hr hat hb1 hps hv1 hr1 hres
  unfold gC
  go_enter Tryd.func48, Tryd.ntmps48
  go_wp2_with fail
  go_loopw [11] (fun x wr => ∃ j : Nat, j ≤ ps.length ∧ x = .int .i64 j ∧ Hid (res = freeS l (ps.drop j) k) ∧ ∃ z, wr = w1.drewN z) (fun x _ => ps.length - (intOf x).toNat)
  case atStart => exact ⟨0, by omega, rfl, HF0, 0, rfl⟩
  case round =>
    clear HF0 hw1
    obtain ⟨j, hj, rfl, HF, z, hwz⟩ := hrel
    by_cases hlt : j < ps.length
    · obtain ⟨b, o, pc, he, hbl, hcs⟩ := HRV.out.opened (by rw [nats_len]; omega)
      rw [nats_len] at he
      simp only [Value.slice.injEq] at he
      obtain ⟨rfl, -, rfl⟩ := he
      have hcj : wr.cell? ⟨b, o + j, none⟩ = some (.int .i64 (ps[j] : Int)) := by rw [hwz]; exact hcs j _ (nats_get hlt)
      have g0 : wr.cell? ⟨N, 0, none⟩ = some (.slice a l.length c') := by rw [hwz]; exact HAT.out.cell rfl
      have HBI := Lib.hid (HBF.out ps[j] z (HPS.out _ (List.getElem_mem hlt)))
      rw [← hwz] at HBI
      have HF2 : Hid (res = (!bfrAt l ps[j] k && freeS l (ps.drop (j + 1)) k)) := by unfold Hid; rw [HF.out, HFN.out j hlt]
      have HWZ := Lib.hid hwz
      clear hcs hwz HF hbl
      generalize ps[j] = i at *
      cases hb : bfrAt l i k with
      | true =>
        rw [hb] at HBI HF2
        clear hb
        go_wp2_with (go_at_call 71; refine HBI.out.mono ?_; rintro e w3 ⟨rfl, y, hw3⟩)
        go_ret
        exact ⟨by rw [HF2.out]; rfl, by rw [hN, HWZ.out]; exact below_drN (below_drN HB1.out z) y⟩
      | false =>
        rw [hb] at HBI HF2
        clear hb
        go_wp2_with (go_at_call 71; refine HBI.out.mono ?_; rintro e w3 ⟨rfl, y, hw3⟩)
        go_roundw
        case rel => exact ⟨j + 1, by omega, by go_num, by unfold Hid; rw [HF2.out]; rfl, z + y, by rw [HWZ.out, World.drewN_drewN]⟩
        case measure => simp [intOf]; omega
    · obtain rfl : j = ps.length := by omega
      have HF2 : Hid (res = true) := by unfold Hid; rw [HF.out, HFE.out]
      have HWZ := Lib.hid hwz
      clear hwz HF
      go_wp2_with fail
      go_ret
      exact ⟨by rw [HF2.out]; rfl, by rw [hN, HWZ.out]; exact below_drN HB1.out z⟩
end Go.Proofs.YtoemcdcabamgiaaDoor
