/- Merged: ExtL, ExtM. -/
import Derived.Test.YtmnblljenobofaaGreatDoorMg21
import Derived.Test.YtmnblljenobofaaGreatDoorMg2
/- The walk of the reference's ways. -/
namespace Go.Proofs.YtmnblljenobofaaGreatDoor.RPlain
end Go.Proofs.YtmnblljenobofaaGreatDoor.RPlain
namespace Go.Proofs.YtmnblljenobofaaGreatDoor
open Go.RowKit RPlain

/-- append to a row of the call's own: what the old value reads is as it was -/
theorem run_append_keep {P : Program} (w : World) (base : Nat) (t ty e : TypeId) (i : TypeInfo) (z : Value) (bytes : Nat) (ht : P.underlying t = some (.slice e)) (hi : P.info? e = some i) (hz : i.zero = some z)
    (hsize : i.size = 1) (hby : i.bytes = bytes) (hzs : z.cells.size = 1) (v : Value) (n : Nat) (xs : List Value) (hown : w.ownsRow base e 1 v n xs)
    (a : Addr) (m c : Nat) (news : List Value) (hl : news.length = m * 1) (hnews : ∀ j u, news[j]? = some u → w.cell? (a.add j) = some u) (h1 : ∀ u ∈ news, u.oneCell' = true)
    (h63 : n + m ≤ maxLen) (hbytes : (n + m) * bytes ≤ 140737488355328) (hbase : base ≤ w.heap.size) :
    ∃ v' w', (Builtin.append_ #[t, t] ty #[v, .slice (some a) m c]).run P w = .ok v' w' ∧ w'.ownsRow base e 1 v' (n + m) (xs ++ news) ∧ w.grownBy w' v.ownBlock ∧ Rd w' v xs := by
  obtain ⟨v', w', hr, h2, h3, _⟩ := run_append_own w base t ty e i z 1 bytes ht hi hz hsize hby hzs (by decide) v n xs hown a m c news hl hnews h1 h63 hbytes hbase
  refine ⟨v', w', hr, h2, h3, ?_⟩
  have hxl : xs.length = n := by have := hown.1; omega
  rcases hown.2 with ⟨rfl, rfl⟩ | ⟨g, cap, cur, rfl, hbg, hg, hnc, hcm, hcs, htake⟩
  · have hx : xs = [] := List.eq_nil_of_length_eq_zero hxl
    exact .inl ⟨hx, _, _, rfl⟩
  · have hadd : ∀ j, (⟨g, 0, none⟩ : Addr).add j = ⟨g, 0 + j, none⟩ := by intro j; unfold Addr.add; split <;> simp_all
    by_cases h0 : 0 < xs.length
    · refine .inr ⟨h0, g, 0, cap, by rw [hxl], fun j u hu => ?_⟩
      rw [← hadd]
      by_cases hroom : n + m ≤ cap
      · have hfit : n * i.size + news.length ≤ cur.size := by rw [hl, hcs, hsize]; omega
        have hr2 := run_append_room (P := P) w t ty e i ht hi g n cap cur hg a m c news (by rw [hl, hsize]) hnews h1 hroom hfit
        rw [hr] at hr2
        simp only [Result.ok.injEq] at hr2
        rw [hr2.1] at h2
        refine h2.cells (g := g) rfl j u ?_
        rw [List.getElem?_append_left (List.getElem?_eq_some_iff.1 hu).1]
        exact hu
      · have holds : ∀ j u, xs[j]? = some u → w.cell? ((⟨g, 0, none⟩ : Addr).add j) = some u := hown.cells (g := g) rfl
        have hr2 := run_append_grow (P := P) w t ty e i z ht hi hz ⟨g, 0, none⟩ n cap xs (by rw [hown.1, hsize]) holds a m c news (by rw [hl, hsize]) hnews (by omega) (by simp only [maxLen] at h63; omega) (growslice_fits (by omega) (by rw [hby]; exact hbytes))
        rw [hr] at hr2
        simp only [Result.ok.injEq] at hr2
        rw [hr2.2]
        exact (((Below.refl w.heap.size w).drew).alloc (Nat.le_refl _) _).cell (p := (⟨g, 0, none⟩ : Addr).add j) (World.block_lt_of_cell? w _ (holds j u hu)) |>.trans (holds j u hu)
    · have hx : xs = [] := List.length_eq_zero_iff.1 (by omega)
      subst hx
      simp at hxl
      subst hxl
      exact .inl ⟨rfl, _, _, rfl⟩
theorem wpList_append_keep (w : World) {P : Program} {ops : Array Oper} {rest : List Oper} {o : Oper} {a : Act} {Q : Exit → Act → World → Prop} (hgd : o.guard = none) (s x : Operand) (t : TypeId)
    (ho : o.op = .call { callee := .builtin .append, args := #[s, x], argTypes := #[t, t] })
    (base : Nat) (e : TypeId) (i : TypeInfo) (z : Value) (bytes : Nat) (ht : P.underlying t = some (.slice e)) (hi : P.info? e = some i) (hz : i.zero = some z)
    (hsize : i.size = 1) (hby : i.bytes = bytes) (hzs : z.cells.size = 1)
    (v : Value) (n : Nat) (xs : List Value) (hs : a.eval s = v) (hown : w.ownsRow base e 1 v n xs)
    (ad : Addr) (m c : Nat) (news : List Value) (hx : a.eval x = .slice (some ad) m c) (hl : news.length = m * 1) (hnews : ∀ j u, news[j]? = some u → w.cell? (ad.add j) = some u) (h1 : ∀ u ∈ news, u.oneCell' = true)
    (h63 : n + m ≤ maxLen) (hbytes : (n + m) * bytes ≤ 140737488355328) (hbase : base ≤ w.heap.size)
    (h : ∀ v' w', w'.ownsRow base e 1 v' (n + m) (xs ++ news) → w.grownBy w' v.ownBlock → Rd w' v xs → wpList P ops Q rest (a.put o.dst v') w') : wpList P ops Q (o :: rest) a w := by
  refine wpList_plain hgd fun K hK => ?_
  obtain ⟨v', w', hr, h2, h3, h4⟩ := run_append_keep (P := P) w base t o.type e i z bytes ht hi hz hsize hby hzs v n xs hown ad m c news hl hnews h1 h63 hbytes hbase
  unfold Oper.wp execOp
  simp only [ho, resolve, invoke, builtin, Sem.run_bind, Sem.run_pure, Result.andThen_ok, List.map_toArray, List.map_cons, List.map_nil, hs, hx, hr]
  exact hK _ _ (h v' w' h2 h3 h4)
theorem waysG_snoc (A : List Nat) (n : Nat) : ∀ (s : Nat) (out : List Nat), waysG A n (s + 1) out = stepW A n (waysG A n s out) := by
  intro s
  induction s with
  | zero => intro out; rfl
  | succ s ih => intro out; rw [waysG, ih]; rfl
/-- what a place adds when the first j places of the row have been asked -/
def addJ (A out : List Nat) (k j : Nat) : List Nat := if ((out.take j).any fun x => aft A x k) = true ∧ out.contains k = false then out ++ [k] else out
theorem addJ_all (A out : List Nat) (k : Nat) : addJ A out k out.length = addW A out k := by unfold addJ addW; rw [List.take_length]
theorem addJ_skip {A out : List Nat} {k j : Nat} (hj : j < out.length) (h : aft A out[j] k = false) : addJ A out k (j + 1) = addJ A out k j := by
  unfold addJ
  rw [List.take_succ_eq_append_getElem hj, List.any_append]
  simp [h]
theorem addJ_has {A out : List Nat} {k j : Nat} (hj : j < out.length) (_ : aft A out[j] k = true) (hc : (addJ A out k j).contains k = true) : addJ A out k (j + 1) = addJ A out k j := by
  unfold addJ at *
  rw [List.take_succ_eq_append_getElem hj, List.any_append]
  by_cases ho : out.contains k = true
  · simp only [ho]; simp
  · rw [Bool.not_eq_true] at ho
    split at hc
    · rename_i h1
      rw [if_pos ⟨by rw [h1.1]; rfl, h1.2⟩, if_pos h1]
    · rw [ho] at hc; exact absurd hc (by decide)
theorem addJ_new {A out : List Nat} {k j : Nat} (hj : j < out.length) (h : aft A out[j] k = true) (hc : (addJ A out k j).contains k = false) : addJ A out k j = out ∧ addJ A out k (j + 1) = out ++ [k] := by
  unfold addJ at *
  split at hc
  · simp at hc
  · rename_i h1
    refine ⟨if_neg h1, ?_⟩
    rw [List.take_succ_eq_append_getElem hj, List.any_append, if_pos]
    exact ⟨by simp [h], hc⟩
theorem addJ_len (A out : List Nat) (k j : Nat) : (addJ A out k j).length ≤ out.length + 1 := by
  unfold addJ
  split <;> simp
theorem start_snoc (A : List Nat) (i k : Nat) : startW A (k + 1) i = if aft A i k = true then startW A k i ++ [k] else startW A k i := by
  unfold startW
  rw [List.range_succ, List.filter_append]
  cases h : aft A i k <;> simp [h]
theorem start_not (A : List Nat) (i k : Nat) : (startW A k i).contains k = false := by
  unfold startW
  rw [List.contains_eq_mem]
  simp
theorem start_len (A : List Nat) (i k : Nat) : (startW A k i).length ≤ k := by
  have := List.length_filter_le (fun x => aft A i x) (List.range k)
  rw [List.length_range] at this
  exact this
theorem way_len {A : List Nat} {i : Nat} {out : List Nat} (h : RPlain.Way A i out) : out.length ≤ A.length := by
  have := nodup_le out (List.range A.length) h.nodup (fun x hx => List.mem_range.2 (h.lt x hx))
  rwa [List.length_range] at this
theorem way_fold {A : List Nat} {i : Nat} {out : List Nat} (h : RPlain.Way A i out) : ∀ k, k ≤ A.length → RPlain.Way A i ((List.range k).foldl (addW A) out) := by
  intro k
  induction k with
  | zero => intro _; exact h
  | succ k ih =>
    intro hk
    rw [List.range_succ, List.foldl_append]
    exact (ih (by omega)).add (by omega)
theorem way_G {A : List Nat} {i : Nat} (hi : i < A.length) : ∀ s, RPlain.Way A i (waysG A A.length s (startW A A.length i)) := by
  intro s
  induction s with
  | zero => exact RPlain.Way.start hi
  | succ s ih => rw [waysG_snoc]; exact ih.step
theorem fold_snoc (A out : List Nat) (k : Nat) : (List.range (k + 1)).foldl (addW A) out = addW A ((List.range k).foldl (addW A) out) k := by
  rw [List.range_succ, List.foldl_append]; rfl
theorem own_nil_int {w : World} {B : Nat} (hB : B ≤ w.heap.size) : (w.alloc (.cells #[] 3)).ownsRow B 3 1 (.slice (some ⟨w.heap.size, 0, none⟩) 0 0) 0 [] :=
  World.ownsRow_made (e := 3) (size := 1) w #[] 0 hB (by unfold maxLen; omega) (by simp)
set_option maxRecDepth 100000 in
set_option maxHeartbeats 4000000 in
theorem refWays_any (av : Value) (A : List Nat) (i : Nat) (w : World) (hav : Rd w av (u32s A)) (hA : ∀ x ∈ A, x < 4294967296) (hal : A.length ≤ 6) (hi : i < A.length) :
    Calls Tryz.prog 55 #[av, .int .i64 (i : Int), .int .i64 (A.length : Int)] w fun e w' => ∃ v, e = .returned v ∧ Rd w' v (nats (waysS A i)) ∧ Below w.heap.size w w' := by
  obtain ⟨j0, hj0, hy0, hy1', hy2'⟩ := info_parts infoN11
  have HAV := Lib.hid hav
  have HA := Lib.hid hA
  obtain ⟨aa, ac, rfl⟩ := hav.len
  rw [u32s_len] at HAV ⊢
  have hba : Below w.heap.size w (w.alloc (.cells #[] 3)) := (Below.refl _ w).alloc (Nat.le_refl _) _
  have HBA := Lib.hid hba
  have HOA := Lib.hid (own_nil_int (w := w) (Nat.le_refl w.heap.size))
  have HFIN : Hid (waysS A i = waysG A A.length (A.length - 1) (startW A A.length i)) := rfl
  have HWAY := Lib.hid (fun s => way_G (A := A) hi s)
  have hn0 : ((A.length : Int) == 0) = false := by rw [beq_eq_false_iff_ne]; omega
  obtain ⟨n, hn⟩ : ∃ n, A.length = n := ⟨_, rfl⟩
  -- a place's number, wherever the world has gone
  have HLD : Hid (∀ (W : World) (x : Nat) (_ : x < A.length), Below w.heap.size w W → ∃ b o, aa = some ⟨b, o, none⟩ ∧ (∃ z : Nat, W.cell? ⟨b, o + x, none⟩ = some (.int .u32 (z : Int)) ∧ z < 4294967296 ∧ ∀ k, z.testBit k = aft A x k)) := by
    intro W x hx hb
    obtain ⟨b, o, c', he, hbl, hc⟩ := (HAV.out.below hb (Nat.le_refl _)).opened (by rw [u32s_len]; omega)
    simp only [Value.slice.injEq] at he
    refine ⟨b, o, he.1, A[x], hc x _ (u32s_get hx), HA.out _ (List.getElem_mem hx), fun k => ?_⟩
    unfold aft
    rw [List.getD_eq_getElem?_getD, List.getElem?_eq_getElem hx]; rfl
  clear hav hA hba HAV HA
  rw [hn] at hal hi hn0 HFIN HWAY HLD ⊢
  have HN := Lib.hid hn
  go_enter Tryz.func55, Tryz.ntmps55
  go_wp2_with fail
  go_loopw [7, 19] (fun y x wr => ∃ k : Nat, k ≤ n ∧ x = .int .i64 k ∧ Hid (wr.ownsRow w.heap.size 3 1 y (startW A k i).length (nats (startW A k i))) ∧ Hid (Below w.heap.size w wr)) (fun _ x _ => n - (intOf x).toNat)
  case atStart => exact ⟨0, by omega, rfl, HOA, HBA⟩
  case round =>
    clear HOA HBA
    obtain ⟨k, hk, rfl, HO, HB⟩ := hrel
    have hsl := start_len A i k
    by_cases hlt : k < n
    · obtain ⟨b, o, rfl, z, hz1, hz2, hz3⟩ := HLD.out wr i hi HB.out
      have hbt := fun W => refBit9_any z k hz2 (by omega) W
      have hzk := hz3 k
      have hss := start_snoc A i k
      have hnc := start_not A i k
      cases hak : aft A i k with
      | false =>
        simp only [hzk, hak] at hbt
        rw [hak, if_neg (by decide)] at hss
        rw [← hss] at HO
        have HBT := Lib.hid hbt
        clear hbt hzk hz3 hss hnc hak hsl
        obtain ⟨ya, yc, rfl⟩ := row_slice HO.out
        go_wp2_with (go_at_call 72; refine (HBT.out _).mono ?_; rintro e w5 ⟨rfl, hw5⟩; rw [hw5]; clear hw5)
        go_roundw
        case rel => exact ⟨k + 1, by omega, by go_num, HO, HB⟩
        case measure => simp [intOf]; omega
      | true =>
        simp only [hzk, hak] at hbt
        rw [hak, if_pos rfl] at hss
        have HSS : Hid (nats (startW A k i) ++ [.int .i64 (k : Int)] = nats (startW A (k + 1) i) ∧ (startW A k i).length + 1 = (startW A (k + 1) i).length) := by
          unfold Hid
          rw [hss]
          simp [nats]
        obtain ⟨ya, yc, rfl⟩ := row_slice HO.out
        have hhas := fun W hW => hasN_any (.slice ya (startW A k i).length yc) (startW A k i) k W hW (by omega)
        simp only [hnc] at hhas
        have HBT := Lib.hid hbt
        have HHAS := Lib.hid (hhas wr (Rd.of_row HO.out))
        clear hbt hzk hz3 hss hnc hak hhas
        go_wp2_with (first
          | (go_at_call 72; refine (HBT.out _).mono ?_; rintro e w5 ⟨rfl, hw5⟩; rw [hw5]; clear hw5)
          | (go_at_call 35; refine HHAS.out.mono ?_; rintro e w5 ⟨rfl, hw5⟩; rw [← hw5]; clear hw5)
          | (at_builtin; refine wpList_append_own _ rfl _ _ 24 rfl w.heap.size 3 j0 (.int .i64 0) 1 8 Tryz.underlying24 hj0 hy0 hy1' hy2' rfl (by decide) _ _ _ rfl (HO.out.alloc _) ⟨wr.heap.size, 0, none⟩ 1 1 [.int .i64 (k : Int)] rfl rfl (cell_one_at wr _ _) (one_int _ _) (by unfold maxLen; omega) (by omega) (by have := HB.out.size; simp; omega) ?_; intro v2 w2 ho2 hg2 _))
        rw [HSS.out.1, HSS.out.2] at ho2
        have HO2 := Lib.hid ho2
        have HB2 := Lib.hid ((HB.out.alloc HB.out.size _).grown hg2 (by have := HB.out.size; simp; omega) (fun x hx => (HO.out.lt x hx).1))
        clear ho2 hg2
        go_wp2
        go_roundw
        case rel => exact ⟨k + 1, by omega, by go_num, HO2, HB2⟩
        case measure => simp [intOf]; omega
    · obtain rfl : k = n := by omega
      obtain ⟨ya, yc, rfl⟩ := row_slice HO.out
      have HO0 : Hid (wr.ownsRow w.heap.size 3 1 (.slice ya (startW A k i).length yc) (waysG A k 0 (startW A k i)).length (nats (waysG A k 0 (startW A k i)))) := HO.out
      clear HO
      generalize (startW A k i).length = sl at *
      have HB0 := HB
      clear HB hsl
      go_wp2_with fail
      go_loopw [7, 9] (fun y x wr2 => ∃ S : Nat, 1 ≤ S ∧ S ≤ k ∧ x = .int .i64 (S : Int) ∧ Hid (wr2.ownsRow w.heap.size 3 1 y (waysG A k (S - 1) (startW A k i)).length (nats (waysG A k (S - 1) (startW A k i)))) ∧ Hid (Below w.heap.size w wr2)) (fun _ x _ => k - (intOf x).toNat)
      case atStart => exact ⟨1, by omega, by omega, rfl, HO0, HB0⟩
      case round =>
        clear HO0 HB0
        obtain ⟨S, hS1, hs, rfl, HO, HB⟩ := hrel
        by_cases hsk : S < k
        · have hsk2 : (S : Int) < (k : Int) := by omega
          have HW1 := Lib.hid (HWAY.out (S - 1))
          have HST : Hid (waysG A k S (startW A k i) = (List.range k).foldl (addW A) (waysG A k (S - 1) (startW A k i))) := by
            have := waysG_snoc A k (S - 1) (startW A k i)
            rw [show S - 1 + 1 = S from by omega] at this
            exact this
          generalize waysG A k (S - 1) (startW A k i) = O1 at *
          obtain ⟨ya2, yc2, hy7⟩ := row_slice HO.out
          subst hy7
          go_wp2_with fail
          go_loopw [7, 46] (fun y x wr3 => ∃ q : Nat, q ≤ k ∧ x = .int .i64 q ∧ Hid (wr3.ownsRow w.heap.size 3 1 y ((List.range q).foldl (addW A) O1).length (nats ((List.range q).foldl (addW A) O1))) ∧ Hid (Below w.heap.size w wr3)) (fun _ x _ => k - (intOf x).toNat)
          case atStart => exact ⟨0, by omega, rfl, HO, HB⟩
          case round =>
            clear HO HB
            obtain ⟨q, hq, rfl, HO, HB⟩ := hrel
            by_cases hqk : q < k
            · have HW2 := Lib.hid (way_fold HW1.out q (by rw [HN.out]; omega))
              have hl2 : ((List.range q).foldl (addW A) O1).length ≤ k := by have := way_len HW2.out; rw [HN.out] at this; exact this
              have HFS := Lib.hid (fold_snoc A O1 q)
              generalize (List.range q).foldl (addW A) O1 = O2 at *
              have HLT : Hid (∀ x ∈ O2, x < k) := fun x hx => by have := HW2.out.lt x hx; rw [HN.out] at this; exact this
              have HALL := Lib.hid (addJ_all A O2 q)
              have HADL := Lib.hid (addJ_len A O2 q)
              obtain ⟨ya3, yc3, hy7⟩ := row_slice HO.out
              subst hy7
              have HRD0 := Lib.hid (Rd.of_row HO.out)
              have HO4 : Hid (wr.ownsRow w.heap.size 3 1 (.slice ya3 O2.length yc3) (addJ A O2 q 0).length (nats (addJ A O2 q 0))) := by
                have h0 : addJ A O2 q 0 = O2 := by unfold addJ; simp
                rw [h0]
                exact HO.out
              clear HO HW2
              go_wp2_with fail
              go_loopw [7, 51] (fun y x wr4 => ∃ j : Nat, j ≤ O2.length ∧ x = .int .i64 j ∧ Hid (wr4.ownsRow w.heap.size 3 1 y (addJ A O2 q j).length (nats (addJ A O2 q j))) ∧ Hid (Rd wr4 (.slice ya3 O2.length yc3) (nats O2)) ∧ Hid ((addJ A O2 q j).length = O2.length → y = .slice ya3 O2.length yc3) ∧ Hid (Below w.heap.size w wr4)) (fun _ x _ => O2.length - (intOf x).toNat)
              case atStart => exact ⟨0, by omega, rfl, HO4, HRD0, fun _ => rfl, HB⟩
              case round =>
                clear HO4 HRD0 HB
                obtain ⟨j, hj, rfl, HO, HRD, HSAME, HB⟩ := hrel
                by_cases hjl : j < O2.length
                · obtain ⟨yb, yo, yc', hye, hyl, hycs⟩ := HRD.out.opened (by rw [nats_len]; omega)
                  simp only [Value.slice.injEq] at hye
                  obtain ⟨rfl, -, rfl⟩ := hye
                  have hxj := hycs j _ (nats_get hjl)
                  have hxk : O2[j] < k := HLT.out _ (List.getElem_mem hjl)
                  have HSK := Lib.hid (addJ_skip (A := A) (k := q) hjl)
                  have HHS := Lib.hid (addJ_has (A := A) (k := q) hjl)
                  have HNW := Lib.hid (addJ_new (A := A) (k := q) hjl)
                  clear hycs hyl
                  generalize O2[j] = x at *
                  obtain ⟨b, o, rfl, z, hz1, hz2, hz3⟩ := HLD.out wr x (by rw [← HN.out]; omega) HB.out
                  have hbt := fun W => refBit9_any z q hz2 (by omega) W
                  have hzq := hz3 q
                  cases hab : aft A x q with
                  | false =>
                    simp only [hzq, hab] at hbt
                    have hsk := HSK.out hab
                    have HBT := Lib.hid hbt
                    have HO5 : Hid (wr.ownsRow w.heap.size 3 1 u7 (addJ A O2 q (j + 1)).length (nats (addJ A O2 q (j + 1)))) := by unfold Hid; rw [hsk]; exact HO.out
                    have HS5 : Hid ((addJ A O2 q (j + 1)).length = O2.length → u7 = .slice (some ⟨yb, yo, none⟩) O2.length yc3) := by unfold Hid; rw [hsk]; exact HSAME.out
                    clear hbt hzq hz3 hsk hab HSK HHS HNW HO HSAME HALL HADL
                    obtain ⟨ya4, yc4, hy7⟩ := row_slice HO5.out
                    subst hy7
                    go_wp2_with (go_at_call 72; refine (HBT.out _).mono ?_; rintro e w5 ⟨rfl, hw5⟩; rw [hw5]; clear hw5)
                    go_roundw
                    case rel => exact ⟨j + 1, by omega, by go_num, HO5, HRD, HS5, HB⟩
                    case measure => simp [intOf]; omega
                  | true =>
                    simp only [hzq, hab] at hbt
                    have HBT := Lib.hid hbt
                    have hln := HADL.out j
                    obtain ⟨ya4, yc4, hy7⟩ := row_slice HO.out
                    subst hy7
                    have hhas := fun W hW => hasN_any (.slice ya4 (addJ A O2 q j).length yc4) (addJ A O2 q j) q W hW (by omega)
                    have hrd := Rd.of_row HO.out
                    cases hct : (addJ A O2 q j).contains q with
                    | true =>
                      simp only [hct] at hhas
                      have hsk := HHS.out hab hct
                      have HHAS := Lib.hid (hhas wr hrd)
                      have HO5 : Hid (wr.ownsRow w.heap.size 3 1 (.slice ya4 (addJ A O2 q j).length yc4) (addJ A O2 q (j + 1)).length (nats (addJ A O2 q (j + 1)))) := by unfold Hid; rw [hsk]; exact HO.out
                      have HS5 : Hid ((addJ A O2 q (j + 1)).length = O2.length → (.slice ya4 (addJ A O2 q j).length yc4 : Value) = .slice (some ⟨yb, yo, none⟩) O2.length yc3) := by unfold Hid; rw [hsk]; exact HSAME.out
                      clear hbt hzq hz3 hsk hab hct hhas hrd HSK HHS HNW HO HSAME HALL HADL hln
                      generalize (addJ A O2 q j).length = sl at *
                      go_wp2_with (first
                        | (go_at_call 72; refine (HBT.out _).mono ?_; rintro e w5 ⟨rfl, hw5⟩; rw [hw5]; clear hw5)
                        | (go_at_call 35; refine HHAS.out.mono ?_; rintro e w5 ⟨rfl, hw5⟩; rw [← hw5]; clear hw5))
                      go_roundw
                      case rel => exact ⟨j + 1, by omega, by go_num, HO5, HRD, HS5, HB⟩
                      case measure => simp [intOf]; omega
                    | false =>
                      simp only [hct] at hhas
                      have HHAS := Lib.hid (hhas wr hrd)
                      obtain ⟨hn1, hn2⟩ := HNW.out hab hct
                      have hsm := HSAME.out (by rw [hn1])
                      rw [hn1] at HHAS HO hsm
                      simp only [Value.slice.injEq] at hsm
                      obtain ⟨rfl, -, rfl⟩ := hsm
                      rw [hn1]
                      have HN2 : Hid (nats O2 ++ [.int .i64 (q : Int)] = nats (addJ A O2 q (j + 1)) ∧ O2.length + 1 = (addJ A O2 q (j + 1)).length) := by
                        unfold Hid
                        rw [hn2]
                        simp [nats]
                      have HS5 : Hid (¬ (addJ A O2 q (j + 1)).length = O2.length) := by unfold Hid; rw [hn2]; simp
                      clear hbt hzq hz3 hab hct hhas hrd HSK HHS HNW HSAME HALL HADL hln hn1 hn2
                      go_wp2_with (first
                        | (go_at_call 72; refine (HBT.out _).mono ?_; rintro e w5 ⟨rfl, hw5⟩; rw [hw5]; clear hw5)
                        | (go_at_call 35; refine HHAS.out.mono ?_; rintro e w5 ⟨rfl, hw5⟩; rw [← hw5]; clear hw5)
                        | (at_builtin; refine wpList_append_keep _ rfl _ _ 24 rfl w.heap.size 3 j0 (.int .i64 0) 8 Tryz.underlying24 hj0 hy0 hy1' hy2' rfl _ _ _ rfl (HO.out.alloc _) ⟨wr.heap.size, 0, none⟩ 1 1 [.int .i64 (q : Int)] rfl rfl (cell_one_at wr _ _) (one_int _ _) (by unfold maxLen; omega) (by omega) (by have := HB.out.size; simp; omega) ?_; intro v2 w2 ho2 hg2 hrd2))
                      rw [HN2.out.1, HN2.out.2] at ho2
                      have HO2 := Lib.hid ho2
                      have HRD2 := Lib.hid hrd2
                      have HB2 := Lib.hid ((HB.out.alloc HB.out.size _).grown hg2 (by have := HB.out.size; simp; omega) (fun x hx => (HO.out.lt x hx).1))
                      clear ho2 hg2 hrd2
                      go_wp2
                      go_roundw
                      case rel => exact ⟨j + 1, by omega, by go_num, HO2, HRD2, fun h => absurd h HS5.out, HB2⟩
                      case measure => simp [intOf]; omega
                · obtain rfl : j = O2.length := by omega
                  have HOF : Hid (wr.ownsRow w.heap.size 3 1 u7 ((List.range (q + 1)).foldl (addW A) O1).length (nats ((List.range (q + 1)).foldl (addW A) O1))) := by
                    have := HO.out
                    rw [HALL.out, ← HFS.out] at this
                    exact this
                  obtain ⟨ya4, yc4, hy7⟩ := row_slice HOF.out
                  subst hy7
                  clear HO HSAME HRD
                  go_wp2_with fail
                  go_roundw
                  case rel => exact ⟨q + 1, by omega, by go_num, HOF, HB⟩
                  case measure => simp [intOf]; omega
            · obtain rfl : q = k := by omega
              have HOF : Hid (wr.ownsRow w.heap.size 3 1 u7 (waysG A q S (startW A q i)).length (nats (waysG A q S (startW A q i)))) := by
                unfold Hid
                rw [HST.out]
                exact HO.out
              obtain ⟨ya4, yc4, hy7⟩ := row_slice HOF.out
              subst hy7
              clear HO
              go_wp2_with fail
              go_roundw
              case rel => exact ⟨S + 1, by omega, by omega, by go_num, HOF, HB⟩
              case measure => simp [intOf]; omega
        · obtain rfl : S = k := by omega
          have HRF : Hid (Rd wr u7 (nats (waysS A i))) := by
            unfold Hid
            rw [HFIN.out]
            exact Rd.of_row HO.out
          obtain ⟨ya2, yc2, hy7⟩ := row_slice HO.out
          subst hy7
          clear HO HFIN HWAY
          generalize (waysG A S (S - 1) (startW A S i)).length = sl at *
          go_wp2
          go_ret
          exact ⟨_, rfl, HRF.out, HB.out⟩
end Go.Proofs.YtmnblljenobofaaGreatDoor
/- The walk of the reference's May. -/
namespace Go.Proofs.YtmnblljenobofaaGreatDoor.RPlain
end Go.Proofs.YtmnblljenobofaaGreatDoor.RPlain
namespace Go.Proofs.YtmnblljenobofaaGreatDoor
open Go.RowKit RPlain

theorem any_take {α : Type} {p : α → Bool} {l : List α} {k : Nat} (h : k < l.length) : (l.take (k + 1)).any p = ((l.take k).any p || p l[k]) := by
  rw [List.take_succ_eq_append_getElem h, List.any_append]
  simp
theorem any_range (p : Nat → Bool) (k : Nat) : (List.range (k + 1)).any p = ((List.range k).any p || p k) := by
  rw [List.range_succ, List.any_append]
  simp
set_option maxRecDepth 100000 in
set_option maxHeartbeats 2000000 in
theorem refMayX_any (av : Value) (A : List Nat) (w : World) (hav : Rd w av (u32s A)) (hA : ∀ x ∈ A, x < 4294967296) (hl : A.length ≤ 65536) :
    Calls Tryz.prog 26 #[av] w fun e w' => e = .returned (.int .i64 ((mayE A : Nat) : Int)) ∧ Below w.heap.size w w' := by
  have HAV := Lib.hid hav
  have HA := Lib.hid hA
  obtain ⟨aa, ac, rfl⟩ := hav.len
  rw [u32s_len] at HAV ⊢
  clear hav hA
  have hun : mayE A = if 6 < A.length ∨ (A.any fun x => decide (2 ^ A.length ≤ x)) = true then 1 else if ((List.range A.length).any fun i => (waysS A i).contains i) = true then 8 else 0 := rfl
  by_cases h6 : 6 < A.length
  · rw [if_pos (.inl h6)] at hun
    rw [hun]
    clear hun
    go_enter Tryz.func26, Tryz.ntmps26
    go_wp2
    go_ret
    exact ⟨rfl, Below.refl _ _⟩
  · have h6' : A.length ≤ 6 := by omega
    have HW := Lib.hid (fun (i : Nat) (hi : i < A.length) (W : World) (hb : Below w.heap.size w W) => refWays_any (.slice aa A.length ac) A i W (HAV.out.below hb (Nat.le_refl _)) HA.out h6' hi)
    have HWL : Hid (∀ i, i < A.length → (waysS A i).length ≤ A.length) := fun i hi => way_len (way_G hi (A.length - 1))
    have HM1 : Hid ((A.any fun x => decide (2 ^ A.length ≤ x)) = true → mayE A = 1) := fun h => by rw [hun, if_pos (.inr h)]
    have HM8 : Hid ((A.any fun x => decide (2 ^ A.length ≤ x)) = false → ((List.range A.length).any fun i => (waysS A i).contains i) = true → mayE A = 8) := fun h h' => by rw [hun, if_neg (by rw [h]; simp; omega), if_pos h']
    have HM0 : Hid ((A.any fun x => decide (2 ^ A.length ≤ x)) = false → ((List.range A.length).any fun i => (waysS A i).contains i) = false → mayE A = 0) := fun h h' => by rw [hun, if_neg (by rw [h]; simp; omega), if_neg (by rw [h']; decide)]
    obtain ⟨m, hm⟩ : ∃ m, mayE A = m := ⟨_, rfl⟩
    rw [hm] at HM1 HM8 HM0 ⊢
    have HB0 := Lib.hid (Below.refl w.heap.size w)
    clear hun hm
    go_enter Tryz.func26, Tryz.ntmps26
    go_wp2_with fail
    go_loopw [11] (fun x wr => ∃ k : Nat, k ≤ A.length ∧ x = .int .i64 k ∧ Hid ((A.take k).any (fun x => decide (2 ^ A.length ≤ x)) = false) ∧ wr = w) (fun x _ => A.length - (intOf x).toNat)
    case atStart => exact ⟨0, by omega, rfl, rfl, rfl⟩
    case round =>
      obtain ⟨k, hk, rfl, HT, hwr⟩ := hrel
      obtain rfl : w = wr := hwr.symm
      by_cases hlt : k < A.length
      · obtain ⟨b, o, c', he, hb, hc⟩ := HAV.out.opened (by rw [u32s_len]; omega)
        simp only [Value.slice.injEq] at he
        obtain ⟨rfl, -, rfl⟩ := he
        have hck := hc k _ (u32s_get hlt)
        have hak := HA.out _ (List.getElem_mem hlt)
        have HAT := Lib.hid (any_take (p := fun x => decide (2 ^ A.length ≤ x)) hlt)
        have HIN : Hid (decide (2 ^ A.length ≤ A[k]) = true → (A.any fun x => decide (2 ^ A.length ≤ x)) = true) := fun h => List.any_eq_true.2 ⟨_, List.getElem_mem hlt, h⟩
        clear hc hb
        generalize A[k] = y at *
        go_wp2_with fail
        go_loopw [4, 17] (fun z x wr2 => ∃ j : Nat, j ≤ A.length ∧ x = .int .i64 j ∧ (∃ p : Nat, z = .int .u32 p ∧ p < 4294967296 ∧ Hid (p = y / 2 ^ j)) ∧ wr2 = w) (fun _ x _ => A.length - (intOf x).toNat)
        case atStart => exact ⟨0, by omega, rfl, ⟨y, rfl, hak, by unfold Hid; rw [Nat.pow_zero, Nat.div_one]⟩, rfl⟩
        case round =>
          obtain ⟨j, hj, rfl, ⟨p, rfl, hp, HP⟩, hwr⟩ := hrel
          obtain rfl : w = wr := hwr.symm
          by_cases hlt2 : j < A.length
          · have HP2 : Hid (p / 2 = y / 2 ^ (j + 1)) := by unfold Hid; rw [HP.out, Nat.div_div_eq_div_mul, Nat.pow_succ]
            clear HP
            go_wp2
            go_roundw
            case rel => exact ⟨j + 1, by omega, by go_num, ⟨p / 2, by go_num, by omega, HP2⟩, trivial⟩
            case measure => simp [intOf]; omega
          · obtain rfl : j = A.length := by omega
            have HPD : Hid (0 < p ↔ 2 ^ A.length ≤ y) := by
              unfold Hid
              rw [HP.out]
              exact ⟨fun h => by
                have := Nat.div_mul_le_self y (2 ^ A.length)
                have h2 : 1 * 2 ^ A.length ≤ y / 2 ^ A.length * 2 ^ A.length := Nat.mul_le_mul_right _ h
                omega, fun h => Nat.div_pos h (Nat.two_pow_pos _)⟩
            by_cases hp0 : 0 < p
            · have HF := Lib.hid (HM1.out (HIN.out (decide_eq_true (HPD.out.1 hp0))))
              clear HP HPD
              go_wp2
              go_ret
              exact ⟨ret_int (by rw [HF.out]; rfl), HB0.out⟩
            · have HF : Hid ((A.take (k + 1)).any (fun x => decide (2 ^ A.length ≤ x)) = false) := by
                unfold Hid
                rw [HAT.out, HT.out, decide_eq_false (fun h => hp0 (HPD.out.2 h))]
                rfl
              clear HP HPD
              go_wp2
              go_roundw
              case rel => exact ⟨k + 1, by omega, by go_num, HF, trivial⟩
              case measure => simp [intOf]; omega
      · obtain rfl : k = A.length := by omega
        have HNO : Hid ((A.any fun x => decide (2 ^ A.length ≤ x)) = false) := by have := HT.out; rwa [List.take_length] at this
        clear HT
        go_wp2_with fail
        go_loopw [27] (fun x wr => ∃ k : Nat, k ≤ A.length ∧ x = .int .i64 k ∧ Hid ((List.range k).any (fun i => (waysS A i).contains i) = false) ∧ Hid (Below w.heap.size w wr)) (fun x _ => A.length - (intOf x).toNat)
        case atStart => exact ⟨0, by omega, rfl, rfl, HB0⟩
        case round =>
          clear HB0
          obtain ⟨i, hi, rfl, HT, HB⟩ := hrel
          by_cases hlt : i < A.length
          · have HWI := Lib.hid (HW.out i hlt wr HB.out)
            have HAR := Lib.hid (any_range (fun i => (waysS A i).contains i) i)
            have HIN : Hid ((waysS A i).contains i = true → ((List.range A.length).any fun i => (waysS A i).contains i) = true) := fun h => List.any_eq_true.2 ⟨i, List.mem_range.2 hlt, h⟩
            have hwl := HWL.out i hlt
            clear HW HWL
            go_wp2_with fail
            refine HWI.out.mono ?_
            rintro e w2 ⟨v, rfl, hv, hb2⟩
            have HV := Lib.hid hv
            have HB2 := Lib.hid (HB.out.trans (hb2.mono HB.out.size))
            have HHS := Lib.hid (hasN_any v (waysS A i) i w2 hv (by omega))
            obtain ⟨va, vc, rfl⟩ := hv.len
            clear hv hb2
            cases hct : (waysS A i).contains i with
            | true =>
              have HF := Lib.hid (HM8.out HNO.out (HIN.out hct))
              rw [hct] at HHS
              clear hct
              go_wp2_with (go_at_call 35; refine HHS.out.mono ?_; rintro e w5 ⟨rfl, rfl⟩)
              go_ret
              exact ⟨ret_int (by rw [HF.out]; rfl), HB2.out⟩
            | false =>
              have HF : Hid ((List.range (i + 1)).any (fun i => (waysS A i).contains i) = false) := by
                unfold Hid
                rw [HAR.out, HT.out, hct]
                rfl
              rw [hct] at HHS
              clear hct
              go_wp2_with (go_at_call 35; refine HHS.out.mono ?_; rintro e w5 ⟨rfl, rfl⟩)
              go_roundw
              case rel => exact ⟨i + 1, by omega, by go_num, HF, HB2⟩
              case measure => simp [intOf]; omega
          · obtain rfl : i = A.length := by omega
            have HF := Lib.hid (HM0.out HNO.out HT.out)
            go_wp2
            go_ret
            exact ⟨ret_int (by rw [HF.out]; rfl), HB.out⟩
end Go.Proofs.YtmnblljenobofaaGreatDoor
