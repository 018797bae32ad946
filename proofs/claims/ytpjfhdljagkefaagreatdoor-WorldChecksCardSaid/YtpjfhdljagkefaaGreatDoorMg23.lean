/- Merged: WorU, LegH. -/
import Derived.Test.YtpjfhdljagkefaaGreatDoorMg22
import Derived.Test.YtpjfhdljagkefaaGreatDoorMg21
import Derived.Test.YtpjfhdljagkefaaGreatDoorLegC
import Derived.Test.YtpjfhdljagkefaaGreatDoorMg10
import Derived.Test.YtpjfhdljagkefaaGreatDoorMg4
import Derived.Laws.AppendOwnNone
/- The walk of recantref15's May. -/
namespace Go.Proofs.YtpjfhdljagkefaaGreatDoor.WPlain
end Go.Proofs.YtpjfhdljagkefaaGreatDoor.WPlain
namespace Go.Proofs.YtpjfhdljagkefaaGreatDoor.QPlain
end Go.Proofs.YtpjfhdljagkefaaGreatDoor.QPlain
namespace Go.Proofs.YtpjfhdljagkefaaGreatDoor.RPlain
end Go.Proofs.YtpjfhdljagkefaaGreatDoor.RPlain
namespace Go.Proofs.YtpjfhdljagkefaaGreatDoor.RPlain
open WPlain QPlain

def mayK (l : List Tx) (t set i k : Nat) : Bool := !((decide (k = t) || set.testBit k) && bfrAt l i k)
def mayI (l : List Tx) (t set c i : Nat) : Bool := if set.testBit i = true then !decide (i = t) && c.testBit i && !bfrAt l t i
  else decide (i = t) || !c.testBit i || (List.range l.length).all (mayK l t set i)
theorem mayW_all (l : List Tx) (t set c : Nat) : mayW l t set c = (List.range l.length).all (mayI l t set c) := rfl
theorem all_snoc (p : Nat → Bool) (k : Nat) : (List.range (k + 1)).all p = ((List.range k).all p && p k) := by rw [List.range_succ, List.all_append]; simp
theorem all_bad {p : Nat → Bool} {n k : Nat} (hk : k < n) (h : p k = false) : (List.range n).all p = false := by
  rw [List.all_eq_false]
  exact ⟨k, List.mem_range.2 hk, by rw [h]; decide⟩
end Go.Proofs.YtpjfhdljagkefaaGreatDoor.RPlain
namespace Go.Proofs.YtpjfhdljagkefaaGreatDoor
open Go.RowKit WPlain QPlain RPlain

set_option maxRecDepth 100000 in
set_option maxHeartbeats 8000000 in
theorem refMayW_any (lv : Value) (l : List Tx) (t set c : Nat) (w : World) (hlv : Txs w lv l) (h6 : l.length ≤ 6) (ht : t < l.length) (hs : set < 4294967296) (hc : c < 4294967296) :
    Calls Tryz.prog 24 #[lv, .int .i64 (t : Int), .int .u32 (set : Int), .int .u32 (c : Int)] w fun e w' => e = .returned (.bool (mayW l t set c)) ∧ Below w.heap.size w w' := by
  have HBS := Lib.hid (fun (k : Nat) (hk : k ≤ 65536) (W : World) => refBit9_any set k hs hk W)
  have HBC := Lib.hid (fun (k : Nat) (hk : k ≤ 65536) (W : World) => refBit9_any c k hc hk W)
  have HBF : Hid (∀ i k (hi : i < l.length) (hk : k < l.length) (W : World), Below w.heap.size w W → Calls Tryz.prog 46 #[lv, .int .i64 (i : Int), .int .i64 (k : Int)] W fun e w' => e = .returned (.bool (bfrAt l i k)) ∧ Below W.heap.size W w') := fun i k hi hk W hW => by
    refine (refBefore_any lv l i k W (hlv.below hW (Nat.le_refl _)) hi hk (by omega)).mono ?_
    rintro e w' ⟨rfl, z, rfl⟩
    exact ⟨by rw [bfrAt_get hi hk], below_drN (Below.refl _ W) z⟩
  have HW := Lib.hid (mayW_all l t set c)
  have HBAD := Lib.hid (fun i (hi : i < l.length) (h : mayI l t set c i = false) => all_bad hi h)
  have HSN := Lib.hid (fun k => all_snoc (mayI l t set c) k)
  obtain ⟨la, lc, rfl⟩ := hlv.len
  obtain ⟨res, hres⟩ : ∃ res, mayW l t set c = res := ⟨_, rfl⟩
  rw [hres] at HW ⊢
  clear hres hlv
  go_enter Tryz.func24, Tryz.ntmps24
  go_wp2_with fail
  go_loopw [14] (fun x wr => ∃ i : Nat, i ≤ l.length ∧ x = .int .i64 i ∧ Hid ((List.range i).all (mayI l t set c) = true) ∧ Hid (Below w.heap.size w wr)) (fun x _ => l.length - (intOf x).toNat)
  case atStart => exact ⟨0, by omega, rfl, rfl, Below.refl _ _⟩
  case round =>
    obtain ⟨i, hi, rfl, HAL, HB⟩ := hrel
    by_cases hlt : i < l.length
    · have hbs := HBS.out i (by omega)
      have hbc := HBC.out i (by omega)
      have hbf := HBF.out t i ht hlt
      have HSK := Lib.hid (HSN.out i)
      have HBK := Lib.hid (HBAD.out i hlt)
      have tq : ((i : Int) == (t : Int)) = decide (i = t) := by rw [Bool.eq_iff_iff, beq_iff_eq, decide_eq_true_eq]; omega
      have hgo : mayI l t set c i = true → (List.range (i + 1)).all (mayI l t set c) = true := fun h => by rw [HSK.out, HAL.out, h]; rfl
      cases hb : set.testBit i with
      | true =>
        rw [hb] at hbs
        have hmi : mayI l t set c i = (!decide (i = t) && c.testBit i && !bfrAt l t i) := by unfold mayI; rw [if_pos hb]
        cases he : decide (i = t) with
        | true =>
          rw [he] at tq
          have hr := HBK.out (by rw [hmi, he]; rfl)
          have HRS := Lib.hid (HW.out.trans hr)
          clear hmi he hb hr hgo hbc hbf HSK HBK
          go_wp2_with (go_at_call 22; refine (hbs _).mono ?_; rintro e w3 ⟨rfl, hw3⟩; have hw3 := hw3.symm; subst hw3)
          go_ret
          exact ⟨by rw [HRS.out]; rfl, HB.out⟩
        | false =>
          rw [he] at tq
          cases hcb : c.testBit i with
          | false =>
            rw [hcb] at hbc
            have hr := HBK.out (by rw [hmi, he, hcb]; rfl)
            have HRS := Lib.hid (HW.out.trans hr)
            clear hmi he hb hr hgo hbf HSK HBK hcb
            go_wp2_with (first
              | (go_at_call 22; refine (hbs _).mono ?_; clear hbs; rintro e w3 ⟨rfl, hw3⟩; have hw3 := hw3.symm; subst hw3)
              | (go_at_call 22; refine (hbc _).mono ?_; rintro e w3 ⟨rfl, hw3⟩; have hw3 := hw3.symm; subst hw3))
            go_ret
            exact ⟨by rw [HRS.out]; rfl, HB.out⟩
          | true =>
            rw [hcb] at hbc
            have hbfw := hbf wr HB.out
            cases hf : bfrAt l t i with
            | true =>
              rw [hf] at hbfw
              have hr := HBK.out (by rw [hmi, he, hcb, hf]; rfl)
              have HRS := Lib.hid (HW.out.trans hr)
              clear hmi he hb hr hgo hbf HSK HBK hcb hf
              go_wp2_with (first
                | (go_at_call 22; refine (hbs _).mono ?_; clear hbs; rintro e w3 ⟨rfl, hw3⟩; have hw3 := hw3.symm; subst hw3)
                | (go_at_call 22; refine (hbc _).mono ?_; rintro e w3 ⟨rfl, hw3⟩; have hw3 := hw3.symm; subst hw3)
                | (go_at_call 46; refine hbfw.mono ?_; rintro e w4 ⟨rfl, hb4⟩))
              go_ret
              exact ⟨by rw [HRS.out]; rfl, HB.out.trans (hb4.mono HB.out.size)⟩
            | false =>
              rw [hf] at hbfw
              have HGO := Lib.hid (hgo (by rw [hmi, he, hcb, hf]; rfl))
              clear hmi he hb hgo hbf HSK HBK hcb hf
              go_wp2_with (first
                | (go_at_call 22; refine (hbs _).mono ?_; clear hbs; rintro e w3 ⟨rfl, hw3⟩; have hw3 := hw3.symm; subst hw3)
                | (go_at_call 22; refine (hbc _).mono ?_; rintro e w3 ⟨rfl, hw3⟩; have hw3 := hw3.symm; subst hw3)
                | (go_at_call 46; refine hbfw.mono ?_; rintro e w4 ⟨rfl, hb4⟩))
              go_roundw
              case rel => exact ⟨i + 1, by omega, by go_num, HGO, HB.out.trans (hb4.mono HB.out.size)⟩
              case measure => simp [intOf]; omega
      | false =>
        rw [hb] at hbs
        have hmi : mayI l t set c i = (decide (i = t) || !c.testBit i || (List.range l.length).all (mayK l t set i)) := by unfold mayI; rw [if_neg (by rw [hb]; decide)]
        cases he : decide (i = t) with
        | true =>
          rw [he] at tq
          have HGO := Lib.hid (hgo (by rw [hmi, he]; rfl))
          clear hmi he hb hgo hbf HSK HBK hbc
          go_wp2_with (go_at_call 22; refine (hbs _).mono ?_; rintro e w3 ⟨rfl, hw3⟩; have hw3 := hw3.symm; subst hw3)
          go_roundw
          case rel => exact ⟨i + 1, by omega, by go_num, HGO, HB⟩
          case measure => simp [intOf]; omega
        | false =>
          rw [he] at tq
          cases hcb : c.testBit i with
          | false =>
            rw [hcb] at hbc
            have HGO := Lib.hid (hgo (by rw [hmi, he, hcb]; rfl))
            clear hmi he hb hgo hbf HSK HBK hcb
            go_wp2_with (first
              | (go_at_call 22; refine (hbs _).mono ?_; clear hbs; rintro e w3 ⟨rfl, hw3⟩; have hw3 := hw3.symm; subst hw3)
              | (go_at_call 22; refine (hbc _).mono ?_; rintro e w3 ⟨rfl, hw3⟩; have hw3 := hw3.symm; subst hw3))
            go_roundw
            case rel => exact ⟨i + 1, by omega, by go_num, HGO, HB⟩
            case measure => simp [intOf]; omega
          | true =>
            rw [hcb] at hbc
            have hmi2 : mayI l t set c i = (List.range l.length).all (mayK l t set i) := by rw [hmi, he, hcb]; rfl
            have HMI := Lib.hid hmi2
            have HGO := Lib.hid hgo
            have HBKB := Lib.hid (fun k (hk : k < l.length) (h : mayK l t set i k = false) => all_bad hk h)
            have HSNB := Lib.hid (fun k => all_snoc (mayK l t set i) k)
            clear hmi hmi2 he hb hgo hbf HSK hcb
            go_wp2_with (first
              | (go_at_call 22; refine (hbs _).mono ?_; clear hbs; rintro e w3 ⟨rfl, hw3⟩; have hw3 := hw3.symm; subst hw3)
              | (go_at_call 22; refine (hbc _).mono ?_; rintro e w3 ⟨rfl, hw3⟩; have hw3 := hw3.symm; subst hw3))
            go_loopw [52] (fun x wr2 => ∃ k : Nat, k ≤ l.length ∧ x = .int .i64 k ∧ Hid ((List.range k).all (mayK l t set i) = true) ∧ Hid (Below w.heap.size w wr2)) (fun x _ => l.length - (intOf x).toNat)
            case atStart => exact ⟨0, by omega, rfl, rfl, HB⟩
            case round =>
              clear HB
              obtain ⟨k, hk, rfl, HALK, HB⟩ := hrel
              by_cases hlk : k < l.length
              · have hbk := HBS.out k (by omega)
                have hbf := HBF.out i k hlt hlk wr HB.out
                have HSK := Lib.hid (HSNB.out k)
                have HBK2 := Lib.hid (HBKB.out k hlk)
                have tk : ((k : Int) == (t : Int)) = decide (k = t) := by rw [Bool.eq_iff_iff, beq_iff_eq, decide_eq_true_eq]; omega
                have hgo : mayK l t set i k = true → (List.range (k + 1)).all (mayK l t set i) = true := fun h => by rw [HSK.out, HALK.out, h]; rfl
                have hmk : mayK l t set i k = !((decide (k = t) || set.testBit k) && bfrAt l i k) := rfl
                cases hf : bfrAt l i k with
                | true =>
                  rw [hf] at hbf
                  cases he : decide (k = t) with
                  | true =>
                    rw [he] at tk
                    have hr := HBK2.out (by rw [hmk, he, hf]; rfl)
                    have HRS := Lib.hid (HW.out.trans (HBK.out (HMI.out.trans hr)))
                    clear hmk he hr hgo HSK HBK2 hf hbk
                    go_wp2_with (go_at_call 46; refine hbf.mono ?_; rintro e w4 ⟨rfl, hb4⟩)
                    go_ret
                    exact ⟨by rw [HRS.out]; rfl, HB.out.trans (hb4.mono HB.out.size)⟩
                  | false =>
                    rw [he] at tk
                    cases hsb : set.testBit k with
                    | true =>
                      rw [hsb] at hbk
                      have hr := HBK2.out (by rw [hmk, he, hsb, hf]; rfl)
                      have HRS := Lib.hid (HW.out.trans (HBK.out (HMI.out.trans hr)))
                      clear hmk he hr hgo HSK HBK2 hf hsb
                      go_wp2_with (first
                        | (go_at_call 22; refine (hbk _).mono ?_; rintro e w3 ⟨rfl, hw3⟩; have hw3 := hw3.symm; subst hw3)
                        | (go_at_call 46; refine hbf.mono ?_; rintro e w4 ⟨rfl, hb4⟩))
                      go_ret
                      exact ⟨by rw [HRS.out]; rfl, HB.out.trans (hb4.mono HB.out.size)⟩
                    | false =>
                      rw [hsb] at hbk
                      have HGK := Lib.hid (hgo (by rw [hmk, he, hsb]; rfl))
                      clear hmk he hgo HSK HBK2 hf hsb hbf
                      go_wp2_with (go_at_call 22; refine (hbk _).mono ?_; rintro e w3 ⟨rfl, hw3⟩; have hw3 := hw3.symm; subst hw3)
                      go_roundw
                      case rel => exact ⟨k + 1, by omega, by go_num, HGK, HB⟩
                      case measure => simp [intOf]; omega
                | false =>
                  rw [hf] at hbf
                  have HGK := Lib.hid (hgo (by rw [hmk, hf]; simp))
                  cases he : decide (k = t) with
                  | true =>
                    rw [he] at tk
                    clear hmk he hgo HSK HBK2 hf hbk
                    go_wp2_with (go_at_call 46; refine hbf.mono ?_; rintro e w4 ⟨rfl, hb4⟩)
                    go_roundw
                    case rel => exact ⟨k + 1, by omega, by go_num, HGK, HB.out.trans (hb4.mono HB.out.size)⟩
                    case measure => simp [intOf]; omega
                  | false =>
                    rw [he] at tk
                    cases hsb : set.testBit k with
                    | true =>
                      rw [hsb] at hbk
                      clear hmk he hgo HSK HBK2 hf hsb
                      go_wp2_with (first
                        | (go_at_call 22; refine (hbk _).mono ?_; rintro e w3 ⟨rfl, hw3⟩; have hw3 := hw3.symm; subst hw3)
                        | (go_at_call 46; refine hbf.mono ?_; rintro e w4 ⟨rfl, hb4⟩))
                      go_roundw
                      case rel => exact ⟨k + 1, by omega, by go_num, HGK, HB.out.trans (hb4.mono HB.out.size)⟩
                      case measure => simp [intOf]; omega
                    | false =>
                      rw [hsb] at hbk
                      clear hmk he hgo HSK HBK2 hf hsb hbf
                      go_wp2_with (go_at_call 22; refine (hbk _).mono ?_; rintro e w3 ⟨rfl, hw3⟩; have hw3 := hw3.symm; subst hw3)
                      go_roundw
                      case rel => exact ⟨k + 1, by omega, by go_num, HGK, HB⟩
                      case measure => simp [intOf]; omega
              · obtain rfl : k = l.length := by omega
                have HGI := Lib.hid (HGO.out (HMI.out.trans HALK.out))
                go_wp2_with fail
                go_roundw
                case rel => exact ⟨i + 1, by omega, by go_num, HGI, HB⟩
                case measure => simp [intOf]; omega
    · obtain rfl : i = l.length := by omega
      have HRS := Lib.hid (HW.out.trans HAL.out)
      go_wp2_with fail
      go_ret
      exact ⟨by rw [HRS.out]; rfl, HB.out⟩
end Go.Proofs.YtpjfhdljagkefaaGreatDoor
/- The walks of the reference's Put, Get and With: a memory told as writes, the last one first. -/
namespace Go.Proofs.YtpjfhdljagkefaaGreatDoor.WPlain
end Go.Proofs.YtpjfhdljagkefaaGreatDoor.WPlain
namespace Go.Proofs.YtpjfhdljagkefaaGreatDoor.QPlain
end Go.Proofs.YtpjfhdljagkefaaGreatDoor.QPlain
namespace Go.Proofs.YtpjfhdljagkefaaGreatDoor.RPlain
end Go.Proofs.YtpjfhdljagkefaaGreatDoor.RPlain
namespace Go.Proofs.YtpjfhdljagkefaaGreatDoor.RPlain
open WPlain QPlain

def withL (L ops : List Rwo) : List Rwo := ops.foldl (fun L o => if o.w = true then o :: L else L) L
theorem withL_app (L a b : List Rwo) : withL L (a ++ b) = withL (withL L a) b := List.foldl_append ..
theorem withL_take {L ops : List Rwo} {k : Nat} (hk : k < ops.length) : withL L (ops.take (k + 1)) = if ops[k].w = true then ops[k] :: withL L (ops.take k) else withL L (ops.take k) := by
  rw [List.take_succ_eq_append_getElem hk, withL_app]
  rfl
theorem withL_len (ops : List Rwo) : ∀ L : List Rwo, (withL L ops).length ≤ L.length + ops.length := by
  induction ops with
  | nil => intro L; exact Nat.le_refl _
  | cons o r ih =>
    intro L
    show (withL (if o.w = true then o :: L else L) r).length ≤ _
    rw [List.length_cons]
    by_cases hw : o.w = true
    · rw [if_pos hw]
      have := ih (o :: L)
      rw [List.length_cons] at this
      omega
    · rw [if_neg hw]
      have := ih L
      omega
theorem memL_with (ops : List Rwo) : ∀ L : List Rwo, memL (withL L ops) = withM (memL L) ops := by
  induction ops with
  | nil => intro L; rfl
  | cons o r ih =>
    intro L
    show memL (withL (if o.w = true then o :: L else L) r) = _
    rw [ih, withM_cons]
    split
    · rw [memL_put]
    · rfl
theorem memL_at {L : List Rwo} {k : Nat} (hk : k < L.length) {v : Int} (hn : ∀ o ∈ L.take k, o.v ≠ v) (hv : L[k].v = v) : memL L v = L[k].x := by
  have h1 : L.find? (fun o => decide (o.v = v)) = some L[k] := by
    have h2 := List.find?_append (xs := L.take k) (ys := L.drop k) (p := fun o => decide (o.v = v))
    have h3 : (L.take k).find? (fun o => decide (o.v = v)) = none := List.find?_eq_none.2 (fun o ho => by simp; exact hn o ho)
    rw [List.take_append_drop, h3, List.drop_eq_getElem_cons hk, List.find?_cons] at h2
    rw [h2]
    simp [hv]
  unfold memL
  rw [h1]
theorem memL_none {L : List Rwo} {v : Int} (hn : ∀ o ∈ L, o.v ≠ v) : memL L v = 0 := by
  unfold memL
  rw [List.find?_eq_none.2 (fun o ho => by simp; exact hn o ho)]
end Go.Proofs.YtpjfhdljagkefaaGreatDoor.RPlain
namespace Go.Proofs.YtpjfhdljagkefaaGreatDoor
open Go.RowKit WPlain QPlain RPlain

/-- a memory's row of writes -/
def Mm (w : World) (u : Value) (L : List Rwo) : Prop := Opv w u L ∧ Src u
theorem Mm.below {w w' : World} {B : Nat} {u : Value} {L : List Rwo} (h : Mm w u L) (hb : Below B w w') (hB : w.heap.size ≤ B) : Mm w' u L := ⟨h.1.below hb hB, h.2⟩
theorem Mm.nil (w : World) : Mm w (.slice none 0 0) [] := ⟨Opv.nil _ _ _, .inl rfl⟩
theorem ops_oneCell (L : List Rwo) : ∀ u ∈ L.flatMap opC, u.oneCell' = true := by
  intro u hu
  obtain ⟨e, _, he⟩ := List.mem_flatMap.1 hu
  simp [opC] at he
  rcases he with rfl | rfl | rfl <;> rfl
theorem wpList_append_srcO {ops : Array Oper} {rest : List Oper} {o : Oper} {a : Act} {w : World} {Q : Exit → Act → World → Prop} (hgd : o.guard = none) (s x : Operand)
    (ho : o.op = .call { callee := .builtin .append, args := #[s, x], argTypes := #[54, 54] }) (base : Nat)
    (v : Value) (n : Nat) (xs : List Value) (hs : a.eval s = v) (hown : w.ownsRow base 123 3 v n xs)
    (v2 : Value) (h : List Rwo) (hx : a.eval x = v2) (hm : Mm w v2 h) (h63 : n + h.length ≤ 65536) (hbase : base ≤ w.heap.size)
    (hK : ∀ v' w', w'.ownsRow base 123 3 v' (n + h.length) (xs ++ h.flatMap opC) → w.grownBy w' v.ownBlock → wpList Tryz.prog ops Q rest (a.put o.dst v') w') : wpList Tryz.prog ops Q (o :: rest) a w := by
  obtain ⟨j0, hj0, hy0, hy1', hy2'⟩ := info_parts infoOp
  obtain ⟨hv, hsrc⟩ := hm
  rcases hsrc with rfl | ⟨ad, m, c, rfl⟩
  · have h0 : h = [] := List.length_eq_zero_iff.1 hv.1.length.symm
    subst h0
    have hrest := hK v w (by simpa using hown) ⟨rfl, rfl, rfl, Nat.le_refl _, fun _ _ _ => rfl⟩
    exact wpList_append_own_none hgd s x 54 ho base 123 j0 3 Tryz.underlying54 hj0 v n xs hs hown hx hrest
  · obtain rfl := hv.1.length
    refine wpList_append_own w hgd s x 54 ho base 123 j0 _ 3 24 Tryz.underlying54 hj0 hy0 hy1' hy2' rfl (by decide) v n xs hs hown ad h.length c (h.flatMap opC) hx (flat_len opC_len h) (hv.1.cells opC_len) (ops_oneCell h) (by unfold maxLen; omega) (by omega) hbase ?_
    intro v' w' h2 h3 _
    exact hK v' w' h2 h3
theorem row_one (w : World) (o : Rwo) {B : Nat} (hb : B ≤ w.heap.size) : (w.alloc (.cells #[.bool o.w, .int .i64 o.v, .int .i64 o.x] 123)).ownsRow B 123 3 (.slice (some ⟨w.heap.size, 0, none⟩) 1 1) 1 (opC o) :=
  ⟨rfl, .inr ⟨w.heap.size, 1, #[.bool o.w, .int .i64 o.v, .int .i64 o.x], rfl, hb, heap_alloc_new w _, Nat.le_refl _, by unfold maxLen; omega, rfl, rfl⟩⟩
set_option maxRecDepth 100000 in
set_option maxHeartbeats 1000000 in
theorem refPutM_any (a : Option Addr) (n c : Nat) (L : List Rwo) (o : Rwo) (w : World) (hm : Mm w (.slice a n c) L) (hl : L.length ≤ 60000) :
    Calls Tryz.prog 97 #[.agg #[.slice a n c], .agg #[.bool o.w, .int .i64 o.v, .int .i64 o.x]] w fun e w' => ∃ u, e = .returned (.agg #[u]) ∧ Mm w' u (o :: L) ∧ Below w.heap.size w w' := by
  obtain ⟨W3, hW3⟩ : ∃ W3, ((w.alloc (.cells #[.slice a n c] 89)).alloc (.cells #[.bool o.w, .int .i64 o.v, .int .i64 o.x] 123)).alloc (.cells #[.slice none 0 0] 89) = W3 := ⟨_, rfl⟩
  have hz3 : W3.heap.size = w.heap.size + 1 + 1 + 1 := by rw [← hW3]; simp
  have hb3 : Below w.heap.size w W3 := by rw [← hW3]; exact ((Below.refl _ _).alloc (Nat.le_refl _) _).alloc (by simp) _ |>.alloc (by simp; omega) _
  have hA3 : At W3 (w.heap.size + 1 + 1) #[.slice none 0 0] 89 := by
    have h := At.new ((w.alloc (.cells #[.slice a n c] 89)).alloc (.cells #[.bool o.w, .int .i64 o.v, .int .i64 o.x] 123)) #[.slice none 0 0] 89
    rw [hW3] at h
    rwa [show ((w.alloc (.cells #[.slice a n c] 89)).alloc (.cells #[.bool o.w, .int .i64 o.v, .int .i64 o.x] 123)).heap.size = w.heap.size + 1 + 1 from by simp] at h
  have hb4 : Below w.heap.size w (W3.alloc (.cells #[.bool o.w, .int .i64 o.v, .int .i64 o.x] 123)) := hb3.alloc hb3.size _
  have HB4 := Lib.hid hb4
  have HM4 := Lib.hid (hm.below hb4 (Nat.le_refl _))
  have HA4 := Lib.hid (hA3.alloc (.cells #[.bool o.w, .int .i64 o.v, .int .i64 o.x] 123))
  have hr4 := row_one W3 o hb3.size
  rw [hz3] at hr4
  have HR4 := Lib.hid hr4
  subst hW3
  clear hm hr4 hb4 hb3 hA3
  go_enter Tryz.func97, Tryz.ntmps97
  go_wp2_with (at_builtin; refine wpList_append_srcO rfl _ _ rfl w.heap.size _ _ _ rfl HR4.out _ L rfl HM4.out (by omega) HB4.out.size ?_)
  intro v1 w1 h1 hg1
  have hB1 := HB4.out.grown hg1 HB4.out.size (fun k hk => (HR4.out.lt k hk).1)
  have hA1 := HA4.out.grown hg1 (by simp [Value.ownBlock])
  have hne : ∀ k, v1.ownBlock = some k → ¬ k = w.heap.size + 1 + 1 := fun k hk hc => by subst hc; exact row_not h1 hA1 (by decide) hk
  have hcl : (o :: L).flatMap opC = opC o ++ L.flatMap opC := by simp
  have HR5 : Hid ((w1.setCell ⟨w.heap.size + 1 + 1, 0, none⟩ v1).ownsRow w.heap.size 123 3 v1 (o :: L).length ((o :: L).flatMap opC)) := by
    have := own_only h1 (Only.setCell (Only.refl (fun k => k = w.heap.size + 1 + 1) w1) (p := ⟨w.heap.size + 1 + 1, 0, none⟩) (fun _ => rfl) v1) hne
    have hln : (o :: L).length = 1 + L.length := by rw [List.length_cons]; omega
    unfold Hid
    rw [hcl, hln]
    exact this
  have HA5 := Lib.hid (hA1.set 0 v1)
  have HB5 := Lib.hid (hB1.setCell (p := ⟨w.heap.size + 1 + 1, 0, none⟩) (by simp; omega) v1)
  have HS := Lib.hid (Src.of_row h1)
  obtain ⟨va, vc, rfl⟩ := row_slice h1
  have k0 := hA1.cell (i := 0) rfl
  have f0 := hA1.free 0
  clear h1 hg1 hB1 hA1 hne hcl HA4 HB4 HM4 HR4
  go_wp2
  generalize w1.setCell ⟨w.heap.size + 1 + 1, 0, none⟩ (.slice va (1 + L.length) vc) = w2 at *
  have e0 := HA5.out.cell (i := 0) rfl
  refine bodyPost_ret (v := .agg #[.slice va (1 + L.length) vc]) ?_ rfl ⟨_, rfl, ⟨Opv.of_row HR5.out, HS.out⟩, HB5.out⟩
  simp [results, Tryz.results97, go_sem, e0]
/-- a cell of the call's own that holds a slice is none of a row of Ops -/
theorem Opv.set {w : World} {u : Value} {L : List Rwo} (h : Opv w u L) {N : Nat} {x : Option Addr} {y z : Nat} {T : TypeId} (hA : At w N #[.slice x y z] T) (v : Value) : Opv (w.setCell ⟨N, 0, none⟩ v) u L := by
  refine ⟨?_, h.2⟩
  rcases h.1 with h0 | ⟨h0, b, o, c, rfl, hbl, hc⟩
  · exact .inl h0
  · have hne : b ≠ N := by
      rintro rfl
      have h1 := hc 0 h0 0 (.bool L[0].w) (by omega) rfl
      rw [Nat.zero_mul, Nat.add_zero] at h1
      unfold At at hA
      simp only [World.cell?, hA] at h1
      match o, h1 with
      | 0, h1 => simp at h1
      | o + 1, h1 => simp at h1
    have hh := Below.heap_setCell w ⟨N, 0, none⟩ v b hne
    refine .inr ⟨h0, b, o, c, rfl, by simpa [World.setCell] using hbl, fun i hi j q hj hq => ?_⟩
    have h1 := hc i hi j q hj hq
    unfold World.cell? at h1 ⊢
    rw [hh]
    exact h1
set_option maxRecDepth 100000 in
set_option maxHeartbeats 1000000 in
theorem refGet_any (u : Value) (L : List Rwo) (v : Int) (w : World) (hm : Opv w u L) (hl : L.length ≤ 65536) :
    Calls Tryz.prog 71 #[.agg #[u], .int .i64 v] w fun e w' => e = .returned (.int .i64 (memL L v)) ∧ Below w.heap.size w w' := by
  obtain ⟨a, c, rfl, -⟩ := hm.len
  have HM := Lib.hid hm
  have HB0 := Lib.hid ((Below.refl w.heap.size w).alloc (Nat.le_refl _) (.cells #[.slice a L.length c] 89))
  have HAT := Lib.hid (fun (k : Nat) (hk : k < L.length) h1 h2 => memL_at (L := L) (v := v) hk h1 h2)
  have HNO := Lib.hid (memL_none (L := L) (v := v))
  have HTE := Lib.hid (fun (k : Nat) (hk : k < L.length) => List.take_succ_eq_append_getElem hk)
  generalize memL L v = res at *
  clear hm
  go_enter Tryz.func71, Tryz.ntmps71
  go_wp2_with fail
  go_loopw [10] (fun x wr => ∃ k : Nat, k ≤ L.length ∧ x = .int .i64 k ∧ Hid (∀ o ∈ L.take k, o.v ≠ v) ∧ Hid (Below w.heap.size w wr)) (fun x _ => L.length - (intOf x).toNat)
  case atStart => exact ⟨0, by omega, rfl, fun o ho => by simp at ho, HB0⟩
  case round =>
    clear HB0
    obtain ⟨k, hk, rfl, HN, HB⟩ := hrel
    by_cases hlt : k < L.length
    · obtain ⟨b, o, rfl, hbl, c0, c1, c2⟩ := Opv.at (HM.out.below HB.out (Nat.le_refl _)) k hlt
      have HAT2 := Lib.hid (HAT.out k hlt)
      have HTE2 := Lib.hid (HTE.out k hlt)
      generalize L[k] = O at *
      obtain ⟨ow, ov, ox⟩ := O
      dsimp only at *
      have HB2 := Lib.hid (HB.out.alloc HB.out.size (.cells #[.bool ow, .int .i64 ov, .int .i64 ox] 123))
      by_cases hv : ov = v
      · have hres := HAT2.out HN.out hv
        subst hres hv
        clear HAT2 HTE2 HN HAT
        have t1 : ((ov : Int) == ov) = true := by simp
        go_wp2
        go_ret
        exact ⟨rfl, HB2.out⟩
      · have HN2 : Hid (∀ o ∈ L.take (k + 1), o.v ≠ v) := by
          intro q hq
          rw [HTE2.out] at hq
          rcases List.mem_append.1 hq with hq | hq
          · exact HN.out q hq
          · rw [List.mem_singleton.1 hq]; exact hv
        have t1 : ((ov : Int) == v) = false := by simp [hv]
        clear HAT2 HTE2 HN hv
        go_wp2
        go_roundw
        case rel => exact ⟨k + 1, by omega, by go_num, HN2, HB2⟩
        case measure => simp [intOf]; omega
    · obtain rfl : k = L.length := by omega
      have hres := HNO.out (by have := HN.out; rwa [List.take_length] at this)
      subst hres
      clear HNO HAT HN
      go_wp2
      go_ret
      exact ⟨rfl, HB.out⟩
theorem mem_pair (w : World) (u : Value) : At ((w.alloc (.cells #[u] 89)).alloc (.cells #[.slice none 0 0] 89)) w.heap.size #[u] 89 ∧
    At ((w.alloc (.cells #[u] 89)).alloc (.cells #[.slice none 0 0] 89)) (w.heap.size + 1) #[.slice none 0 0] 89 ∧
    Below w.heap.size w ((w.alloc (.cells #[u] 89)).alloc (.cells #[.slice none 0 0] 89)) := by
  refine ⟨(At.new w #[u] _).alloc _, ?_, ((Below.refl _ _).alloc (Nat.le_refl _) _).alloc (by simp) _⟩
  have h := At.new (w.alloc (.cells #[u] 89)) #[.slice none 0 0] 89
  rwa [show (w.alloc (.cells #[u] 89)).heap.size = w.heap.size + 1 from by simp] at h
set_option maxRecDepth 100000 in
set_option maxHeartbeats 1000000 in
theorem refWith_any (u uo : Value) (L ops : List Rwo) (w : World) (hm : Mm w u L) (ho : Opv w uo ops) (hl : L.length + ops.length ≤ 60000) :
    Calls Tryz.prog 72 #[.agg #[u], uo] w fun e w' => ∃ u', e = .returned (.agg #[u']) ∧ Mm w' u' (withL L ops) ∧ Below w.heap.size w w' := by
  obtain ⟨a, c, rfl, -⟩ := hm.1.len
  obtain ⟨oa, oc, rfl, -⟩ := ho.len
  obtain ⟨ha0, hr0, hb0⟩ := mem_pair w (.slice a L.length c)
  have HO := Lib.hid ho
  have HR0 := Lib.hid hr0
  have HB0 := Lib.hid hb0
  have HM0 : Hid (∃ a' n' c', At ((w.alloc (.cells #[.slice a L.length c] 89)).alloc (.cells #[.slice none 0 0] 89)) w.heap.size #[.slice a' n' c'] 89 ∧ Mm ((w.alloc (.cells #[.slice a L.length c] 89)).alloc (.cells #[.slice none 0 0] 89)) (.slice a' n' c') (withL L (ops.take 0))) := ⟨_, _, _, ha0, hm.below hb0 (Nat.le_refl _)⟩
  have HTK := Lib.hid (fun (k : Nat) (hk : k < ops.length) => withL_take (L := L) hk)
  have HLN : Hid (∀ k, (withL L (ops.take k)).length ≤ 60000) := fun k => by
    have h1 := withL_len (ops.take k) L
    have h2 := List.length_take_le' k ops
    omega
  have HFE : Hid (withL L ops = withL L (ops.take ops.length)) := by unfold Hid; rw [List.take_length]
  clear hm ho ha0 hr0 hb0
  go_enter Tryz.func72, Tryz.ntmps72
  go_wp2_with fail
  go_loopw [9] (fun x wr => ∃ k : Nat, k ≤ ops.length ∧ x = .int .i64 k ∧ Hid (∃ a' n' c', At wr w.heap.size #[.slice a' n' c'] 89 ∧ Mm wr (.slice a' n' c') (withL L (ops.take k))) ∧ Hid (At wr (w.heap.size + 1) #[.slice none 0 0] 89) ∧ Hid (Below w.heap.size w wr)) (fun x _ => ops.length - (intOf x).toNat)
  case atStart => exact ⟨0, by omega, rfl, HM0, HR0, HB0⟩
  case round =>
    clear HM0 HR0 HB0
    obtain ⟨k, hk, rfl, HM, HR, HB⟩ := hrel
    obtain ⟨a1, n1, c1, hA, hM⟩ := HM.out
    have HA := Lib.hid hA
    have HMM := Lib.hid hM
    clear HM hA hM
    by_cases hlt : k < ops.length
    · obtain ⟨b, o, rfl, hbl, c0, c1', c2⟩ := Opv.at (HO.out.below HB.out (Nat.le_refl _)) k hlt
      have HTE := Lib.hid (HTK.out k hlt)
      have hln := HLN.out k
      generalize ops[k] = O at *
      generalize withL L (ops.take k) = K at *
      obtain ⟨ow, ov, ox⟩ := O
      dsimp only at *
      have hba := (Below.refl wr.heap.size wr).alloc (Nat.le_refl _) (.cells #[.bool ow, .int .i64 ov, .int .i64 ox] 123)
      have HB2 := Lib.hid (HB.out.alloc HB.out.size (.cells #[.bool ow, .int .i64 ov, .int .i64 ox] 123))
      have HA2 := Lib.hid (HA.out.alloc (.cells #[.bool ow, .int .i64 ov, .int .i64 ox] 123))
      have HR2 := Lib.hid (HR.out.alloc (.cells #[.bool ow, .int .i64 ov, .int .i64 ox] 123))
      have HM2 := Lib.hid (HMM.out.below hba (Nat.le_refl _))
      clear hba HA HR HB HMM
      cases ow with
      | false =>
        have HTE2 : Hid (withL L (ops.take (k + 1)) = K) := by unfold Hid; rw [HTE.out, if_neg (by decide)]
        clear HTE
        go_wp2
        go_roundw
        case rel => exact ⟨k + 1, by omega, by go_num, ⟨_, _, _, HA2.out, by rw [HTE2.out]; exact HM2.out⟩, HR2, HB2⟩
        case measure => simp [intOf]; omega
      | true =>
        have HTE2 : Hid (withL L (ops.take (k + 1)) = ⟨true, ov, ox⟩ :: K) := by unfold Hid; rw [HTE.out, if_pos rfl]
        have HP := Lib.hid (refPutM_any a1 n1 c1 K ⟨true, ov, ox⟩ _ HM2.out hln)
        have k0 := HA2.out.cell (i := 0) (v := .slice a1 n1 c1) rfl
        clear HTE HM2
        go_wp2_with (go_at_call 97; refine HP.out.mono ?_; rintro e w4 ⟨u4, rfl, hm4, hb4⟩; obtain ⟨a4, c4, rfl, -⟩ := hm4.1.len; have HA4 := Lib.hid (HA2.out.below hb4 HA2.out.lt); have HR4 := Lib.hid (HR2.out.below hb4 HR2.out.lt); have HB4 := Lib.hid (HB2.out.trans (hb4.mono HB2.out.size)); have HM4 := Lib.hid hm4; have k4 := HA4.out.cell (i := 0) (v := .slice a1 n1 c1) rfl; have f4 := HA4.out.free 0; clear hm4 hb4 k0)
        have HA5 := Lib.hid (HA4.out.set 0 (.slice a4 (⟨true, ov, ox⟩ :: K : List Rwo).length c4))
        have HM5 : Hid (Mm (w4.setCell ⟨w.heap.size, 0, none⟩ (.slice a4 (⟨true, ov, ox⟩ :: K : List Rwo).length c4)) (.slice a4 (⟨true, ov, ox⟩ :: K : List Rwo).length c4) (⟨true, ov, ox⟩ :: K)) := ⟨HM4.out.1.set HA4.out _, HM4.out.2⟩
        have HR5 := Lib.hid (HR4.out.other (a := ⟨w.heap.size, 0, none⟩) (by simp) (.slice a4 (⟨true, ov, ox⟩ :: K : List Rwo).length c4))
        have HB5 := Lib.hid (HB4.out.setCell (p := ⟨w.heap.size, 0, none⟩) (Nat.le_refl _) (.slice a4 (⟨true, ov, ox⟩ :: K : List Rwo).length c4))
        clear k4 f4 HA4 HM4 HR4 HB4
        go_roundw
        case rel => exact ⟨k + 1, by omega, by go_num, ⟨_, _, _, HA5.out, by rw [HTE2.out]; exact HM5.out⟩, HR5, HB5⟩
        case measure => simp [intOf]; omega
    · obtain rfl : k = ops.length := by omega
      rw [← HFE.out] at HMM
      have hA9 := HR.out.set 0 (.slice a1 n1 c1)
      have HM9 : Hid (Mm (wr.setCell ⟨w.heap.size + 1, 0, none⟩ (.slice a1 n1 c1)) (.slice a1 n1 c1) (withL L ops)) := ⟨HMM.out.1.set HR.out _, HMM.out.2⟩
      have HA9 := Lib.hid hA9
      have HB9 := Lib.hid (HB.out.setCell (p := ⟨w.heap.size + 1, 0, none⟩) (by simp) (.slice a1 n1 c1))
      have k0 := HA.out.cell (i := 0) (v := .slice a1 n1 c1) rfl
      have z0 := HR.out.cell (i := 0) (v := .slice none 0 0) rfl
      have f0 := HR.out.free 0
      clear hA9 HFE HTK HLN
      go_wp2
      generalize wr.setCell ⟨w.heap.size + 1, 0, none⟩ (.slice a1 n1 c1) = w9 at *
      have e0 := HA9.out.cell (i := 0) (v := .slice a1 n1 c1) rfl
      refine bodyPost_ret (v := .agg #[.slice a1 n1 c1]) ?_ rfl ⟨_, rfl, HM9.out, HB9.out⟩
      simp [results, Tryz.results72, go_sem, e0]
end Go.Proofs.YtpjfhdljagkefaaGreatDoor
