/- The walks of the reference's Put, Get and With: a memory told as writes, the last one first. -/
import Derived.Test.YtoemcdcabamgiaaDoorLegC
import Derived.Test.YtoemcdcabamgiaaDoorMg8
import Derived.Test.YtoemcdcabamgiaaDoorMg2
import Derived.Laws.AppendOwnNone
namespace Go.Proofs.YtoemcdcabamgiaaDoor.WPlain
end Go.Proofs.YtoemcdcabamgiaaDoor.WPlain
namespace Go.Proofs.YtoemcdcabamgiaaDoor.QPlain
end Go.Proofs.YtoemcdcabamgiaaDoor.QPlain
namespace Go.Proofs.YtoemcdcabamgiaaDoor.RPlain
end Go.Proofs.YtoemcdcabamgiaaDoor.RPlain
namespace Go.Proofs.YtoemcdcabamgiaaDoor.RPlain
open WPlain QPlain

def withL (L ops : List Rwo) : List Rwo := ops.foldl (fun L o => if o.w = true then o :: L else L) L
theorem withL_app (L a b : List Rwo) : withL L (a ++ b) = withL (withL L a) b := List.foldl_append ..
theorem withL_take {L ops : List Rwo} {k : Nat} (hk : k < ops.length) : withL L (ops.take (k + 1)) = if ops[k].w = true then ops[k] :: withL L (ops.take k) else withL L (ops.take k) := by
  rw [List.take_succ_eq_append_getElem hk, withL_app]
  rfl
theorem withL_len (ops : List Rwo) : ∀ L : List Rwo, (withL L ops).length ≤ L.length + ops.length := by
  induction ops with
  | nil => intro L; exact Nat.le_refl _
  | cons o r ih =>
    intro L
    show (withL (if o.w = true then o :: L else L) r).length ≤ _
    rw [List.length_cons]
    by_cases hw : o.w = true
    · rw [if_pos hw]
      have := ih (o :: L)
      rw [List.length_cons] at this
      omega
    · rw [if_neg hw]
      have := ih L
      omega
theorem memL_with (ops : List Rwo) : ∀ L : List Rwo, memL (withL L ops) = withM (memL L) ops := by
  induction ops with
  | nil => intro L; rfl
  | cons o r ih =>
    intro L
    show memL (withL (if o.w = true then o :: L else L) r) = _
    rw [ih, withM_cons]
    split
    · rw [memL_put]
    · rfl
theorem memL_at {L : List Rwo} {k : Nat} (hk : k < L.length) {v : Int} (hn : ∀ o ∈ L.take k, o.v ≠ v) (hv : L[k].v = v) : memL L v = L[k].x := by
  have h1 : L.find? (fun o => decide (o.v = v)) = some L[k] := by
    have h2 := List.find?_append (xs := L.take k) (ys := L.drop k) (p := fun o => decide (o.v = v))
    have h3 : (L.take k).find? (fun o => decide (o.v = v)) = none := List.find?_eq_none.2 (fun o ho => by simp; exact hn o ho)
    rw [List.take_append_drop, h3, List.drop_eq_getElem_cons hk, List.find?_cons] at h2
    rw [h2]
    simp [hv]
  unfold memL
  rw [h1]
theorem memL_none {L : List Rwo} {v : Int} (hn : ∀ o ∈ L, o.v ≠ v) : memL L v = 0 := by
  unfold memL
  rw [List.find?_eq_none.2 (fun o ho => by simp; exact hn o ho)]
end Go.Proofs.YtoemcdcabamgiaaDoor.RPlain
namespace Go.Proofs.YtoemcdcabamgiaaDoor
open Go.RowKit WPlain QPlain RPlain

/-- a memory's row of writes -/
def Mm (w : World) (u : Value) (L : List Rwo) : Prop := Opv w u L ∧ Src u
theorem Mm.below {w w' : World} {B : Nat} {u : Value} {L : List Rwo} (h : Mm w u L) (hb : Below B w w') (hB : w.heap.size ≤ B) : Mm w' u L := ⟨h.1.below hb hB, h.2⟩
theorem Mm.nil (w : World) : Mm w (.slice none 0 0) [] := ⟨Opv.nil _ _ _, .inl rfl⟩
theorem ops_oneCell (L : List Rwo) : ∀ u ∈ L.flatMap opC, u.oneCell' = true := by
  intro u hu
  obtain ⟨e, _, he⟩ := List.mem_flatMap.1 hu
  simp [opC] at he
  rcases he with rfl | rfl | rfl <;> rfl
theorem wpList_append_srcO {ops : Array Oper} {rest : List Oper} {o : Oper} {a : Act} {w : World} {Q : Exit → Act → World → Prop} (hgd : o.guard = none) (s x : Operand)
    (ho : o.op = .call { callee := .builtin .append, args := #[s, x], argTypes := #[47, 47] }) (base : Nat)
    (v : Value) (n : Nat) (xs : List Value) (hs : a.eval s = v) (hown : w.ownsRow base 107 3 v n xs)
    (v2 : Value) (h : List Rwo) (hx : a.eval x = v2) (hm : Mm w v2 h) (h63 : n + h.length ≤ 65536) (hbase : base ≤ w.heap.size)
    (hK : ∀ v' w', w'.ownsRow base 107 3 v' (n + h.length) (xs ++ h.flatMap opC) → w.grownBy w' v.ownBlock → wpList Tryd.prog ops Q rest (a.put o.dst v') w') : wpList Tryd.prog ops Q (o :: rest) a w := by
  obtain ⟨j0, hj0, hy0, hy1', hy2'⟩ := info_parts infoOp
  obtain ⟨hv, hsrc⟩ := hm
  rcases hsrc with rfl | ⟨ad, m, c, rfl⟩
  · have h0 : h = [] := List.length_eq_zero_iff.1 hv.1.length.symm
    subst h0
    have hrest := hK v w (by simpa using hown) ⟨rfl, rfl, rfl, Nat.le_refl _, fun _ _ _ => rfl⟩
    exact wpList_append_own_none hgd s x 47 ho base 107 j0 3 Tryd.underlying47 hj0 v n xs hs hown hx hrest
  · obtain rfl := hv.1.length
    refine wpList_append_own w hgd s x 47 ho base 107 j0 _ 3 24 Tryd.underlying47 hj0 hy0 hy1' hy2' rfl (by decide) v n xs hs hown ad h.length c (h.flatMap opC) hx (flat_len opC_len h) (hv.1.cells opC_len) (ops_oneCell h) (by unfold maxLen; omega) (by omega) hbase ?_
    intro v' w' h2 h3 _
    exact hK v' w' h2 h3
theorem row_one (w : World) (o : Rwo) {B : Nat} (hb : B ≤ w.heap.size) : (w.alloc (.cells #[.bool o.w, .int .i64 o.v, .int .i64 o.x] 107)).ownsRow B 107 3 (.slice (some ⟨w.heap.size, 0, none⟩) 1 1) 1 (opC o) :=
  ⟨rfl, .inr ⟨w.heap.size, 1, #[.bool o.w, .int .i64 o.v, .int .i64 o.x], rfl, hb, heap_alloc_new w _, Nat.le_refl _, by unfold maxLen; omega, rfl, rfl⟩⟩
set_option maxRecDepth 100000 in
set_option maxHeartbeats 1000000 in
theorem refPutM_any (a : Option Addr) (n c : Nat) (L : List Rwo) (o : Rwo) (w : World) (hm : Mm w (.slice a n c) L) (hl : L.length ≤ 60000) :
    Calls Tryd.prog 94 #[.agg #[.slice a n c], .agg #[.bool o.w, .int .i64 o.v, .int .i64 o.x]] w fun e w' => ∃ u, e = .returned (.agg #[u]) ∧ Mm w' u (o :: L) ∧ Below w.heap.size w w' := by
  obtain ⟨W3, hW3⟩ : ∃ W3, ((w.alloc (.cells #[.slice a n c] 116)).alloc (.cells #[.bool o.w, .int .i64 o.v, .int .i64 o.x] 107)).alloc (.cells #[.slice none 0 0] 116) = W3 := ⟨_, rfl⟩
  have hz3 : W3.heap.size = w.heap.size + 1 + 1 + 1 := by rw [← hW3]; simp
  have hb3 : Below w.heap.size w W3 := by rw [← hW3]; exact ((Below.refl _ _).alloc (Nat.le_refl _) _).alloc (by simp) _ |>.alloc (by simp; omega) _
  have hA3 : At W3 (w.heap.size + 1 + 1) #[.slice none 0 0] 116 := by
    have h := At.new ((w.alloc (.cells #[.slice a n c] 116)).alloc (.cells #[.bool o.w, .int .i64 o.v, .int .i64 o.x] 107)) #[.slice none 0 0] 116
    rw [hW3] at h
    rwa [show ((w.alloc (.cells #[.slice a n c] 116)).alloc (.cells #[.bool o.w, .int .i64 o.v, .int .i64 o.x] 107)).heap.size = w.heap.size + 1 + 1 from by simp] at h
  have hb4 : Below w.heap.size w (W3.alloc (.cells #[.bool o.w, .int .i64 o.v, .int .i64 o.x] 107)) := hb3.alloc hb3.size _
  have HB4 := Lib.hid hb4
  have HM4 := Lib.hid (hm.below hb4 (Nat.le_refl _))
  have HA4 := Lib.hid (hA3.alloc (.cells #[.bool o.w, .int .i64 o.v, .int .i64 o.x] 107))
  have hr4 := row_one W3 o hb3.size
  rw [hz3] at hr4
  have HR4 := Lib.hid hr4
  subst hW3
  clear hm hr4 hb4 hb3 hA3
  go_enter Tryd.func94, Tryd.ntmps94
  go_wp2_with (at_builtin; refine wpList_append_srcO rfl _ _ rfl w.heap.size _ _ _ rfl HR4.out _ L rfl HM4.out (by omega) HB4.out.size ?_)
  intro v1 w1 h1 hg1
  have hB1 := HB4.out.grown hg1 HB4.out.size (fun k hk => (HR4.out.lt k hk).1)
  have hA1 := HA4.out.grown hg1 (by simp [Value.ownBlock])
  have hne : ∀ k, v1.ownBlock = some k → ¬ k = w.heap.size + 1 + 1 := fun k hk hc => by subst hc; exact row_not h1 hA1 (by decide) hk
  have hcl : (o :: L).flatMap opC = opC o ++ L.flatMap opC := by simp
  have HR5 : Hid ((w1.setCell ⟨w.heap.size + 1 + 1, 0, none⟩ v1).ownsRow w.heap.size 107 3 v1 (o :: L).length ((o :: L).flatMap opC)) := by
    have := own_only h1 (Only.setCell (Only.refl (fun k => k = w.heap.size + 1 + 1) w1) (p := ⟨w.heap.size + 1 + 1, 0, none⟩) (fun _ => rfl) v1) hne
    have hln : (o :: L).length = 1 + L.length := by rw [List.length_cons]; omega
    unfold Hid
    rw [hcl, hln]
    exact this
  have HA5 := Lib.hid (hA1.set 0 v1)
  have HB5 := Lib.hid (hB1.setCell (p := ⟨w.heap.size + 1 + 1, 0, none⟩) (by simp; omega) v1)
  have HS := Lib.hid (Src.of_row h1)
  obtain ⟨va, vc, rfl⟩ := row_slice h1
  have k0 := hA1.cell (i := 0) rfl
  have f0 := hA1.free 0
  clear h1 hg1 hB1 hA1 hne hcl HA4 HB4 HM4 HR4
  go_wp2
  generalize w1.setCell ⟨w.heap.size + 1 + 1, 0, none⟩ (.slice va (1 + L.length) vc) = w2 at *
  have e0 := HA5.out.cell (i := 0) rfl
  refine bodyPost_ret (v := .agg #[.slice va (1 + L.length) vc]) ?_ rfl ⟨_, rfl, ⟨Opv.of_row HR5.out, HS.out⟩, HB5.out⟩
  simp [results, Tryd.results94, go_sem, e0]
/-- a cell of the call's own that holds a slice is none of a row of Ops -/
theorem Opv.set {w : World} {u : Value} {L : List Rwo} (h : Opv w u L) {N : Nat} {x : Option Addr} {y z : Nat} {T : TypeId} (hA : At w N #[.slice x y z] T) (v : Value) : Opv (w.setCell ⟨N, 0, none⟩ v) u L := by
  refine ⟨?_, h.2⟩
  rcases h.1 with h0 | ⟨h0, b, o, c, rfl, hbl, hc⟩
  · exact .inl h0
  · have hne : b ≠ N := by
      rintro rfl
      have h1 := hc 0 h0 0 (.bool L[0].w) (by omega) rfl
      rw [Nat.zero_mul, Nat.add_zero] at h1
      unfold At at hA
      simp only [World.cell?, hA] at h1
      match o, h1 with
      | 0, h1 => simp at h1
      | o + 1, h1 => simp at h1
    have hh := Below.heap_setCell w ⟨N, 0, none⟩ v b hne
    refine .inr ⟨h0, b, o, c, rfl, by simpa [World.setCell] using hbl, fun i hi j q hj hq => ?_⟩
    have h1 := hc i hi j q hj hq
    unfold World.cell? at h1 ⊢
    rw [hh]
    exact h1
set_option maxRecDepth 100000 in
set_option maxHeartbeats 1000000 in
theorem refGet_any (u : Value) (L : List Rwo) (v : Int) (w : World) (hm : Opv w u L) (hl : L.length ≤ 65536) :
    Calls Tryd.prog 88 #[.agg #[u], .int .i64 v] w fun e w' => e = .returned (.int .i64 (memL L v)) ∧ Below w.heap.size w w' := by
  obtain ⟨a, c, rfl, -⟩ := hm.len
  have HM := Lib.hid hm
  have HB0 := Lib.hid ((Below.refl w.heap.size w).alloc (Nat.le_refl _) (.cells #[.slice a L.length c] 116))
  have HAT := Lib.hid (fun (k : Nat) (hk : k < L.length) h1 h2 => memL_at (L := L) (v := v) hk h1 h2)
  have HNO := Lib.hid (memL_none (L := L) (v := v))
  have HTE := Lib.hid (fun (k : Nat) (hk : k < L.length) => List.take_succ_eq_append_getElem hk)
  generalize memL L v = res at *
  clear hm
  go_enter Tryd.func88, Tryd.ntmps88
  go_wp2_with fail
  go_loopw [10] (fun x wr => ∃ k : Nat, k ≤ L.length ∧ x = .int .i64 k ∧ Hid (∀ o ∈ L.take k, o.v ≠ v) ∧ Hid (Below w.heap.size w wr)) (fun x _ => L.length - (intOf x).toNat)
  case atStart => exact ⟨0, by omega, rfl, fun o ho => by simp at ho, HB0⟩
  case round =>
    clear HB0
    obtain ⟨k, hk, rfl, HN, HB⟩ := hrel
    by_cases hlt : k < L.length
    · obtain ⟨b, o, rfl, hbl, c0, c1, c2⟩ := Opv.at (HM.out.below HB.out (Nat.le_refl _)) k hlt
      have HAT2 := Lib.hid (HAT.out k hlt)
      have HTE2 := Lib.hid (HTE.out k hlt)
      generalize L[k] = O at *
      obtain ⟨ow, ov, ox⟩ := O
      dsimp only at *
      have HB2 := Lib.hid (HB.out.alloc HB.out.size (.cells #[.bool ow, .int .i64 ov, .int .i64 ox] 107))
      by_cases hv : ov = v
      · have hres := HAT2.out HN.out hv
        subst hres hv
        clear HAT2 HTE2 HN HAT
        have t1 : ((ov : Int) == ov) = true := by simp
        go_wp2
        go_ret
        exact ⟨rfl, HB2.out⟩
      · have HN2 : Hid (∀ o ∈ L.take (k + 1), o.v ≠ v) := by
          intro q hq
          rw [HTE2.out] at hq
          rcases List.mem_append.1 hq with hq | hq
          · exact HN.out q hq
          · rw [List.mem_singleton.1 hq]; exact hv
        have t1 : ((ov : Int) == v) = false := by simp [hv]
        clear HAT2 HTE2 HN hv
        go_wp2
        go_roundw
        case rel => exact ⟨k + 1, by omega, by go_num, HN2, HB2⟩
        case measure => simp [intOf]; omega
    · obtain rfl : k = L.length := by omega
      have hres := HNO.out (by have := HN.out; rwa [List.take_length] at this)
      subst hres
      clear HNO HAT HN
      go_wp2
      go_ret
      exact ⟨rfl, HB.out⟩
theorem mem_pair (w : World) (u : Value) : At ((w.alloc (.cells #[u] 116)).alloc (.cells #[.slice none 0 0] 116)) w.heap.size #[u] 116 ∧
    At ((w.alloc (.cells #[u] 116)).alloc (.cells #[.slice none 0 0] 116)) (w.heap.size + 1) #[.slice none 0 0] 116 ∧
    Below w.heap.size w ((w.alloc (.cells #[u] 116)).alloc (.cells #[.slice none 0 0] 116)) := by
  refine ⟨(At.new w #[u] _).alloc _, ?_, ((Below.refl _ _).alloc (Nat.le_refl _) _).alloc (by simp) _⟩
  have h := At.new (w.alloc (.cells #[u] 116)) #[.slice none 0 0] 116
  rwa [show (w.alloc (.cells #[u] 116)).heap.size = w.heap.size + 1 from by simp] at h
set_option maxRecDepth 100000 in
set_option maxHeartbeats 1000000 in
theorem refWith_any (u uo : Value) (L ops : List Rwo) (w : World) (hm : Mm w u L) (ho : Opv w uo ops) (hl : L.length + ops.length ≤ 60000) :
    Calls Tryd.prog 89 #[.agg #[u], uo] w fun e w' => ∃ u', e = .returned (.agg #[u']) ∧ Mm w' u' (withL L ops) ∧ Below w.heap.size w w' := by
  obtain ⟨a, c, rfl, -⟩ := hm.1.len
  obtain ⟨oa, oc, rfl, -⟩ := ho.len
  obtain ⟨ha0, hr0, hb0⟩ := mem_pair w (.slice a L.length c)
  have HO := Lib.hid ho
  have HR0 := Lib.hid hr0
  have HB0 := Lib.hid hb0
  have HM0 : Hid (∃ a' n' c', At ((w.alloc (.cells #[.slice a L.length c] 116)).alloc (.cells #[.slice none 0 0] 116)) w.heap.size #[.slice a' n' c'] 116 ∧ Mm ((w.alloc (.cells #[.slice a L.length c] 116)).alloc (.cells #[.slice none 0 0] 116)) (.slice a' n' c') (withL L (ops.take 0))) := ⟨_, _, _, ha0, hm.below hb0 (Nat.le_refl _)⟩
  have HTK := Lib.hid (fun (k : Nat) (hk : k < ops.length) => withL_take (L := L) hk)
  have HLN : Hid (∀ k, (withL L (ops.take k)).length ≤ 60000) := fun k => by
    have h1 := withL_len (ops.take k) L
    have h2 := List.length_take_le' k ops
    omega
  have HFE : Hid (withL L ops = withL L (ops.take ops.length)) := by unfold Hid; rw [List.take_length]
  clear hm ho ha0 hr0 hb0
  go_enter Tryd.func89, Tryd.ntmps89
  go_wp2_with fail
  go_loopw [9] (fun x wr => ∃ k : Nat, k ≤ ops.length ∧ x = .int .i64 k ∧ Hid (∃ a' n' c', At wr w.heap.size #[.slice a' n' c'] 116 ∧ Mm wr (.slice a' n' c') (withL L (ops.take k))) ∧ Hid (At wr (w.heap.size + 1) #[.slice none 0 0] 116) ∧ Hid (Below w.heap.size w wr)) (fun x _ => ops.length - (intOf x).toNat)
  case atStart => exact ⟨0, by omega, rfl, HM0, HR0, HB0⟩
  case round =>
    clear HM0 HR0 HB0
    obtain ⟨k, hk, rfl, HM, HR, HB⟩ := hrel
    obtain ⟨a1, n1, c1, hA, hM⟩ := HM.out
    have HA := Lib.hid hA
    have HMM := Lib.hid hM
    clear HM hA hM
    by_cases hlt : k < ops.length
    · obtain ⟨b, o, rfl, hbl, c0, c1', c2⟩ := Opv.at (HO.out.below HB.out (Nat.le_refl _)) k hlt
      have HTE := Lib.hid (HTK.out k hlt)
      have hln := HLN.out k
      generalize ops[k] = O at *
      generalize withL L (ops.take k) = K at *
      obtain ⟨ow, ov, ox⟩ := O
      dsimp only at *
      have hba := (Below.refl wr.heap.size wr).alloc (Nat.le_refl _) (.cells #[.bool ow, .int .i64 ov, .int .i64 ox] 107)
      have HB2 := Lib.hid (HB.out.alloc HB.out.size (.cells #[.bool ow, .int .i64 ov, .int .i64 ox] 107))
      have HA2 := Lib.hid (HA.out.alloc (.cells #[.bool ow, .int .i64 ov, .int .i64 ox] 107))
      have HR2 := Lib.hid (HR.out.alloc (.cells #[.bool ow, .int .i64 ov, .int .i64 ox] 107))
      have HM2 := Lib.hid (HMM.out.below hba (Nat.le_refl _))
      clear hba HA HR HB HMM
      cases ow with
      | false =>
        have HTE2 : Hid (withL L (ops.take (k + 1)) = K) := by unfold Hid; rw [HTE.out, if_neg (by decide)]
        clear HTE
        go_wp2
        go_roundw
        case rel => exact ⟨k + 1, by omega, by go_num, ⟨_, _, _, HA2.out, by rw [HTE2.out]; exact HM2.out⟩, HR2, HB2⟩
        case measure => simp [intOf]; omega
      | true =>
        have HTE2 : Hid (withL L (ops.take (k + 1)) = ⟨true, ov, ox⟩ :: K) := by unfold Hid; rw [HTE.out, if_pos rfl]
        have HP := Lib.hid (refPutM_any a1 n1 c1 K ⟨true, ov, ox⟩ _ HM2.out hln)
        have k0 := HA2.out.cell (i := 0) (v := .slice a1 n1 c1) rfl
        clear HTE HM2
        go_wp2_with (go_at_call 94; refine HP.out.mono ?_; rintro e w4 ⟨u4, rfl, hm4, hb4⟩; obtain ⟨a4, c4, rfl, -⟩ := hm4.1.len; have HA4 := Lib.hid (HA2.out.below hb4 HA2.out.lt); have HR4 := Lib.hid (HR2.out.below hb4 HR2.out.lt); have HB4 := Lib.hid (HB2.out.trans (hb4.mono HB2.out.size)); have HM4 := Lib.hid hm4; have k4 := HA4.out.cell (i := 0) (v := .slice a1 n1 c1) rfl; have f4 := HA4.out.free 0; clear hm4 hb4 k0)
        have HA5 := Lib.hid (HA4.out.set 0 (.slice a4 (⟨true, ov, ox⟩ :: K : List Rwo).length c4))
        have HM5 : Hid (Mm (w4.setCell ⟨w.heap.size, 0, none⟩ (.slice a4 (⟨true, ov, ox⟩ :: K : List Rwo).length c4)) (.slice a4 (⟨true, ov, ox⟩ :: K : List Rwo).length c4) (⟨true, ov, ox⟩ :: K)) := ⟨HM4.out.1.set HA4.out _, HM4.out.2⟩
        have HR5 := Lib.hid (HR4.out.other (a := ⟨w.heap.size, 0, none⟩) (by simp) (.slice a4 (⟨true, ov, ox⟩ :: K : List Rwo).length c4))
        have HB5 := Lib.hid (HB4.out.setCell (p := ⟨w.heap.size, 0, none⟩) (Nat.le_refl _) (.slice a4 (⟨true, ov, ox⟩ :: K : List Rwo).length c4))
        clear k4 f4 HA4 HM4 HR4 HB4
        go_roundw
        case rel => exact ⟨k + 1, by omega, by go_num, ⟨_, _, _, HA5.out, by rw [HTE2.out]; exact HM5.out⟩, HR5, HB5⟩
        case measure => simp [intOf]; omega
    · obtain rfl : k = ops.length := by omega
      rw [← HFE.out] at HMM
      have hA9 := HR.out.set 0 (.slice a1 n1 c1)
      have HM9 : Hid (Mm (wr.setCell ⟨w.heap.size + 1, 0, none⟩ (.slice a1 n1 c1)) (.slice a1 n1 c1) (withL L ops)) := ⟨HMM.out.1.set HR.out _, HMM.out.2⟩
      have HA9 := Lib.hid hA9
      have HB9 := Lib.hid (HB.out.setCell (p := ⟨w.heap.size + 1, 0, none⟩) (by simp) (.slice a1 n1 c1))
      have k0 := HA.out.cell (i := 0) (v := .slice a1 n1 c1) rfl
      have z0 := HR.out.cell (i := 0) (v := .slice none 0 0) rfl
      have f0 := HR.out.free 0
      clear hA9 HFE HTK HLN
      go_wp2
      generalize wr.setCell ⟨w.heap.size + 1, 0, none⟩ (.slice a1 n1 c1) = w9 at *
      have e0 := HA9.out.cell (i := 0) (v := .slice a1 n1 c1) rfl
      refine bodyPost_ret (v := .agg #[.slice a1 n1 c1]) ?_ rfl ⟨_, rfl, HM9.out, HB9.out⟩
      simp [results, Tryd.results89, go_sem, e0]
end Go.Proofs.YtoemcdcabamgiaaDoor
