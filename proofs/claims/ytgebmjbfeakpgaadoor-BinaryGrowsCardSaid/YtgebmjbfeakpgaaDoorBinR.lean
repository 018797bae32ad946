/- The walk of BinaryGrows. (Written by gen_binR.py.) -/
import Derived.Test.YtgebmjbfeakpgaaDoorBinI
import Derived.Test.YtgebmjbfeakpgaaDoorBinK
import Derived.Test.YtgebmjbfeakpgaaDoorBinN
import Derived.Test.YtgebmjbfeakpgaaDoorBinP
import Derived.Test.YtgebmjbfeakpgaaDoorShelf
import Derived.Deep.RegionHeldLaw
import Derived.Deep.RegionHeld
import Derived.Test.YtgebmjbfeakpgaaDoorBinQ
import Derived.Deep.DrawnRows
import Derived.Deep.DeepMust
attribute [local go_sem ↓] Go.wp_at_zero Go.wp_at_succ
namespace Go.Proofs.YtgebmjbfeakpgaaDoor
open Go.RowKit WPlain VPlain BPlain

/-- append of events as a step of a region that draws, whatever the source -/
theorem step_append_ev {ops : Array Oper} {o : Oper} {a : Act} {w : World} {K : Act → World → Prop} {Q : Exit → Act → World → Prop} {E : Prop}
    (hg : o.guard = none) (s x : Operand) (ho : o.op = Op.call { callee := Callee.builtin Builtin.append, args := #[s, x], argTypes := #[23, 23] })
    (base : Nat) (v : Value) (n : Nat) (xs : List Value) (hs : a.eval s = v) (hown : w.ownsRow base 42 4 v n xs)
    (v2 : Value) (h : List Ev) (hx : a.eval x = v2) (hv : Evs w v2 h) (hsrc : Src v2) (h63 : n + h.length ≤ 65536) (hbase : base ≤ w.heap.size)
    (hK : ∀ v' w', w'.ownsRow base 42 4 v' (n + h.length) (xs ++ evsCells h) → w.grownBy w' v.ownBlock → K (a.put o.dst v') w') :
    if Region.wanted o (yielded ops a.tmps) = true then Oper.wp Tryd.prog o a w K Q else E := by
  have hw : Region.wanted o (yielded ops a.tmps) = true := by simp [Region.wanted, hg]
  rw [if_pos hw]
  obtain ⟨j0, hj0, hy0, hy1', hy2'⟩ := info_parts info42
  rcases hsrc with rfl | ⟨ad, m, c, rfl⟩
  · have h0 : h = [] := List.length_eq_zero_iff.1 hv.length.symm
    subst h0
    have hrest := hK v w (by simpa [evsCells] using hown) ⟨rfl, rfl, rfl, Nat.le_refl _, fun _ _ _ => rfl⟩
    have hrun := run_append_owned_none (P := Tryd.prog) (w := w) base 23 o.type 42 j0 4 Tryd.underlying23 hj0 v n xs hown
    unfold Oper.wp execOp
    simp only [ho, resolve, invoke, builtin, Sem.run_bind, Sem.run_pure, Result.andThen_ok, List.map_toArray, List.map_cons, List.map_nil, hs, hx, hrun]
    exact hrest
  · obtain rfl := hv.length
    refine wp_append_own w s x 23 ho base 42 j0 _ 4 32 Tryd.underlying23 hj0 hy0 hy1' hy2' rfl (by decide) v n xs hs hown ad h.length c (evsCells h) hx (evsCells_len h) hv.cells (evs_oneCell h) (by unfold maxLen; omega) (by omega) hbase ?_
    intro v' w' h2 h3 _
    exact hK v' w' h2 h3
theorem hpre_any {w : World} {ga gb ca cb : Nat} {A B : List Nat} (ha : Rd w (.slice (some ⟨ga, 0, none⟩) A.length ca) (bs A)) (hb : Rd w (.slice (some ⟨gb, 0, none⟩) B.length cb) (bs B)) (i j : Nat) (hcb : B.length ≤ cb) (hp : A.drop i <+: B.drop j) :
    Calls Tryd.prog 20 #[.slice (some ⟨gb, j, none⟩) (B.length - j) (cb - j), .slice (some ⟨ga, i, none⟩) (A.length - i) (ca - i)] w fun e w' => e = .returned (.bool true) ∧ w = w' := by
  have cells : ∀ (g c : Nat) (L : List Nat) (k : Nat), Rd w (.slice (some ⟨g, 0, none⟩) L.length c) (bs L) → ∀ m, m < L.length - k → w.cell? ⟨g, k + m, none⟩ = some (.int .u8 (((L.drop k).map (fun n : Nat => (n : Int))).getD m 0)) := by
    intro g c L k hr m hm
    rcases hr with ⟨e0, _⟩ | ⟨_, b, o, c', he, hc⟩
    · have := bs_len L; rw [e0] at this; simp at this; omega
    · simp only [Value.slice.injEq, Option.some.injEq, Addr.mk.injEq] at he
      obtain ⟨⟨rfl, rfl, _⟩, _, _⟩ := he
      have h1 := hc (k + m) _ (bs_at (l := L) (i := k + m) (by omega))
      rw [Nat.zero_add] at h1
      rw [h1]
      have h2 : k + m < L.length := by omega
      simp [List.getD_eq_getElem?_getD, h2]
  have h := Tryd.bytes_HasPrefix gb j (B.length - j) (cb - j) ga i (A.length - i) (ca - i) ((B.drop j).map (fun n : Nat => (n : Int))) ((A.drop i).map (fun n : Nat => (n : Int))) w (by simp) (by simp) (by omega) (cells gb cb B j hb) (cells ga ca A i ha)
  refine h.mono fun e w' ⟨he, hw⟩ => ⟨?_, hw.symm⟩
  rw [he]
  have hpp : Lib.hasPrefix (Lib.bytesOf ((B.drop j).map (fun n : Nat => (n : Int)))) (Lib.bytesOf ((A.drop i).map (fun n : Nat => (n : Int)))) = true := by
    unfold Lib.hasPrefix Lib.bytesOf
    rw [List.isPrefixOf_iff_prefix]
    exact (hp.map _).map _
  rw [hpp]
theorem drop_printB (h : List Ev) : (printB h).drop (nb h.length).length = h.flatMap evB := by unfold printB; exact List.drop_left
theorem grow_prefix (h : List Ev) (e : Ev) : (printB h).drop (nb h.length).length <+: (printB (h ++ [e])).drop (nb (h.length + 1)).length := by
  have h1 := drop_printB (h ++ [e])
  rw [List.length_append] at h1
  rw [drop_printB, show h.length + 1 = h.length + [e].length from rfl, h1, List.flatMap_append]
  exact List.prefix_append _ _
theorem grow_len (h : List Ev) (e : Ev) : (printB h).length < (printB (h ++ [e])).length ∧ (nb h.length).length ≤ (printB h).length ∧ (nb (h.length + 1)).length < (printB (h ++ [e])).length := by
  have h1 := nb_mono (show h.length ≤ h.length + 1 by omega)
  have h2 : 0 < (evB e).length := by unfold evB; rw [List.length_append]; have := nb_pos (bodyB e).length; omega
  have hl : (h ++ [e]).length = h.length + 1 := by simp
  have hf : (h ++ [e]).flatMap evB = h.flatMap evB ++ evB e := by simp
  unfold printB
  rw [hl, hf]
  simp only [List.length_append]
  omega
theorem src_ev {a : Option Addr} {n c : Nat} (h : a = none → c = 0) (hn : n ≤ c) : Src (.slice a n c) := by
  cases a with
  | none => have := h rfl; exact .inl (by rw [this, show n = 0 from by omega])
  | some p => exact .inr ⟨_, _, _, rfl⟩

set_option maxRecDepth 100000 in
set_option maxHeartbeats 4000000 in
theorem grows_nn (a1 : Option Addr) (n1 m1 c1 : Nat) (h : List Ev) (k t v x : Int) (w : World) (hK : HasK w) (hn1 : n1 ≤ c1) (HAE : Hid ((min (n1 : Int) 59).toNat = m1)) (hv : Evs w (.slice a1 m1 c1) h) (hz1 : a1 = none → c1 = 0) (h1 : h.length = m1) (hm1 : m1 ≤ 59) (hr : right h = false) (hr2 : right (h ++ [⟨k, t, v, x⟩]) = false) :
    Calls Tryd.prog 6 #[.slice a1 n1 c1, .agg #[.int .i64 k, .int .i64 t, .int .i64 v, .int .i64 x]] w fun e w' => e = .returned (.bool true) ∧ Below w.heap.size w w' := by
  obtain ⟨j0, hj0, hy0, hy1', hy2'⟩ := info_parts info42
  have hm1' : m1 ≤ c1 := by have := HAE.out; omega
  have HSRC := Lib.hid (src_ev hz1 hm1')
  have hb0 := (Below.refl w.heap.size w).alloc (Nat.le_refl _) (.cells #[.int .i64 k, .int .i64 t, .int .i64 v, .int .i64 x] 42)
  have hE := At.new w #[.int .i64 k, .int .i64 t, .int .i64 v, .int .i64 x] 42
  have HK : Hid (HasK (w.alloc (.cells #[.int .i64 k, .int .i64 t, .int .i64 v, .int .i64 x] 42))) := hK.later hb0 (Nat.le_refl _)
  have HV : Hid (Evs (w.alloc (.cells #[.int .i64 k, .int .i64 t, .int .i64 v, .int .i64 x] 42)) (.slice a1 m1 c1) h) := hv.below hb0 (Nat.le_refl _)
  have HB0 := Lib.hid hb0
  have HE := Lib.hid hE
  have HR := Lib.hid hr
  have HR2 := Lib.hid hr2
  have HLE := Lib.hid h1
  have hsz : w.heap.size + 1 ≤ (w.alloc (.cells #[.int .i64 k, .int .i64 t, .int .i64 v, .int .i64 x] 42)).heap.size := by simp
  clear hK hv hr hr2 hb0 hE hz1
  go_enter Tryd.func6, Tryd.ntmps6
  go_wp2_with fail
  all_goals
    generalize w.alloc (.cells #[.int .i64 k, .int .i64 t, .int .i64 v, .int .i64 x] 42) = w0 at *
    rw [HAE.out]
    refine (print_no _ h _ HK.out HV.out (by omega) HR.out).mono ?_
    rintro e w1 ⟨rfl, hb1⟩
    have HB1 := Lib.hid (HB0.out.trans (hb1.mono (by omega)))
    have HK1 := Lib.hid (HK.out.later hb1 (Nat.le_refl _))
    have HV1 := Lib.hid (HV.out.below hb1 (Nat.le_refl _))
    have hE1 := HE.out.below hb1 (by omega)
    have HXB : Hid (∀ w', Below w1.heap.size w1 w' → Bx w' w.heap.size k t v x) := fun w' hb => Bx.below (w := w1) ⟨hE1.cell (i := 0) rfl, hE1.cell (i := 1) rfl, hE1.cell (i := 2) rfl, hE1.cell (i := 3) rfl⟩ hb
    have HKB : Hid (∀ w', Below w1.heap.size w1 w' → HasK w') := fun w' hb => HK1.out.later hb (Nat.le_refl _)
    have HVB : Hid (∀ w', Below w1.heap.size w1 w' → Evs w' (.slice a1 m1 c1) h) := fun w' hb => HV1.out.below hb (Nat.le_refl _)
    have HBA : Hid (∀ (W : World) (o : Obj), Below w1.heap.size w1 W → Below w1.heap.size w1 (W.alloc o)) := fun W o hb => hb.alloc hb.size o
    have HO3 : Hid (((w1.drew.alloc (.cells #[.int .i64 k, .int .i64 t, .int .i64 v, .int .i64 x] 42)).alloc (.cells #[] 42)).ownsRow w1.heap.size 42 4 (.slice (some ⟨w1.heap.size + 1, 0, none⟩) 0 0) 0 []) := by
      have h0 := World.ownsRow_made (size := 4) (e := 42) (base := w1.heap.size) (w1.drew.alloc (.cells #[.int .i64 k, .int .i64 t, .int .i64 v, .int .i64 x] 42)) #[] 0 (by simp) (by unfold maxLen; omega) rfl
      have hs : (w1.drew.alloc (.cells #[.int .i64 k, .int .i64 t, .int .i64 v, .int .i64 x] 42)).heap.size = w1.heap.size + 1 := by simp
      rw [hs] at h0
      exact h0
    clear hb1 hE1 HK HV HE HB0
    go_wp2_with fail
    first
    | go_must (go_region_held_law (fun w' => w'.cell? ⟨w.heap.size, 0, none⟩ = some (.int .i64 k) ∧ w'.cell? ⟨w.heap.size, 1, none⟩ = some (.int .i64 t) ∧ w'.cell? ⟨w.heap.size, 2, none⟩ = some (.int .i64 v) ∧ w'.cell? ⟨w.heap.size, 3, none⟩ = some (.int .i64 x))
        (first | exact HXB.out _ hb5 | exact HXB.out _ hb4 | exact HXB.out _ (HBA.out _ _ hb3) | exact HXB.out _ hb3 | exact HXB.out _ (HBA.out _ _ (HBA.out _ _ (below_dr _))) | exact HXB.out _ (HBA.out _ _ (below_dr _)) | exact HXB.out _ (below_dr _))
        (first
          | (refine step_append_ev rfl _ _ rfl w1.heap.size (.slice (some ⟨w1.heap.size, 0, none⟩) 0 0) 0 [] rfl (World.ownsRow_made (size := 4) (e := 42) (base := w1.heap.size) w1.drew #[] 0 (Nat.le_refl _) (by unfold maxLen; omega) rfl) _ h rfl (HVB.out _ (HBA.out _ _ (below_dr _))) HSRC.out (by omega) (by simp) ?_; intro v3 w3 hx3 hg3; have hb3 : Below w1.heap.size w1 w3 := (HBA.out _ _ (below_dr w1)).grown hg3 (by simp) (fun kb hkb => by simp [Value.ownBlock] at hkb; omega); have h26 : True := trivial)
          | (refine step_append_ev rfl _ _ rfl w1.heap.size (.slice (some ⟨w1.heap.size, 0, none⟩) 0 0) 0 [] rfl ((World.ownsRow_made (size := 4) (e := 42) (base := w1.heap.size) w1.drew #[] 0 (Nat.le_refl _) (by unfold maxLen; omega) rfl).alloc _) _ h rfl (HVB.out _ (HBA.out _ _ (HBA.out _ _ (below_dr _)))) HSRC.out (by omega) (by simp; omega) ?_; intro v3 w3 hx3 hg3; have hb3 : Below w1.heap.size w1 w3 := (HBA.out _ _ (HBA.out _ _ (below_dr w1))).grown hg3 (by simp; omega) (fun kb hkb => by simp [Value.ownBlock] at hkb; omega); have h26 : At w3 (w1.heap.size + 1) #[.int .i64 k, .int .i64 t, .int .i64 v, .int .i64 x] 42 := At.grown (w := (w1.drew.alloc (.cells #[] 42)).alloc (.cells #[.int .i64 k, .int .i64 t, .int .i64 v, .int .i64 x] 42)) (by have h0 := At.new (w1.drew.alloc (.cells #[] 42)) #[.int .i64 k, .int .i64 t, .int .i64 v, .int .i64 x] 42; simpa using h0) hg3 (by simp [Value.ownBlock]))
          | (refine step_append_ev rfl _ _ rfl w1.heap.size (.slice (some ⟨w1.heap.size + 1, 0, none⟩) 0 0) 0 [] rfl HO3.out _ h rfl (HVB.out _ (HBA.out _ _ (HBA.out _ _ (below_dr _)))) HSRC.out (by omega) (by simp; omega) ?_; intro v3 w3 hx3 hg3; have hb3 : Below w1.heap.size w1 w3 := (HBA.out _ _ (HBA.out _ _ (below_dr w1))).grown hg3 (by simp; omega) (fun kb hkb => by simp [Value.ownBlock] at hkb; omega); have h26 : At w3 w1.heap.size #[.int .i64 k, .int .i64 t, .int .i64 v, .int .i64 x] 42 := At.grown (w := (w1.drew.alloc (.cells #[.int .i64 k, .int .i64 t, .int .i64 v, .int .i64 x] 42)).alloc (.cells #[] 42)) ((At.new w1.drew #[.int .i64 k, .int .i64 t, .int .i64 v, .int .i64 x] 42).alloc _) hg3 (by simp [Value.ownBlock]))
          | (refine step_append_mine rfl _ _ 23 rfl w1.heap.size 42 j0 _ 4 32 Tryd.underlying23 hj0 hy0 hy1' hy2' rfl (by decide) v3 (0 + h.length) ([] ++ evsCells h) rfl (hx3.alloc _) ⟨w3.heap.size, 0, none⟩ 1 1 [.int .i64 k, .int .i64 t, .int .i64 v, .int .i64 x] rfl rfl (cells_of_at (At.new w3 #[.int .i64 k, .int .i64 t, .int .i64 v, .int .i64 x] _)) (four_one _ _ _ _) (by unfold maxLen; omega) (by omega) (by have := hb3.size; simp; omega) ?_; intro v4 w4 hx4 hg4; have hb4 : Below w1.heap.size w1 w4 := (HBA.out _ _ hb3).grown hg4 (by have := hb3.size; simp; omega) (fun kb hkb => own_turned hx3 hb3.size hkb))
          | (refine step_append_mine rfl _ _ 23 rfl w1.heap.size 42 j0 _ 4 32 Tryd.underlying23 hj0 hy0 hy1' hy2' rfl (by decide) v3 (0 + h.length) ([] ++ evsCells h) rfl hx3 _ 1 1 [.int .i64 k, .int .i64 t, .int .i64 v, .int .i64 x] rfl rfl (cells_of_at h26) (four_one _ _ _ _) (by unfold maxLen; omega) (by omega) hb3.size ?_; intro v4 w4 hx4 hg4; have hb4 : Below w1.heap.size w1 w4 := hb3.grown hg4 hb3.size (fun kb hkb => own_turned hx3 hb3.size hkb))
          | (go_at_call 11; refine (print_no _ (h ++ [⟨k, t, v, x⟩]) _ (HKB.out _ hb4) (Evs.of_row (B := w1.heap.size) (e := 42) (by simpa [evsCells, evCells] using hx4)) (by simp; omega) HR2.out).mono ?_; rintro e w5 ⟨rfl, hb6⟩; have hb5 : Below w1.heap.size w1 w5 := hb4.trans (hb6.mono hb4.size))))
    | fail
    all_goals
      have HB5 := Lib.hid (HB1.out.trans (hb5.mono HB1.out.size))
      have HK5 := Lib.hid (HKB.out _ hb5)
      clear hb3 hb4 hb5 hb6 hx3 hx4 hg3 hg4 h26
      go_wp2_with fail
      refine (alive_any _ HK5.out).mono ?_
      rintro e w6 ⟨rfl, hb7⟩
      have HB7 := Lib.hid (HB5.out.trans (hb7.mono HB5.out.size))
      go_wp2
      go_ret
      exact ⟨rfl, HB7.out⟩
set_option maxRecDepth 100000 in
set_option maxHeartbeats 4000000 in
theorem grows_yn (a1 : Option Addr) (n1 m1 c1 : Nat) (h : List Ev) (k t v x : Int) (w : World) (hK : HasK w) (hn1 : n1 ≤ c1) (HAE : Hid ((min (n1 : Int) 59).toNat = m1)) (hv : Evs w (.slice a1 m1 c1) h) (hz1 : a1 = none → c1 = 0) (h1 : h.length = m1) (hm1 : m1 ≤ 59) (hr : right h = true) (hr2 : right (h ++ [⟨k, t, v, x⟩]) = false) :
    Calls Tryd.prog 6 #[.slice a1 n1 c1, .agg #[.int .i64 k, .int .i64 t, .int .i64 v, .int .i64 x]] w fun e w' => e = .returned (.bool true) ∧ Below w.heap.size w w' := by
  obtain ⟨j0, hj0, hy0, hy1', hy2'⟩ := info_parts info42
  have hm1' : m1 ≤ c1 := by have := HAE.out; omega
  have HSRC := Lib.hid (src_ev hz1 hm1')
  have hb0 := (Below.refl w.heap.size w).alloc (Nat.le_refl _) (.cells #[.int .i64 k, .int .i64 t, .int .i64 v, .int .i64 x] 42)
  have hE := At.new w #[.int .i64 k, .int .i64 t, .int .i64 v, .int .i64 x] 42
  have HK : Hid (HasK (w.alloc (.cells #[.int .i64 k, .int .i64 t, .int .i64 v, .int .i64 x] 42))) := hK.later hb0 (Nat.le_refl _)
  have HV : Hid (Evs (w.alloc (.cells #[.int .i64 k, .int .i64 t, .int .i64 v, .int .i64 x] 42)) (.slice a1 m1 c1) h) := hv.below hb0 (Nat.le_refl _)
  have HB0 := Lib.hid hb0
  have HE := Lib.hid hE
  have HR := Lib.hid hr
  have HR2 := Lib.hid hr2
  have HLE := Lib.hid h1
  have hsz : w.heap.size + 1 ≤ (w.alloc (.cells #[.int .i64 k, .int .i64 t, .int .i64 v, .int .i64 x] 42)).heap.size := by simp
  clear hK hv hr hr2 hb0 hE hz1
  go_enter Tryd.func6, Tryd.ntmps6
  go_wp2_with fail
  all_goals
    generalize w.alloc (.cells #[.int .i64 k, .int .i64 t, .int .i64 v, .int .i64 x] 42) = w0 at *
    rw [HAE.out]
    refine (print_yes _ h _ HK.out HV.out HR.out).mono ?_
    rintro e w1 ⟨xa, rfl, hxa, hb1⟩
    have HXA := Lib.hid hxa
    obtain ⟨ga, ca, rfl⟩ := own_src hxa (printB_pos h)
    clear hxa
    have HB1 := Lib.hid (HB0.out.trans (hb1.mono (by omega)))
    have HK1 := Lib.hid (HK.out.later hb1 (Nat.le_refl _))
    have HV1 := Lib.hid (HV.out.below hb1 (Nat.le_refl _))
    have hE1 := HE.out.below hb1 (by omega)
    have HXB : Hid (∀ w', Below w1.heap.size w1 w' → Bx w' w.heap.size k t v x) := fun w' hb => Bx.below (w := w1) ⟨hE1.cell (i := 0) rfl, hE1.cell (i := 1) rfl, hE1.cell (i := 2) rfl, hE1.cell (i := 3) rfl⟩ hb
    have HKB : Hid (∀ w', Below w1.heap.size w1 w' → HasK w') := fun w' hb => HK1.out.later hb (Nat.le_refl _)
    have HVB : Hid (∀ w', Below w1.heap.size w1 w' → Evs w' (.slice a1 m1 c1) h) := fun w' hb => HV1.out.below hb (Nat.le_refl _)
    have HBA : Hid (∀ (W : World) (o : Obj), Below w1.heap.size w1 W → Below w1.heap.size w1 (W.alloc o)) := fun W o hb => hb.alloc hb.size o
    have HO3 : Hid (((w1.drew.alloc (.cells #[.int .i64 k, .int .i64 t, .int .i64 v, .int .i64 x] 42)).alloc (.cells #[] 42)).ownsRow w1.heap.size 42 4 (.slice (some ⟨w1.heap.size + 1, 0, none⟩) 0 0) 0 []) := by
      have h0 := World.ownsRow_made (size := 4) (e := 42) (base := w1.heap.size) (w1.drew.alloc (.cells #[.int .i64 k, .int .i64 t, .int .i64 v, .int .i64 x] 42)) #[] 0 (by simp) (by unfold maxLen; omega) rfl
      have hs : (w1.drew.alloc (.cells #[.int .i64 k, .int .i64 t, .int .i64 v, .int .i64 x] 42)).heap.size = w1.heap.size + 1 := by simp
      rw [hs] at h0
      exact h0
    clear hb1 hE1 HK HV HE HB0
    go_wp2_with fail
    first
    | go_must (go_region_held_law (fun w' => w'.cell? ⟨w.heap.size, 0, none⟩ = some (.int .i64 k) ∧ w'.cell? ⟨w.heap.size, 1, none⟩ = some (.int .i64 t) ∧ w'.cell? ⟨w.heap.size, 2, none⟩ = some (.int .i64 v) ∧ w'.cell? ⟨w.heap.size, 3, none⟩ = some (.int .i64 x))
        (first | exact HXB.out _ hb5 | exact HXB.out _ hb4 | exact HXB.out _ (HBA.out _ _ hb3) | exact HXB.out _ hb3 | exact HXB.out _ (HBA.out _ _ (HBA.out _ _ (below_dr _))) | exact HXB.out _ (HBA.out _ _ (below_dr _)) | exact HXB.out _ (below_dr _))
        (first
          | (refine step_append_ev rfl _ _ rfl w1.heap.size (.slice (some ⟨w1.heap.size, 0, none⟩) 0 0) 0 [] rfl (World.ownsRow_made (size := 4) (e := 42) (base := w1.heap.size) w1.drew #[] 0 (Nat.le_refl _) (by unfold maxLen; omega) rfl) _ h rfl (HVB.out _ (HBA.out _ _ (below_dr _))) HSRC.out (by omega) (by simp) ?_; intro v3 w3 hx3 hg3; have hb3 : Below w1.heap.size w1 w3 := (HBA.out _ _ (below_dr w1)).grown hg3 (by simp) (fun kb hkb => by simp [Value.ownBlock] at hkb; omega); have h26 : True := trivial)
          | (refine step_append_ev rfl _ _ rfl w1.heap.size (.slice (some ⟨w1.heap.size, 0, none⟩) 0 0) 0 [] rfl ((World.ownsRow_made (size := 4) (e := 42) (base := w1.heap.size) w1.drew #[] 0 (Nat.le_refl _) (by unfold maxLen; omega) rfl).alloc _) _ h rfl (HVB.out _ (HBA.out _ _ (HBA.out _ _ (below_dr _)))) HSRC.out (by omega) (by simp; omega) ?_; intro v3 w3 hx3 hg3; have hb3 : Below w1.heap.size w1 w3 := (HBA.out _ _ (HBA.out _ _ (below_dr w1))).grown hg3 (by simp; omega) (fun kb hkb => by simp [Value.ownBlock] at hkb; omega); have h26 : At w3 (w1.heap.size + 1) #[.int .i64 k, .int .i64 t, .int .i64 v, .int .i64 x] 42 := At.grown (w := (w1.drew.alloc (.cells #[] 42)).alloc (.cells #[.int .i64 k, .int .i64 t, .int .i64 v, .int .i64 x] 42)) (by have h0 := At.new (w1.drew.alloc (.cells #[] 42)) #[.int .i64 k, .int .i64 t, .int .i64 v, .int .i64 x] 42; simpa using h0) hg3 (by simp [Value.ownBlock]))
          | (refine step_append_ev rfl _ _ rfl w1.heap.size (.slice (some ⟨w1.heap.size + 1, 0, none⟩) 0 0) 0 [] rfl HO3.out _ h rfl (HVB.out _ (HBA.out _ _ (HBA.out _ _ (below_dr _)))) HSRC.out (by omega) (by simp; omega) ?_; intro v3 w3 hx3 hg3; have hb3 : Below w1.heap.size w1 w3 := (HBA.out _ _ (HBA.out _ _ (below_dr w1))).grown hg3 (by simp; omega) (fun kb hkb => by simp [Value.ownBlock] at hkb; omega); have h26 : At w3 w1.heap.size #[.int .i64 k, .int .i64 t, .int .i64 v, .int .i64 x] 42 := At.grown (w := (w1.drew.alloc (.cells #[.int .i64 k, .int .i64 t, .int .i64 v, .int .i64 x] 42)).alloc (.cells #[] 42)) ((At.new w1.drew #[.int .i64 k, .int .i64 t, .int .i64 v, .int .i64 x] 42).alloc _) hg3 (by simp [Value.ownBlock]))
          | (refine step_append_mine rfl _ _ 23 rfl w1.heap.size 42 j0 _ 4 32 Tryd.underlying23 hj0 hy0 hy1' hy2' rfl (by decide) v3 (0 + h.length) ([] ++ evsCells h) rfl (hx3.alloc _) ⟨w3.heap.size, 0, none⟩ 1 1 [.int .i64 k, .int .i64 t, .int .i64 v, .int .i64 x] rfl rfl (cells_of_at (At.new w3 #[.int .i64 k, .int .i64 t, .int .i64 v, .int .i64 x] _)) (four_one _ _ _ _) (by unfold maxLen; omega) (by omega) (by have := hb3.size; simp; omega) ?_; intro v4 w4 hx4 hg4; have hb4 : Below w1.heap.size w1 w4 := (HBA.out _ _ hb3).grown hg4 (by have := hb3.size; simp; omega) (fun kb hkb => own_turned hx3 hb3.size hkb))
          | (refine step_append_mine rfl _ _ 23 rfl w1.heap.size 42 j0 _ 4 32 Tryd.underlying23 hj0 hy0 hy1' hy2' rfl (by decide) v3 (0 + h.length) ([] ++ evsCells h) rfl hx3 _ 1 1 [.int .i64 k, .int .i64 t, .int .i64 v, .int .i64 x] rfl rfl (cells_of_at h26) (four_one _ _ _ _) (by unfold maxLen; omega) (by omega) hb3.size ?_; intro v4 w4 hx4 hg4; have hb4 : Below w1.heap.size w1 w4 := hb3.grown hg4 hb3.size (fun kb hkb => own_turned hx3 hb3.size hkb))
          | (go_at_call 11; refine (print_no _ (h ++ [⟨k, t, v, x⟩]) _ (HKB.out _ hb4) (Evs.of_row (B := w1.heap.size) (e := 42) (by simpa [evsCells, evCells] using hx4)) (by simp; omega) HR2.out).mono ?_; rintro e w5 ⟨rfl, hb6⟩; have hb5 : Below w1.heap.size w1 w5 := hb4.trans (hb6.mono hb4.size))))
    | fail
    all_goals
      have HB5 := Lib.hid (HB1.out.trans (hb5.mono HB1.out.size))
      have HK5 := Lib.hid (HKB.out _ hb5)
      clear hb3 hb4 hb5 hb6 hx3 hx4 hg3 hg4 h26
      go_wp2_with fail
      refine (alive_any _ HK5.out).mono ?_
      rintro e w6 ⟨rfl, hb7⟩
      have HB7 := Lib.hid (HB5.out.trans (hb7.mono HB5.out.size))
      go_wp2
      go_ret
      exact ⟨rfl, HB7.out⟩
set_option maxRecDepth 100000 in
set_option maxHeartbeats 4000000 in
theorem grows_yy (a1 : Option Addr) (n1 m1 c1 : Nat) (h : List Ev) (k t v x : Int) (w : World) (hK : HasK w) (hn1 : n1 ≤ c1) (HAE : Hid ((min (n1 : Int) 59).toNat = m1)) (hv : Evs w (.slice a1 m1 c1) h) (hz1 : a1 = none → c1 = 0) (h1 : h.length = m1) (hm1 : m1 ≤ 59) (hr : right h = true) (hr2 : right (h ++ [⟨k, t, v, x⟩]) = true) :
    Calls Tryd.prog 6 #[.slice a1 n1 c1, .agg #[.int .i64 k, .int .i64 t, .int .i64 v, .int .i64 x]] w fun e w' => e = .returned (.bool true) ∧ Below w.heap.size w w' := by
  obtain ⟨j0, hj0, hy0, hy1', hy2'⟩ := info_parts info42
  have hm1' : m1 ≤ c1 := by have := HAE.out; omega
  have HSRC := Lib.hid (src_ev hz1 hm1')
  have hb0 := (Below.refl w.heap.size w).alloc (Nat.le_refl _) (.cells #[.int .i64 k, .int .i64 t, .int .i64 v, .int .i64 x] 42)
  have hE := At.new w #[.int .i64 k, .int .i64 t, .int .i64 v, .int .i64 x] 42
  have HK : Hid (HasK (w.alloc (.cells #[.int .i64 k, .int .i64 t, .int .i64 v, .int .i64 x] 42))) := hK.later hb0 (Nat.le_refl _)
  have HV : Hid (Evs (w.alloc (.cells #[.int .i64 k, .int .i64 t, .int .i64 v, .int .i64 x] 42)) (.slice a1 m1 c1) h) := hv.below hb0 (Nat.le_refl _)
  have HB0 := Lib.hid hb0
  have HE := Lib.hid hE
  have HR := Lib.hid hr
  have HR2 := Lib.hid hr2
  have HLE := Lib.hid h1
  have hsz : w.heap.size + 1 ≤ (w.alloc (.cells #[.int .i64 k, .int .i64 t, .int .i64 v, .int .i64 x] 42)).heap.size := by simp
  clear hK hv hr hr2 hb0 hE hz1
  go_enter Tryd.func6, Tryd.ntmps6
  go_wp2_with fail
  all_goals
    generalize w.alloc (.cells #[.int .i64 k, .int .i64 t, .int .i64 v, .int .i64 x] 42) = w0 at *
    rw [HAE.out]
    refine (print_yes _ h _ HK.out HV.out HR.out).mono ?_
    rintro e w1 ⟨xa, rfl, hxa, hb1⟩
    have HXA := Lib.hid hxa
    obtain ⟨ga, ca, rfl⟩ := own_src hxa (printB_pos h)
    clear hxa
    have HB1 := Lib.hid (HB0.out.trans (hb1.mono (by omega)))
    have HK1 := Lib.hid (HK.out.later hb1 (Nat.le_refl _))
    have HV1 := Lib.hid (HV.out.below hb1 (Nat.le_refl _))
    have hE1 := HE.out.below hb1 (by omega)
    have HXB : Hid (∀ w', Below w1.heap.size w1 w' → Bx w' w.heap.size k t v x) := fun w' hb => Bx.below (w := w1) ⟨hE1.cell (i := 0) rfl, hE1.cell (i := 1) rfl, hE1.cell (i := 2) rfl, hE1.cell (i := 3) rfl⟩ hb
    have HKB : Hid (∀ w', Below w1.heap.size w1 w' → HasK w') := fun w' hb => HK1.out.later hb (Nat.le_refl _)
    have HVB : Hid (∀ w', Below w1.heap.size w1 w' → Evs w' (.slice a1 m1 c1) h) := fun w' hb => HV1.out.below hb (Nat.le_refl _)
    have HBA : Hid (∀ (W : World) (o : Obj), Below w1.heap.size w1 W → Below w1.heap.size w1 (W.alloc o)) := fun W o hb => hb.alloc hb.size o
    have HO3 : Hid (((w1.drew.alloc (.cells #[.int .i64 k, .int .i64 t, .int .i64 v, .int .i64 x] 42)).alloc (.cells #[] 42)).ownsRow w1.heap.size 42 4 (.slice (some ⟨w1.heap.size + 1, 0, none⟩) 0 0) 0 []) := by
      have h0 := World.ownsRow_made (size := 4) (e := 42) (base := w1.heap.size) (w1.drew.alloc (.cells #[.int .i64 k, .int .i64 t, .int .i64 v, .int .i64 x] 42)) #[] 0 (by simp) (by unfold maxLen; omega) rfl
      have hs : (w1.drew.alloc (.cells #[.int .i64 k, .int .i64 t, .int .i64 v, .int .i64 x] 42)).heap.size = w1.heap.size + 1 := by simp
      rw [hs] at h0
      exact h0
    clear hb1 hE1 HK HV HE HB0
    go_wp2_with fail
    first
    | go_must (go_region_held_law (fun w' => w'.cell? ⟨w.heap.size, 0, none⟩ = some (.int .i64 k) ∧ w'.cell? ⟨w.heap.size, 1, none⟩ = some (.int .i64 t) ∧ w'.cell? ⟨w.heap.size, 2, none⟩ = some (.int .i64 v) ∧ w'.cell? ⟨w.heap.size, 3, none⟩ = some (.int .i64 x))
        (first | exact HXB.out _ hb5 | exact HXB.out _ hb4 | exact HXB.out _ (HBA.out _ _ hb3) | exact HXB.out _ hb3 | exact HXB.out _ (HBA.out _ _ (HBA.out _ _ (below_dr _))) | exact HXB.out _ (HBA.out _ _ (below_dr _)) | exact HXB.out _ (below_dr _))
        (first
          | (refine step_append_ev rfl _ _ rfl w1.heap.size (.slice (some ⟨w1.heap.size, 0, none⟩) 0 0) 0 [] rfl (World.ownsRow_made (size := 4) (e := 42) (base := w1.heap.size) w1.drew #[] 0 (Nat.le_refl _) (by unfold maxLen; omega) rfl) _ h rfl (HVB.out _ (HBA.out _ _ (below_dr _))) HSRC.out (by omega) (by simp) ?_; intro v3 w3 hx3 hg3; have hb3 : Below w1.heap.size w1 w3 := (HBA.out _ _ (below_dr w1)).grown hg3 (by simp) (fun kb hkb => by simp [Value.ownBlock] at hkb; omega); have h26 : True := trivial)
          | (refine step_append_ev rfl _ _ rfl w1.heap.size (.slice (some ⟨w1.heap.size, 0, none⟩) 0 0) 0 [] rfl ((World.ownsRow_made (size := 4) (e := 42) (base := w1.heap.size) w1.drew #[] 0 (Nat.le_refl _) (by unfold maxLen; omega) rfl).alloc _) _ h rfl (HVB.out _ (HBA.out _ _ (HBA.out _ _ (below_dr _)))) HSRC.out (by omega) (by simp; omega) ?_; intro v3 w3 hx3 hg3; have hb3 : Below w1.heap.size w1 w3 := (HBA.out _ _ (HBA.out _ _ (below_dr w1))).grown hg3 (by simp; omega) (fun kb hkb => by simp [Value.ownBlock] at hkb; omega); have h26 : At w3 (w1.heap.size + 1) #[.int .i64 k, .int .i64 t, .int .i64 v, .int .i64 x] 42 := At.grown (w := (w1.drew.alloc (.cells #[] 42)).alloc (.cells #[.int .i64 k, .int .i64 t, .int .i64 v, .int .i64 x] 42)) (by have h0 := At.new (w1.drew.alloc (.cells #[] 42)) #[.int .i64 k, .int .i64 t, .int .i64 v, .int .i64 x] 42; simpa using h0) hg3 (by simp [Value.ownBlock]))
          | (refine step_append_ev rfl _ _ rfl w1.heap.size (.slice (some ⟨w1.heap.size + 1, 0, none⟩) 0 0) 0 [] rfl HO3.out _ h rfl (HVB.out _ (HBA.out _ _ (HBA.out _ _ (below_dr _)))) HSRC.out (by omega) (by simp; omega) ?_; intro v3 w3 hx3 hg3; have hb3 : Below w1.heap.size w1 w3 := (HBA.out _ _ (HBA.out _ _ (below_dr w1))).grown hg3 (by simp; omega) (fun kb hkb => by simp [Value.ownBlock] at hkb; omega); have h26 : At w3 w1.heap.size #[.int .i64 k, .int .i64 t, .int .i64 v, .int .i64 x] 42 := At.grown (w := (w1.drew.alloc (.cells #[.int .i64 k, .int .i64 t, .int .i64 v, .int .i64 x] 42)).alloc (.cells #[] 42)) ((At.new w1.drew #[.int .i64 k, .int .i64 t, .int .i64 v, .int .i64 x] 42).alloc _) hg3 (by simp [Value.ownBlock]))
          | (refine step_append_mine rfl _ _ 23 rfl w1.heap.size 42 j0 _ 4 32 Tryd.underlying23 hj0 hy0 hy1' hy2' rfl (by decide) v3 (0 + h.length) ([] ++ evsCells h) rfl (hx3.alloc _) ⟨w3.heap.size, 0, none⟩ 1 1 [.int .i64 k, .int .i64 t, .int .i64 v, .int .i64 x] rfl rfl (cells_of_at (At.new w3 #[.int .i64 k, .int .i64 t, .int .i64 v, .int .i64 x] _)) (four_one _ _ _ _) (by unfold maxLen; omega) (by omega) (by have := hb3.size; simp; omega) ?_; intro v4 w4 hx4 hg4; have hb4 : Below w1.heap.size w1 w4 := (HBA.out _ _ hb3).grown hg4 (by have := hb3.size; simp; omega) (fun kb hkb => own_turned hx3 hb3.size hkb))
          | (refine step_append_mine rfl _ _ 23 rfl w1.heap.size 42 j0 _ 4 32 Tryd.underlying23 hj0 hy0 hy1' hy2' rfl (by decide) v3 (0 + h.length) ([] ++ evsCells h) rfl hx3 _ 1 1 [.int .i64 k, .int .i64 t, .int .i64 v, .int .i64 x] rfl rfl (cells_of_at h26) (four_one _ _ _ _) (by unfold maxLen; omega) (by omega) hb3.size ?_; intro v4 w4 hx4 hg4; have hb4 : Below w1.heap.size w1 w4 := hb3.grown hg4 hb3.size (fun kb hkb => own_turned hx3 hb3.size hkb))
          | (go_at_call 11; refine (print_yes _ (h ++ [⟨k, t, v, x⟩]) _ (HKB.out _ hb4) (Evs.of_row (B := w1.heap.size) (e := 42) (by simpa [evsCells, evCells] using hx4)) HR2.out).mono ?_; rintro e w5 ⟨xb, rfl, hxb, hb6⟩; have hb5 : Below w1.heap.size w1 w5 := hb4.trans (hb6.mono hb4.size))))
    | fail
    all_goals
      have HB5 := Lib.hid (HB1.out.trans (hb5.mono HB1.out.size))
      have HK5 := Lib.hid (HKB.out _ hb5)
      have HXA5 := Lib.hid ((Rd.of_row HXA.out).below hb5 (Nat.le_refl _))
      have HXB5 := Lib.hid (Rd.of_row hxb)
      have hcapa := (own_cap HXA.out (printB_pos h)).1
      obtain ⟨gb, cb, rfl⟩ := own_src hxb (printB_pos _)
      have hcapb := (own_cap hxb (printB_pos _)).1
      have hgl := grow_len h ⟨k, t, v, x⟩
      have HGP := Lib.hid (grow_prefix h ⟨k, t, v, x⟩)
      have HPT := Lib.hid (put_any h.length (by omega))
      have hp2 := put_any (h.length + 1) (by omega)
      rw [show ((h.length + 1 : Nat) : Int) = (h.length : Int) + 1 from by omega] at hp2
      have HPT2 := Lib.hid hp2
      clear hb3 hb4 hb5 hb6 hx3 hx4 hg3 hg4 h26 hxb hp2 HXA HXB HKB HVB HBA HO3 HV1 HK1
      subst h1
      go_wp2_with fail
      refine (HPT.out _).mono ?_
      rintro e w6 ⟨p6, rfl, ho6, hb6⟩
      obtain ⟨q6, d6, rfl⟩ := row_slice ho6
      have HB6 := Lib.hid (HB5.out.trans (hb6.mono HB5.out.size))
      have HK6 := Lib.hid (HK5.out.later hb6 (Nat.le_refl _))
      have HXA6 := Lib.hid (HXA5.out.below hb6 (Nat.le_refl _))
      have HXB6 := Lib.hid (HXB5.out.below hb6 (Nat.le_refl _))
      clear ho6 hb6 HB5 HK5 HXA5 HXB5
      go_wp2_with fail
      refine (HPT2.out _).mono ?_
      rintro e w7 ⟨p7, rfl, ho7, hb7⟩
      obtain ⟨q7, d7, rfl⟩ := row_slice ho7
      have HB7 := Lib.hid (HB6.out.trans (hb7.mono HB6.out.size))
      have HK7 := Lib.hid (HK6.out.later hb7 (Nat.le_refl _))
      have HXA7 := Lib.hid (HXA6.out.below hb7 (Nat.le_refl _))
      have HXB7 := Lib.hid (HXB6.out.below hb7 (Nat.le_refl _))
      clear ho7 hb7 HB6 HK6 HXA6 HXB6
      have HQ : Hid (∀ W, Below w7.heap.size w7 W → Calls Tryd.prog 20 #[.slice (some ⟨gb, (nb (h.length + 1)).length, none⟩) ((printB (h ++ [⟨k, t, v, x⟩])).length - (nb (h.length + 1)).length) (cb - (nb (h.length + 1)).length), .slice (some ⟨ga, (nb h.length).length, none⟩) ((printB h).length - (nb h.length).length) (ca - (nb h.length).length)] W fun e w' => e = .returned (.bool true) ∧ W = w') :=
        fun W hb => hpre_any (HXA7.out.below hb (Nat.le_refl _)) (HXB7.out.below hb (Nat.le_refl _)) _ _ hcapb HGP.out
      clear HXA7 HXB7 HGP
      generalize (printB h).length = la at *
      generalize (printB (h ++ [⟨k, t, v, x⟩])).length = lb at *
      generalize (nb h.length).length = li at *
      generalize (nb (h.length + 1)).length = lj at *
      obtain ⟨g1, g2, g3⟩ := hgl
      have d1 : decide (li ≤ la) = true := decide_eq_true g2
      have d2 : decide (lj ≤ lb) = true := decide_eq_true (by omega)
      have d3 : decide (la < lb) = true := decide_eq_true g1
      have u1 : (0 : Int) ≤ (li : Int) := by omega
      have u2 : (li : Int) ≤ (la : Int) := by omega
      have u3 : (0 : Int) ≤ (lj : Int) := by omega
      have u4 : (lj : Int) ≤ (lb : Int) := by omega
      have nb1 : ¬ cb = lj := by omega
      go_wp2_with fail
      by_cases hci : ca = li
      · have hl0 : la - li = 0 := by omega
        first
        | go_must (go_region_held (fun _ => True) (trivial) (first
            | (go_at_call 9; refine (alive_any _ (HK7.out.later (below_dr _) (Nat.le_refl _))).mono ?_; rintro e w9 ⟨rfl, hb9⟩; have hbz := below_stp hb9)
            | (go_at_call 20; refine (Tryd.bytes_HasPrefix_e2 _ _ _ _ _ _).mono ?_; rintro e w10 ⟨rfl, rfl⟩)))
        | fail
        go_wp2
        go_ret
        exact ⟨rfl, HB7.out.trans (hbz.mono HB7.out.size)⟩
      · first
        | go_must (go_region_held (fun _ => True) (trivial) (first
            | (go_at_call 9; refine (alive_any _ (HK7.out.later (below_dr _) (Nat.le_refl _))).mono ?_; rintro e w9 ⟨rfl, hb9⟩; have hbz := below_stp hb9)
            | (go_at_call 20; refine (HQ.out _ hbz).mono ?_; rintro e w10 ⟨rfl, rfl⟩)))
        | fail
        go_wp2
        go_ret
        exact ⟨rfl, HB7.out.trans (hbz.mono HB7.out.size)⟩
theorem grows_any (a1 : Option Addr) (n1 c1 : Nat) (h : List Ev) (k t v x : Int) (w : World) (hK : HasK w) (hn1 : n1 ≤ c1) (hv : Evs w (.slice a1 (min (n1 : Int) 59).toNat c1) h) (hz1 : a1 = none → c1 = 0) :
    Calls Tryd.prog 6 #[.slice a1 n1 c1, .agg #[.int .i64 k, .int .i64 t, .int .i64 v, .int .i64 x]] w fun e w' => e = .returned (.bool true) ∧ Below w.heap.size w w' := by
  obtain ⟨m1, e1⟩ : ∃ m1, (min (n1 : Int) 59).toNat = m1 := ⟨_, rfl⟩
  rw [e1] at hv
  have hlen : h.length = m1 := by
    obtain ⟨a', c', he⟩ := hv.len
    simp only [Value.slice.injEq] at he
    exact he.2.1.symm
  cases hr : right h with
  | false =>
    have hr2 : right (h ++ [⟨k, t, v, x⟩]) = false := by
      cases hh : right (h ++ [⟨k, t, v, x⟩]) with
      | false => rfl
      | true => rw [right_ahead hh] at hr; cases hr
    exact grows_nn a1 n1 m1 c1 h k t v x w hK hn1 e1 hv hz1 hlen (by omega) hr hr2
  | true =>
    cases hr2 : right (h ++ [⟨k, t, v, x⟩]) with
    | false => exact grows_yn a1 n1 m1 c1 h k t v x w hK hn1 e1 hv hz1 hlen (by omega) hr hr2
    | true => exact grows_yy a1 n1 m1 c1 h k t v x w hK hn1 e1 hv hz1 hlen (by omega) hr hr2
end Go.Proofs.YtgebmjbfeakpgaaDoor
