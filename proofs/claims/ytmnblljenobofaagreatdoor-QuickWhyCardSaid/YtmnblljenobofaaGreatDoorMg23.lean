/- Merged: ExtI, ExtN. -/
import Derived.Test.YtmnblljenobofaaGreatDoorExtH
import Derived.Test.YtmnblljenobofaaGreatDoorMg2
import Derived.Test.YtmnblljenobofaaGreatDoorMg22
/- The walks of package extend's rows, and of slices.AppendSeq and Collect over them. -/
namespace Go.Proofs.YtmnblljenobofaaGreatDoor.RPlain
end Go.Proofs.YtmnblljenobofaaGreatDoor.RPlain
namespace Go.Proofs.YtmnblljenobofaaGreatDoor
open Go.RowKit Go.Shelf RPlain

attribute [local go_sem] Oper.semAt_some

theorem wpListIn_append_apart {F : Fence} {n : Nat} {P : Program} (w : World) {ops : Array Oper} {rest : List Oper} {o : Oper} {a : Act} {Q : Exit → Act → World → Prop}
    (hg : o.guard = none) (s x : Operand) (t : TypeId) (hop : o.op = Op.call { callee := Callee.builtin Builtin.append, args := #[s, x], argTypes := #[t, t] })
    (base : Nat) (e : TypeId) (i : TypeInfo) (z : Value) (size bytes : Nat) (h1 : P.underlying t = some (.slice e)) (h2 : P.info? e = some i) (h3 : i.zero = some z) (h4 : i.size = size) (h5 : i.bytes = bytes) (h6 : z.cells.size = size) (h7 : 0 < size)
    (v : Value) (k : Nat) (xs : List Value) (hs : a.eval s = v) (hown : w.ownsRow base e size v k xs) (ad : Addr) (m c : Nat) (news : List Value) (hx : a.eval x = .slice (some ad) m c) (hn : news.length = m * size)
    (hc : ∀ j u, news[j]? = some u → w.cell? (ad.add j) = some u) (h1c : ∀ u ∈ news, u.oneCell' = true) (b1 : k + m ≤ maxLen) (b2 : (k + m) * bytes ≤ 140737488355328) (b3 : base ≤ w.heap.size)
    (hK : ∀ v' w', w'.ownsRow base e size v' (k + m) (xs ++ news) → w.grownBy w' v.ownBlock → Lies w v v' → wpListIn F n P ops Q rest (a.put o.dst v') w') :
    wpListIn F n P ops Q (o :: rest) a w := by
  refine wpListIn_plain hg fun K hK' => ?_
  obtain ⟨v', w', hrun, r1, r2, r3⟩ := run_append_apart (P := P) w base t o.type e i z size bytes h1 h2 h3 h4 h5 h6 h7 v k xs hown ad m c news hn hc h1c b1 b2 b3
  unfold Oper.wpIn
  refine ⟨?_, ?_⟩
  · simp [Oper.about, hop, resolve, Target.leads, Sem.run_pure]
  · rw [Oper.semAt_plain F _ _ (by rw [hop]; intro c hc'; cases hc')]
    simp [execOp, hop, resolve, invoke, builtin, hs, hx, hrun, Result.andThen]
    exact hK' _ _ (hK v' w' r1 r2 r3)
theorem infoSl : (Tryz.prog.info? 24).map (fun i => (i.zero, i.size, i.bytes)) = some (some (.slice none 0 0), 1, 24) := by kernel_rfl
/-- the iterator of all rows of an order, as a value -/
def seqV (L R T : Nat) : Value := .func (.func 129) #[] #[.pointer (some ⟨L, 0, none⟩), .pointer (some ⟨R, 0, none⟩), .pointer (some ⟨T, 0, none⟩)]
theorem rows_any (a : Option Addr) (c : Nat) (A : List Nat) (hn : A.length ≤ 6) (w : World) :
    Calls Tryz.prog 86 #[.slice a A.length c] w fun e w' => e = .returned (seqV (w.heap.size + 2) (w.heap.size + 1) w.heap.size) ∧
      w' = ((w.alloc (.cells #[.slice a A.length c] 41)).alloc (.cells #[.slice none 0 0] 24)).alloc (.cells #[.int .u32 ((2 ^ A.length - 1 : Nat) : Int)] 23) := by
  have hp := placesOf_any a A.length c (by omega) w
  have hr := rowsFrom_any a none A.length c 0 0 ((2 ^ A.length - 1 : Nat) : Int) w
  unfold seqV
  generalize 2 ^ A.length - 1 = z at *
  go_enter Tryz.func86, Tryz.ntmps86
  go_wp2_with fail
  refine hp.mono ?_
  rintro e w1 ⟨rfl, hw1⟩
  obtain rfl : w = w1 := hw1.symm
  go_wp2_with fail
  refine hr.mono ?_
  rintro e w1 ⟨rfl, rfl⟩
  go_wp2
  go_ret
  exact ⟨rfl, rfl⟩
theorem rdx_low {X : Nat → Prop} {w : World} {v : Value} {xs : List Value} (hv : Rd w v xs) (hX : ∀ k, k < w.heap.size → ¬ X k) : RdX X w v xs := by
  rcases hv with h0 | ⟨h0, b, o, c', he, hc⟩
  · exact .inl h0
  · exact .inr ⟨h0, b, o, c', he, hX b (World.block_lt_of_cell? (a := ⟨b, o + 0, none⟩) w (hc 0 _ (List.getElem?_eq_getElem h0))), hc⟩
/-- what the caller of the rows holds -/
theorem rows_cap {a : Option Addr} {c : Nat} {A : List Nat} {w w' : World}
    (hw : w' = ((w.alloc (.cells #[.slice a A.length c] 41)).alloc (.cells #[.slice none 0 0] 24)).alloc (.cells #[.int .u32 ((2 ^ A.length - 1 : Nat) : Int)] 23)) :
    Below w.heap.size w w' ∧ w'.heap.size = w.heap.size + 3 ∧ ∀ X, RdX X w (.slice a A.length c) (u32s A) → (∀ k, w.heap.size ≤ k → k < w.heap.size + 3 → ¬ X k) → Cap A [] (w.heap.size + 2) (w.heap.size + 1) w.heap.size X w' := by
  subst hw
  have hB : Below w.heap.size w (((w.alloc (.cells #[.slice a A.length c] 41)).alloc (.cells #[.slice none 0 0] 24)).alloc (.cells #[.int .u32 ((2 ^ A.length - 1 : Nat) : Int)] 23)) :=
    (((Below.refl _ w).alloc (Nat.le_refl _) _).alloc (by simp) _).alloc (by simp; omega) _
  refine ⟨hB, by simp, fun X hv hX => ?_⟩
  have hL := At.new ((w.alloc (.cells #[.slice a A.length c] 41)).alloc (.cells #[.slice none 0 0] 24)) #[.int .u32 ((2 ^ A.length - 1 : Nat) : Int)] 23
  rw [World.size_alloc, World.size_alloc] at hL
  have hR := (At.new (w.alloc (.cells #[.slice a A.length c] 41)) #[.slice none 0 0] 24).alloc (.cells #[.int .u32 ((2 ^ A.length - 1 : Nat) : Int)] 23)
  rw [World.size_alloc] at hR
  exact ⟨hL, ⟨_, hR, .inl ⟨rfl, _, _, rfl⟩, .inl rfl⟩, ⟨_, ((At.new w _ _).alloc _).alloc _, hv.below hB⟩, hX _ (by omega) (by omega), hX _ (by omega) (by omega), hX _ (by omega) (by omega)⟩
/-- a slice reads as rows of places -/
def Rowl (X : Nat → Prop) (w : World) (vs : List Value) (rows : List (List Nat)) : Prop := vs.length = rows.length ∧ ∀ i (hi : i < rows.length) (h : i < vs.length), RdX X w vs[i] (nats rows[i])
theorem Rowl.snoc {X : Nat → Prop} {w : World} {vs : List Value} {rows : List (List Nat)} {v : Value} {r : List Nat} (h : Rowl X w vs rows) (hv : RdX X w v (nats r)) : Rowl X w (vs ++ [v]) (rows ++ [r]) := by
  obtain ⟨h1, h2⟩ := h
  refine ⟨by simp [h1], fun i hi hi' => ?_⟩
  by_cases hlt : i < rows.length
  · rw [List.getElem_append_left hlt, List.getElem_append_left (by omega)]
    exact h2 i hlt (by omega)
  · obtain rfl : i = rows.length := by simp at hi; omega
    rw [List.getElem_append_right (by omega), List.getElem_append_right (by omega)]
    simp [h1]
    exact hv
theorem Rowl.kept {X X' : Nat → Prop} {w w' : World} {vs : List Value} {rows : List (List Nat)} (h : Rowl X w vs rows) (hk : Kept X X' w w') : Rowl X' w' vs rows := ⟨h.1, fun i hi hi' => hk.rd (h.2 i hi hi')⟩
theorem Rowl.own {X : Nat → Prop} {w w' : World} {r : Option Nat} {vs : List Value} {rows : List (List Nat)} (h : Rowl X w vs rows) (hg : w.grownBy w' r) (hr : ∀ k, r = some k → ∃ o : Obj, w.heap[k]? = some o ∧ o.isCells = false) : Rowl X w' vs rows :=
  ⟨h.1, fun i hi hi' => rd_own (h.2 i hi hi') hg hr⟩
/-- what the loop that collects holds -/
def CollR (w0 : World) (B : Nat) (pre : List (List Nat)) (X : Nat → Prop) (W : World) : Prop :=
  ∃ v vs, At W B #[v] 47 ∧ W.ownsRow (B + 1) 24 1 v pre.length vs ∧ Rowl X W vs pre ∧ (∀ k, X k ↔ k = B ∨ v.ownBlock = some k) ∧ Below B w0 W
theorem ext_len (n : Nat) (p : List Nat → Nat → Bool) : ∀ (s : Nat) (row : List Nat), (extP n p s row).length ≤ n ^ s := by
  intro s
  induction s with
  | zero => intro row; exact Nat.le_refl _
  | succ s ih =>
    intro row
    rw [extP]
    have h : ∀ l : List Nat, (l.flatMap fun k => if p row k = true then extP n p s (row ++ [k]) else []).length ≤ l.length * n ^ s := by
      intro l
      induction l with
      | nil => simp
      | cons k t iht =>
        rw [List.flatMap_cons, List.length_append, List.length_cons, Nat.add_mul]
        have h1 : (if p row k = true then extP n p s (row ++ [k]) else []).length ≤ n ^ s := by
          split
          · exact ih _
          · exact Nat.zero_le _
        omega
    have h2 := h (List.range n)
    rw [List.length_range, Nat.mul_comm, ← Nat.pow_succ] at h2
    exact h2
theorem rowsS_len {A : List Nat} (hn : A.length ≤ 6) : (rowsS A).length ≤ 46656 := by
  have h1 := ext_len A.length (nxR A) A.length []
  have h2 : A.length ^ A.length ≤ 6 ^ A.length := Nat.pow_le_pow_left hn _
  have h3 : 6 ^ A.length ≤ 6 ^ 6 := Nat.pow_le_pow_right (by decide) hn
  unfold rowsS
  omega
theorem CollR.own {w0 : World} {B C : Nat} (hC : B ≤ C) : OwnX C (CollR w0 B) := by
  rintro pre X W W' r ⟨v, vs, h1, h2, h3, h4, h5⟩ hg hr
  have hnc : ∀ k, r = some k → ∃ o : Obj, W.heap[k]? = some o ∧ o.isCells = false := fun k e => (hr k e).2
  refine ⟨v, vs, at_own h1 hg hnc, h2.kept hg ?_, h3.own hg hnc, h4, h5.grown hg (by have := h1.lt; omega) (fun k e => Nat.le_trans hC (hr k e).1)⟩
  rcases h2.2 with ⟨rfl, _⟩ | ⟨g, cap, cur, rfl, _, hgb, _⟩
  · exact .inl rfl
  · refine .inr fun e' => ?_
    obtain ⟨o, ho, hc⟩ := hnc g (by rw [← e']; rfl)
    rw [hgb] at ho
    cases ho
    cases hc
set_option maxRecDepth 100000 in
set_option maxHeartbeats 4000000 in
theorem appendSeq_any (A : List Nat) (hn : A.length ≤ 6) (hA : ∀ a ∈ A, a < 4294967296) (L R T : Nat) (w : World) (hC : ∀ X, (∀ k, k < w.heap.size → ¬ X k) → Cap A [] L R T X w) :
    Calls Tryz.prog 114 #[.slice none 0 0, seqV L R T] w fun e w' => ∃ v vs, e = .returned v ∧ Rd w' v vs ∧ (∃ X, Rowl X w' vs (rowsS A)) ∧ SrcN v ∧ Below w.heap.size w w' := by
  obtain ⟨i0, hi0, hz0, hz1, hz2⟩ := info_parts infoSl
  have hlen := rowsS_len hn
  have hG := rows1_gives A hn hA (rowsS A) A.length [] List.nodup_nil (fun k hk => by cases hk) (by simp) L R T [] (by show ([] ++ rowsS A) <+: rowsS A; exact List.prefix_refl _)
  have hrs : extP A.length (nxR A) A.length [] = rowsS A := rfl
  rw [hrs] at hG
  have HG := Lib.hid hG
  have HC := Lib.hid hC
  clear hG hC hrs
  generalize rowsS A = rows at *
  refine (callsIn_wide (n := 6)).1 ?_
  refine callsIn_of_wp_marks Tryz.func114 rfl trivial ?_ rfl
  simp only [Tryz.ntmps114, List.size_toArray, List.length_cons, List.length_nil, Nat.reduceAdd, Nat.reduceSub, Array.replicate_succ, Array.replicate_zero, List.push_toArray, List.append_toArray, List.nil_append, List.cons_append]
  unfold seqV
  gi_wp2
  have hb0 : Below w.heap.size w (w.alloc (.cells #[.slice none 0 0] 47)) := (Below.refl _ w).alloc (Nat.le_refl _) _
  have hs0 : (w.alloc (.cells #[.slice none 0 0] 47)).heap.size = w.heap.size + 1 := by simp
  have hat0 := At.new w #[.slice none 0 0] 47
  generalize w.alloc (.cells #[.slice none 0 0] 47) = W0 at *
  refine range_x (gf := 129) (lb := #[.pointer (some ⟨L, 0, none⟩), .pointer (some ⟨R, 0, none⟩), .pointer (some ⟨T, 0, none⟩)]) rfl (enters_of Tryz.func129 (by kernel_rfl) rfl) rfl
    HG.out (CollR w w.heap.size) (fun _ _ _ _ => False) (fun k => k = w.heap.size) ?hyp ?top (CollR.own (by omega)) (fun _ _ _ _ _ _ hs _ _ => hs) ?start ?round ?done (fun _ _ _ _ _ h => h.elim)
  case hyp =>
    intro W1 hb1
    have hbb : Below w.heap.size w W1 := hb0.trans (hb1.mono hb0.size)
    exact (HC.out (addX (fun k => k = w.heap.size) (W0.heap.size + 1)) (fun k hk hx => by rcases hx with hx | hx <;> omega)).below hbb
  case top =>
    rintro pre X W ⟨v, vs, h1, h2, h3, h4, h5⟩ k hk
    rcases (h4 k).1 hk with rfl | hk
    · exact h1.lt
    · exact (h2.lt k hk).2
  case start =>
    exact ⟨.slice none 0 0, [], hat0, World.ownsRow_nil _ _ _ _, ⟨rfl, fun i hi => by cases hi⟩, fun k => by simp [Value.ownBlock], hb0⟩
  case round =>
    intro l' pre r v X V hl1 hl2 hl3 hI hTp hv
    obtain ⟨va, vc, rfl⟩ := hv.rd.len
    gi_wp2
    refine ⟨Kept.refl _ _, ?_⟩
    intro V2 hg hnc
    have hro : ∀ x, some l' = some x → W0.heap.size ≤ x ∧ ∃ o : Obj, V.heap[x]? = some o ∧ o.isCells = false := fun x e => by cases e; exact ⟨hl1, hnc⟩
    obtain ⟨v0, vs, h1, h2, h3, h4, h5⟩ := (CollR.own (C := W0.heap.size) (by omega)) _ _ _ _ _ hI hg hro
    have hv' := rd_own hv hg (fun x e => (hro x e).2)
    have hpl : pre.length + 1 ≤ 46656 := by
      have := hTp.length_le
      simp at this
      omega
    have hc := h1.cell (i := 0) rfl
    have H1 := Lib.hid h1
    have H2 := Lib.hid h2
    have H3 := Lib.hid (h3.snoc hv')
    have H4 := Lib.hid h4
    have H5 := Lib.hid h5
    obtain ⟨ra, rc, rfl⟩ := row_slice h2
    clear h1 h2 h3 h4 h5 hv' hI hv
    generalize (nats r).length = nr at *
    gi_wp2_with (gi_at_builtin; refine wpListIn_append_apart _ rfl _ _ 47 rfl (w.heap.size + 1) 24 i0 (.slice none 0 0) 1 24 Tryz.underlying47 hi0 hz0 hz1 hz2 rfl (by decide) _ _ _ rfl (H2.out.alloc _) ⟨V2.heap.size, 0, none⟩ 1 1 [.slice va nr vc] rfl rfl (cell_one_at V2 _ _) (by intro u hu; simp at hu; subst hu; rfl) (by unfold maxLen; omega) (by omega) (by have := H1.out.lt; simp; omega) ?_; intro v1 w1 hown' hgrow hlies; have hA1 : At w1 w.heap.size #[.slice ra pre.length rc] 47 := (H1.out.alloc _).grown hgrow (fun e => by have := (H2.out.lt _ e.symm).1; omega); have hc1 := hA1.cell (i := 0) rfl; have hf1 := hA1.free 0; have HA1 := Lib.hid hA1; clear hA1; obtain ⟨ra1, rc1, rfl⟩ := row_slice hown')
    have hkept : Kept X (fun k => k = w.heap.size ∨ (Value.slice ra1 (pre.length + 1) rc1).ownBlock = some k) V2 (w1.setCell ⟨w.heap.size, 0, none⟩ (.slice ra1 (pre.length + 1) rc1)) := by
      have hgs := hgrow.size
      simp only [World.size_alloc] at hgs
      refine ⟨?_, fun k hk hx => ?_, fun k hk => ?_⟩
      · show V2.heap.size ≤ (w1.heap.modify _ _).size
        rw [Array.size_modify]; omega
      · have hkB : k ≠ w.heap.size := fun e => hx ((H4.out k).2 (.inl e))
        rw [Below.heap_setCell _ _ _ _ hkB, hgrow.block k (by simp; omega) (fun e => hx ((H4.out k).2 (.inr e.symm))), Below.heap_alloc _ _ _ hk]
      · rcases hk with rfl | hk
        · exact .inl ((H4.out _).2 (.inl rfl))
        · rcases hlies with hl | hl
          · rw [hl] at hk
            exact .inl ((H4.out k).2 (.inr hk))
          · have := hl k hk
            simp only [World.size_alloc] at this
            exact .inr (by omega)
    have hrow1 := ownsRow_setCell_below hown' (a := ⟨w.heap.size, 0, none⟩) (by simp) (.slice ra1 (pre.length + 1) rc1)
    refine ⟨_, ⟨.slice ra1 (pre.length + 1) rc1, vs ++ [.slice va nr vc], by simpa using HA1.out.set 0 (.slice ra1 (pre.length + 1) rc1), by simpa using hrow1, H3.out.kept hkept, fun k => Iff.rfl, ?_⟩, hkept⟩
    refine ((H5.out.alloc H5.out.size _).grown hgrow (by have := H5.out.size; simp; omega) (fun k e => ?_)).setCell (Nat.le_refl _) _
    have := (H2.out.lt k e).1
    omega
  case done =>
    rintro X V ⟨v, vs, h1, h2, h3, h4, h5⟩ hD hdef
    have hc := h1.cell (i := 0) rfl
    have H2 := Lib.hid h2
    have H3 := Lib.hid h3
    have H5 := Lib.hid h5
    obtain ⟨ra, rc, rfl⟩ := row_slice h2
    have hlr : ([] ++ rows).length = rows.length := rfl
    clear h1 h2 h3 h4 h5
    gi_wp2
    refine leaves_marks (fun V' => V'.ownsRow (w.heap.size + 1) 24 1 (.slice ra rows.length rc) rows.length vs ∧ Rowl X V' vs rows ∧ Below w.heap.size w V')
      (fun V' hg => ⟨_, results_tmp rfl _ _ _, .slice ra rows.length rc, vs, rfl, Rd.of_row hg.1, ⟨X, hg.2.1⟩, SrcN.of_row hg.1, hg.2.2⟩) [W0.heap.size] V (by simp) (fun D hDm => ?_) (fun V' D hg hDm hw => ?_) ⟨H2.out, H3.out, H5.out⟩
    · rw [List.mem_singleton.1 hDm]; exact hdef
    · obtain ⟨g1, g2, g3⟩ := hg
      rw [List.mem_singleton] at hDm
      subst hDm
      have hcells : ∀ k, some W0.heap.size = some k → ∃ o : Obj, V'.heap[k]? = some o ∧ o.isCells = false := fun k e => by cases e; exact ⟨_, hw, rfl⟩
      exact ⟨ownsRow_putObj g1 _ hw rfl, g2.own (grownBy_putObj' V' W0.heap.size _) hcells, g3.grown (grownBy_putObj' V' W0.heap.size _) g3.size (fun k e => by cases e; omega)⟩
end Go.Proofs.YtmnblljenobofaaGreatDoor
/- The walk of the reference's All. -/
namespace Go.Proofs.YtmnblljenobofaaGreatDoor.RPlain
end Go.Proofs.YtmnblljenobofaaGreatDoor.RPlain
namespace Go.Proofs.YtmnblljenobofaaGreatDoor
open Go.RowKit RPlain

/-- rows of places, each a row of the call's own -/
def RowsO (B : Nat) (w : World) (vs : List Value) (rows : List (List Nat)) : Prop :=
  vs.length = rows.length ∧ ∀ i (hi : i < rows.length) (h : i < vs.length), w.ownsRow B 3 1 vs[i] rows[i].length (nats rows[i])
theorem RowsO.below {B : Nat} {w w' : World} {vs : List Value} {rows : List (List Nat)} (h : RowsO B w vs rows) (hb : Below w.heap.size w w') : RowsO B w' vs rows :=
  ⟨h.1, fun i hi hi' => (h.2 i hi hi').kept (grownB11 hb) (by cases (vs[i]).ownBlock <;> simp)⟩
theorem RowsO.grown {B B2 : Nat} {w w' : World} {vs us : List Value} {rows : List (List Nat)} {z : Value} {n : Nat} (h : RowsO B w vs rows) (hz : w.ownsRow B2 24 1 z n us) (hg : w.grownBy w' z.ownBlock) : RowsO B w' vs rows :=
  ⟨h.1, fun i hi hi' => (h.2 i hi hi').kept hg (row_apart (h.2 i hi hi') hz (by decide))⟩
theorem RowsO.snoc {B : Nat} {w : World} {vs : List Value} {rows : List (List Nat)} {v : Value} {r : List Nat} (h : RowsO B w vs rows) (hv : w.ownsRow B 3 1 v r.length (nats r)) : RowsO B w (vs ++ [v]) (rows ++ [r]) := by
  obtain ⟨h1, h2⟩ := h
  refine ⟨by simp [h1], fun i hi hi' => ?_⟩
  by_cases hlt : i < rows.length
  · simp only [List.getElem_append_left hlt, List.getElem_append_left (show i < vs.length by omega)]
    exact h2 i hlt (by omega)
  · obtain rfl : i = rows.length := by simp at hi; omega
    have e1 : (rows ++ [r])[rows.length] = r := by simp
    have e2 : (vs ++ [v])[rows.length]'hi' = v := by simp [← h1]
    rw [e1, e2]
    exact hv
theorem RowsO.get {B : Nat} {w : World} {vs : List Value} {rows : List (List Nat)} (h : RowsO B w vs rows) {i : Nat} (hi : i < rows.length) : ∃ a c, vs[i]? = some (.slice a rows[i].length c) ∧ w.ownsRow B 3 1 (.slice a rows[i].length c) rows[i].length (nats rows[i]) := by
  have hi' : i < vs.length := by rw [h.1]; exact hi
  have h2 := h.2 i hi hi'
  obtain ⟨a, c, he⟩ := row_slice h2
  refine ⟨a, c, by rw [List.getElem?_eq_getElem hi', he], ?_⟩
  rw [← he]
  exact h2
theorem ownCap11 {w : World} {B : Nat} {e : TypeId} {s : Nat} {v : Value} {n : Nat} {xs : List Value} (h : w.ownsRow B e s v n xs) : ∀ a m c, v = .slice a m c → m ≤ c := by
  intro a m c he
  rcases h.2 with ⟨rfl, rfl⟩ | ⟨g, cap, cur, rfl, _, _, hc, _⟩
  · simp only [Value.slice.injEq] at he
    obtain ⟨-, rfl, rfl⟩ := he
    omega
  · simp only [Value.slice.injEq] at he
    obtain ⟨-, rfl, rfl⟩ := he
    exact hc
theorem ext_mem {n : Nat} {p : List Nat → Nat → Bool} {s : Nat} {r : List Nat} (h : r ∈ extP n p s []) : r.length = s ∧ (∀ k ∈ r, k < n) ∧ stepsP p [] r = true := by
  rw [ext_filter] at h
  simp only [List.nil_append, List.map_id'] at h
  obtain ⟨h1, h2⟩ := List.mem_filter.1 h
  obtain ⟨h3, h4⟩ := allT_mem.1 h1
  exact ⟨h3, h4, h2⟩
theorem nxt_not {A r : List Nat} {k : Nat} (h : nxt A r k = true) : r.contains k = false := by
  unfold nxt at h
  rw [List.all_eq_true] at h
  rw [List.contains_eq_mem, decide_eq_false_iff_not]
  intro hm
  have := h k hm
  simp at this
/-- what comes of a row, up to a place -/
def goOn (A r : List Nat) (k : Nat) : List (List Nat) := ((List.range k).filter (nxt A r)).map fun x => r ++ [x]
theorem goOn_snoc (A r : List Nat) (k : Nat) : goOn A r (k + 1) = if nxt A r k = true then goOn A r k ++ [r ++ [k]] else goOn A r k := by
  unfold goOn
  rw [List.range_succ, List.filter_append, List.map_append]
  cases h : nxt A r k <;> simp [h]
/-- what comes of the first q rows -/
def goAll (A : List Nat) (L : List (List Nat)) (q : Nat) : List (List Nat) := (L.take q).flatMap fun r => goOn A r A.length
theorem goAll_snoc {A : List Nat} {L : List (List Nat)} {q : Nat} (h : q < L.length) : goAll A L (q + 1) = goAll A L q ++ goOn A L[q] A.length := by
  unfold goAll
  rw [List.take_succ_eq_append_getElem h, List.flatMap_append]
  simp
theorem goAll_ext (A : List Nat) (s : Nat) : goAll A (extP A.length (nxt A) s []) (extP A.length (nxt A) s []).length = extP A.length (nxt A) (s + 1) [] := by
  unfold goAll goOn
  rw [List.take_length, ext_snoc]
theorem goOn_le (A r : List Nat) {k m : Nat} (h : k ≤ m) : (goOn A r k).length ≤ (goOn A r m).length := by
  obtain ⟨d, rfl⟩ := Nat.le.dest h
  unfold goOn
  rw [List.length_map, List.length_map, List.range_add, List.filter_append, List.length_append]
  omega
theorem goAll_le (A : List Nat) (L : List (List Nat)) (q : Nat) : (goAll A L q).length ≤ (goAll A L L.length).length := by
  unfold goAll
  rw [List.take_length]
  conv => rhs; rw [← List.take_append_drop q L, List.flatMap_append, List.length_append]
  omega
/-- what holds while the next rows are gathered -/
structure LvlR (B B2 : Nat) (w0 : World) (y : Value) (vs : List Value) (L : List (List Nat)) (z : Value) (acc : List (List Nat)) (w : World) : Prop where
  out : w.ownsRow B 24 1 y L.length vs
  rows : RowsO B w vs L
  acc : ∃ us, w.ownsRow B2 24 1 z acc.length us ∧ RowsO B w us acc
  bel : Below B w0 w
  low : ∀ g, y.ownBlock = some g → g < B2
  top : B2 ≤ w.heap.size
  base : B ≤ B2
theorem LvlR.below {B B2 : Nat} {w0 : World} {y : Value} {vs : List Value} {L : List (List Nat)} {z : Value} {acc : List (List Nat)} {w w' : World} (h : LvlR B B2 w0 y vs L z acc w) (hb : Below w.heap.size w w') : LvlR B B2 w0 y vs L z acc w' := by
  obtain ⟨h1, h2, ⟨us, h3, h4⟩, h5, h6, h7, h8⟩ := h
  exact ⟨h1.kept (grownB11 hb) (by cases y.ownBlock <;> simp), h2.below hb, ⟨us, h3.kept (grownB11 hb) (by cases z.ownBlock <;> simp), h4.below hb⟩, h5.trans (hb.mono (by omega)), h6, Nat.le_trans h7 hb.size, h8⟩
theorem LvlR.push {B B2 : Nat} {w0 : World} {y : Value} {vs us : List Value} {L : List (List Nat)} {z : Value} {acc : List (List Nat)} {w w' : World} {v : Value} {r : List Nat} {z' : Value} (h : LvlR B B2 w0 y vs L z acc w)
    (hv : w.ownsRow B 3 1 v r.length (nats r)) (hu : w.ownsRow B2 24 1 z acc.length us) (hr : RowsO B w us acc) (hz : w'.ownsRow B2 24 1 z' (acc.length + 1) (us ++ [v])) (hg : w.grownBy w' z.ownBlock) : LvlR B B2 w0 y vs L z' (acc ++ [r]) w' := by
  obtain ⟨h1, h2, _, h5, h6, h7, h8⟩ := h
  refine ⟨h1.kept hg ?_, h2.grown hu hg, ⟨us ++ [v], by simpa using hz, RowsO.snoc (hr.grown hu hg) (hv.kept hg (row_apart hv hu (by decide)))⟩, h5.grown hg (by omega) (fun k e => Nat.le_trans h8 (hu.lt k e).1), h6, Nat.le_trans h7 hg.size, h8⟩
  cases hy : y.ownBlock with
  | none => exact .inl rfl
  | some g =>
    refine .inr fun e => ?_
    have h9 := (hu.lt g e.symm).1
    have h10 := h6 g hy
    omega
end Go.Proofs.YtmnblljenobofaaGreatDoor
