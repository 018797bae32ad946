/- The walks of package extend's rows, and of slices.AppendSeq and Collect over them. -/
import Derived.Test.YtclhbnfnmpabbaaExtH
import Derived.Test.YtclhbnfnmpabbaaKitT
namespace Go.Proofs.Ytclhbnfnmpabbaa.RPlain
end Go.Proofs.Ytclhbnfnmpabbaa.RPlain
namespace Go.Proofs.Ytclhbnfnmpabbaa
open Go.RowKit Go.Shelf RPlain

attribute [local go_sem] Oper.semAt_some

theorem wpListIn_append_apart {F : Fence} {n : Nat} {P : Program} (w : World) {ops : Array Oper} {rest : List Oper} {o : Oper} {a : Act} {Q : Exit → Act → World → Prop}
    (hg : o.guard = none) (s x : Operand) (t : TypeId) (hop : o.op = Op.call { callee := Callee.builtin Builtin.append, args := #[s, x], argTypes := #[t, t] })
    (base : Nat) (e : TypeId) (i : TypeInfo) (z : Value) (size bytes : Nat) (h1 : P.underlying t = some (.slice e)) (h2 : P.info? e = some i) (h3 : i.zero = some z) (h4 : i.size = size) (h5 : i.bytes = bytes) (h6 : z.cells.size = size) (h7 : 0 < size)
    (v : Value) (k : Nat) (xs : List Value) (hs : a.eval s = v) (hown : w.ownsRow base e size v k xs) (ad : Addr) (m c : Nat) (news : List Value) (hx : a.eval x = .slice (some ad) m c) (hn : news.length = m * size)
    (hc : ∀ j u, news[j]? = some u → w.cell? (ad.add j) = some u) (h1c : ∀ u ∈ news, u.oneCell' = true) (b1 : k + m ≤ maxLen) (b2 : (k + m) * bytes ≤ 140737488355328) (b3 : base ≤ w.heap.size)
    (hK : ∀ v' w', w'.ownsRow base e size v' (k + m) (xs ++ news) → w.grownBy w' v.ownBlock → Lies w v v' → wpListIn F n P ops Q rest (a.put o.dst v') w') :
    wpListIn F n P ops Q (o :: rest) a w := by
  refine wpListIn_plain hg fun K hK' => ?_
  obtain ⟨v', w', hrun, r1, r2, r3⟩ := run_append_apart (P := P) w base t o.type e i z size bytes h1 h2 h3 h4 h5 h6 h7 v k xs hown ad m c news hn hc h1c b1 b2 b3
  unfold Oper.wpIn
  refine ⟨?_, ?_⟩
  · simp [Oper.about, hop, resolve, Target.leads, Sem.run_pure]
  · rw [Oper.semAt_plain F _ _ (by rw [hop]; intro c hc'; cases hc')]
    simp [execOp, hop, resolve, invoke, builtin, hs, hx, hrun, Result.andThen]
    exact hK' _ _ (hK v' w' r1 r2 r3)
theorem infoSl : (Try.prog.info? 23).map (fun i => (i.zero, i.size, i.bytes)) = some (some (.slice none 0 0), 1, 24) := by kernel_rfl
/-- the iterator of all rows of an order, as a value -/
def seqV (L R T : Nat) : Value := .func (.func 49) #[] #[.pointer (some ⟨L, 0, none⟩), .pointer (some ⟨R, 0, none⟩), .pointer (some ⟨T, 0, none⟩)]
theorem rows_any (a : Option Addr) (c : Nat) (A : List Nat) (hn : A.length ≤ 6) (w : World) :
    Calls Try.prog 31 #[.slice a A.length c] w fun e w' => e = .returned (seqV (w.heap.size + 2) (w.heap.size + 1) w.heap.size) ∧
      w' = ((w.alloc (.cells #[.slice a A.length c] 22)).alloc (.cells #[.slice none 0 0] 23)).alloc (.cells #[.int .u32 ((2 ^ A.length - 1 : Nat) : Int)] 39) := by
  have hp := placesOf_any a A.length c (by omega) w
  have hr := rowsFrom_any a none A.length c 0 0 ((2 ^ A.length - 1 : Nat) : Int) w
  unfold seqV
  generalize 2 ^ A.length - 1 = z at *
  go_enter Try.func31, Try.ntmps31
  go_wp2_with fail
  refine hp.mono ?_
  rintro e w1 ⟨rfl, hw1⟩
  obtain rfl : w = w1 := hw1.symm
  go_wp2_with fail
  refine hr.mono ?_
  rintro e w1 ⟨rfl, rfl⟩
  go_wp2
  go_ret
  exact ⟨rfl, rfl⟩
theorem rdx_low {X : Nat → Prop} {w : World} {v : Value} {xs : List Value} (hv : Rd w v xs) (hX : ∀ k, k < w.heap.size → ¬ X k) : RdX X w v xs := by
  rcases hv with h0 | ⟨h0, b, o, c', he, hc⟩
  · exact .inl h0
  · exact .inr ⟨h0, b, o, c', he, hX b (World.block_lt_of_cell? (a := ⟨b, o + 0, none⟩) w (hc 0 _ (List.getElem?_eq_getElem h0))), hc⟩
/-- what the caller of the rows holds -/
theorem rows_cap {a : Option Addr} {c : Nat} {A : List Nat} {w w' : World}
    (hw : w' = ((w.alloc (.cells #[.slice a A.length c] 22)).alloc (.cells #[.slice none 0 0] 23)).alloc (.cells #[.int .u32 ((2 ^ A.length - 1 : Nat) : Int)] 39)) :
    Below w.heap.size w w' ∧ w'.heap.size = w.heap.size + 3 ∧ ∀ X, RdX X w (.slice a A.length c) (u32s A) → (∀ k, w.heap.size ≤ k → k < w.heap.size + 3 → ¬ X k) → Cap A [] (w.heap.size + 2) (w.heap.size + 1) w.heap.size X w' := by
  subst hw
  have hB : Below w.heap.size w (((w.alloc (.cells #[.slice a A.length c] 22)).alloc (.cells #[.slice none 0 0] 23)).alloc (.cells #[.int .u32 ((2 ^ A.length - 1 : Nat) : Int)] 39)) :=
    (((Below.refl _ w).alloc (Nat.le_refl _) _).alloc (by simp) _).alloc (by simp; omega) _
  refine ⟨hB, by simp, fun X hv hX => ?_⟩
  have hL := At.new ((w.alloc (.cells #[.slice a A.length c] 22)).alloc (.cells #[.slice none 0 0] 23)) #[.int .u32 ((2 ^ A.length - 1 : Nat) : Int)] 39
  rw [World.size_alloc, World.size_alloc] at hL
  have hR := (At.new (w.alloc (.cells #[.slice a A.length c] 22)) #[.slice none 0 0] 23).alloc (.cells #[.int .u32 ((2 ^ A.length - 1 : Nat) : Int)] 39)
  rw [World.size_alloc] at hR
  exact ⟨hL, ⟨_, hR, .inl ⟨rfl, _, _, rfl⟩, .inl rfl⟩, ⟨_, ((At.new w _ _).alloc _).alloc _, hv.below hB⟩, hX _ (by omega) (by omega), hX _ (by omega) (by omega), hX _ (by omega) (by omega)⟩
/-- a slice reads as rows of places -/
def Rowl (X : Nat → Prop) (w : World) (vs : List Value) (rows : List (List Nat)) : Prop := vs.length = rows.length ∧ ∀ i (hi : i < rows.length) (h : i < vs.length), RdX X w vs[i] (nats rows[i])
theorem Rowl.snoc {X : Nat → Prop} {w : World} {vs : List Value} {rows : List (List Nat)} {v : Value} {r : List Nat} (h : Rowl X w vs rows) (hv : RdX X w v (nats r)) : Rowl X w (vs ++ [v]) (rows ++ [r]) := by
  obtain ⟨h1, h2⟩ := h
  refine ⟨by simp [h1], fun i hi hi' => ?_⟩
  by_cases hlt : i < rows.length
  · rw [List.getElem_append_left hlt, List.getElem_append_left (by omega)]
    exact h2 i hlt (by omega)
  · obtain rfl : i = rows.length := by simp at hi; omega
    rw [List.getElem_append_right (by omega), List.getElem_append_right (by omega)]
    simp [h1]
    exact hv
theorem Rowl.kept {X X' : Nat → Prop} {w w' : World} {vs : List Value} {rows : List (List Nat)} (h : Rowl X w vs rows) (hk : Kept X X' w w') : Rowl X' w' vs rows := ⟨h.1, fun i hi hi' => hk.rd (h.2 i hi hi')⟩
theorem Rowl.own {X : Nat → Prop} {w w' : World} {r : Option Nat} {vs : List Value} {rows : List (List Nat)} (h : Rowl X w vs rows) (hg : w.grownBy w' r) (hr : ∀ k, r = some k → ∃ o : Obj, w.heap[k]? = some o ∧ o.isCells = false) : Rowl X w' vs rows :=
  ⟨h.1, fun i hi hi' => rd_own (h.2 i hi hi') hg hr⟩
/-- what the loop that collects holds -/
def CollR (w0 : World) (B : Nat) (pre : List (List Nat)) (X : Nat → Prop) (W : World) : Prop :=
  ∃ v vs, At W B #[v] 52 ∧ W.ownsRow (B + 1) 23 1 v pre.length vs ∧ Rowl X W vs pre ∧ (∀ k, X k ↔ k = B ∨ v.ownBlock = some k) ∧ Below B w0 W
theorem ext_len (n : Nat) (p : List Nat → Nat → Bool) : ∀ (s : Nat) (row : List Nat), (extP n p s row).length ≤ n ^ s := by
  intro s
  induction s with
  | zero => intro row; exact Nat.le_refl _
  | succ s ih =>
    intro row
    rw [extP]
    have h : ∀ l : List Nat, (l.flatMap fun k => if p row k = true then extP n p s (row ++ [k]) else []).length ≤ l.length * n ^ s := by
      intro l
      induction l with
      | nil => simp
      | cons k t iht =>
        rw [List.flatMap_cons, List.length_append, List.length_cons, Nat.add_mul]
        have h1 : (if p row k = true then extP n p s (row ++ [k]) else []).length ≤ n ^ s := by
          split
          · exact ih _
          · exact Nat.zero_le _
        omega
    have h2 := h (List.range n)
    rw [List.length_range, Nat.mul_comm, ← Nat.pow_succ] at h2
    exact h2
theorem rowsS_len {A : List Nat} (hn : A.length ≤ 6) : (rowsS A).length ≤ 46656 := by
  have h1 := ext_len A.length (nxR A) A.length []
  have h2 : A.length ^ A.length ≤ 6 ^ A.length := Nat.pow_le_pow_left hn _
  have h3 : 6 ^ A.length ≤ 6 ^ 6 := Nat.pow_le_pow_right (by decide) hn
  unfold rowsS
  omega
theorem CollR.own {w0 : World} {B C : Nat} (hC : B ≤ C) : OwnX C (CollR w0 B) := by
  rintro pre X W W' r ⟨v, vs, h1, h2, h3, h4, h5⟩ hg hr
  have hnc : ∀ k, r = some k → ∃ o : Obj, W.heap[k]? = some o ∧ o.isCells = false := fun k e => (hr k e).2
  refine ⟨v, vs, at_own h1 hg hnc, h2.kept hg ?_, h3.own hg hnc, h4, h5.grown hg (by have := h1.lt; omega) (fun k e => Nat.le_trans hC (hr k e).1)⟩
  rcases h2.2 with ⟨rfl, _⟩ | ⟨g, cap, cur, rfl, _, hgb, _⟩
  · exact .inl rfl
  · refine .inr fun e' => ?_
    obtain ⟨o, ho, hc⟩ := hnc g (by rw [← e']; rfl)
    rw [hgb] at ho
    cases ho
    cases hc
end Go.Proofs.Ytclhbnfnmpabbaa
