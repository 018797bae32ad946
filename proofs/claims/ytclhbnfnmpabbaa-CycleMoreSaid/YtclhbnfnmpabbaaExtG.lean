/- slices.Concat at two rows of ints, the second of one place; append of a row of ints that may be nil. -/
import Derived.Test.YtclhbnfnmpabbaaExtF
import Derived.Test.YtclhbnfnmpabbaaShelf
import Derived.Laws.AppendOwnNone
namespace Go.Proofs.Ytclhbnfnmpabbaa.RPlain
end Go.Proofs.Ytclhbnfnmpabbaa.RPlain
namespace Go.Proofs.Ytclhbnfnmpabbaa
open Go.RowKit RPlain

theorem infoN11 : (Try.prog.info? 3).map (fun i => (i.zero, i.size, i.bytes)) = some (some (.int .i64 0), 1, 8) := by kernel_rfl
/-- nil, or a slice with an address -/
def SrcN (v : Value) : Prop := v = .slice none 0 0 ∨ ∃ a n c, v = .slice (some a) n c
theorem SrcN.of_row {w : World} {B : Nat} {e : TypeId} {s : Nat} {v : Value} {n : Nat} {xs : List Value} (h : w.ownsRow B e s v n xs) : SrcN v := by
  rcases h.2 with ⟨rfl, _⟩ | ⟨g, cap, cur, rfl, _⟩
  · exact .inl rfl
  · exact .inr ⟨_, _, _, rfl⟩
theorem nats_one (L : List Nat) : ∀ u ∈ nats L, u.oneCell' = true := by
  intro u hu
  obtain ⟨x, _, rfl⟩ := List.mem_map.1 hu
  rfl
theorem nats_get {L : List Nat} {k : Nat} (h : k < L.length) : (nats L)[k]? = some (.int .i64 (L[k] : Int)) := by
  unfold nats
  rw [List.getElem?_map, List.getElem?_eq_getElem h]; rfl
theorem nats_app (L M : List Nat) : nats L ++ nats M = nats (L ++ M) := by simp [nats]
theorem rdCells11 {w : World} {ad : Addr} {m c : Nat} {xs : List Value} (h : Rd w (.slice (some ad) m c) xs) : xs.length = m ∧ ∀ j u, xs[j]? = some u → w.cell? (ad.add j) = some u := by
  rcases h with ⟨rfl, a', c', he⟩ | ⟨h0, b, o, c', he, hc⟩
  · simp only [Value.slice.injEq] at he
    exact ⟨he.2.1.symm, fun j u hu => by simp at hu⟩
  · simp only [Value.slice.injEq, Option.some.injEq] at he
    obtain ⟨rfl, rfl, rfl⟩ := he
    refine ⟨rfl, fun j u hu => ?_⟩
    rw [show (⟨b, o, none⟩ : Addr).add j = ⟨b, o + j, none⟩ from by unfold Addr.add; split <;> simp_all]
    exact hc j u hu
theorem wpList_append_srcI {ops : Array Oper} {rest : List Oper} {o : Oper} {a : Act} {w : World} {Q : Exit → Act → World → Prop} (hgd : o.guard = none) (s x : Operand)
    (ho : o.op = .call { callee := .builtin .append, args := #[s, x], argTypes := #[23, 23] }) (base : Nat)
    (v : Value) (n : Nat) (xs : List Value) (hs : a.eval s = v) (hown : w.ownsRow base 3 1 v n xs)
    (v2 : Value) (L : List Nat) (hx : a.eval x = v2) (hv : Rd w v2 (nats L)) (hsrc : SrcN v2) (h63 : n + L.length ≤ 65536) (hbase : base ≤ w.heap.size)
    (hK : ∀ v' w', w'.ownsRow base 3 1 v' (n + L.length) (xs ++ nats L) → w.grownBy w' v.ownBlock → wpList Try.prog ops Q rest (a.put o.dst v') w') : wpList Try.prog ops Q (o :: rest) a w := by
  obtain ⟨j0, hj0, hy0, hy1', hy2'⟩ := info_parts infoN11
  rcases hsrc with rfl | ⟨ad, m, c, rfl⟩
  · have h0 : L = [] := by
      obtain ⟨_, _, he⟩ := hv.len
      simp only [Value.slice.injEq, nats_len] at he
      exact List.length_eq_zero_iff.1 he.2.1.symm
    subst h0
    have hrest := hK v w (by simpa [nats] using hown) ⟨rfl, rfl, rfl, Nat.le_refl _, fun _ _ _ => rfl⟩
    exact wpList_append_own_none hgd s x 23 ho base 3 j0 1 Try.underlying23 hj0 v n xs hs hown hx hrest
  · obtain ⟨hl, hc⟩ := rdCells11 hv
    rw [nats_len] at hl
    subst hl
    refine wpList_append_own w hgd s x 23 ho base 3 j0 _ 1 8 Try.underlying23 hj0 hy0 hy1' hy2' rfl (by decide) v n xs hs hown ad L.length c (nats L) hx (by rw [nats_len]; omega) hc (nats_one L) (by unfold maxLen; omega) (by omega) hbase ?_
    intro v' w' h2 h3 _
    exact hK v' w' h2 h3
/-- slices.Grow(nil, n) -/
theorem grow_nilI (n : Nat) (h0 : 0 < n) (hn : n ≤ 65000) (w : World) :
    Calls Try.prog 32 #[.slice none 0 0, .int .i64 n] w fun e w' => ∃ v, e = .returned v ∧ w'.ownsRow w.heap.size 3 1 v 0 [] ∧ Below w.heap.size w w' := by
  obtain ⟨j0, hj0, hy0, hy1', hy2'⟩ := info_parts infoN11
  have hG : n ≤ maxLen := by unfold maxLen; omega
  have h := Any8.slices_Grow_grow Try.growI j0 (.int .i64 0) hj0 hy0 (by omega) none 0 0 n [] w (Nat.le_refl _) (by omega) (by rw [hy2']; omega) (by omega) (by simp) (fun _ => rfl) (fun a ha => by cases ha)
  refine h.mono fun e w' ⟨he, hw⟩ => ?_
  have hle := grownCap_le_maxLen w (0 + n) 0 3 (by unfold maxLen; omega)
  have hge := grownCap_ge w (0 + n) 0 3
  obtain ⟨G, hG⟩ : ∃ G, G = grownCap w (0 + n) 0 3 := ⟨_, rfl⟩
  have he' : e = .returned (.slice (some ⟨w.heap.size, 0, none⟩) 0 G) := by rw [hG]; exact he
  have hw' : w' = w.drew.alloc (.cells (([] : List Value).toArray ++ Builtin.zeroCells (Value.int .i64 0).cells (0 + n - 0) ++ Builtin.zeroCells (Value.int .i64 0).cells (G - (0 + n))) 3) := by rw [hG]; exact hw
  rw [← hG] at hle hge
  clear he hw hG
  refine ⟨_, he', ?_, ?_⟩
  · rw [hw']
    refine World.ownsRow_made (size := 1) (e := 3) (base := w.heap.size) w.drew _ _ (Nat.le_refl _) hle ?_
    have hcs : (Value.int .i64 0).cells.size = 1 := rfl
    simp [Builtin.zeroCells, hcs]
    omega
  · rw [hw']
    exact ((Below.refl w.heap.size w).drew).alloc (Nat.le_refl _) _
set_option maxRecDepth 100000 in
set_option maxHeartbeats 2000000 in
theorem concatJ_any (B : Nat) (v0 v1 : Value) (l0 l1 : List Nat) (w : World) (c0 : w.cell? ⟨B, 0, none⟩ = some v0) (c1 : w.cell? ⟨B, 1, none⟩ = some v1)
    (r0 : Rd w v0 (nats l0)) (r1 : Rd w v1 (nats l1)) (s0 : SrcN v0) (s1 : SrcN v1) (h0 : l0.length ≤ 20000) (h1 : l1.length ≤ 20000) (hp : 0 < l0.length + l1.length) :
    Calls Try.prog 15 #[.slice (some ⟨B, 0, none⟩) 2 2] w fun e w' => ∃ v, e = .returned v ∧ w'.ownsRow w.heap.size 3 1 v (l0 ++ l1).length (nats (l0 ++ l1)) ∧ Below w.heap.size w w' := by
  obtain ⟨a0, d0, rfl⟩ := r0.len
  obtain ⟨a1, d1, rfl⟩ := r1.len
  have R0 := Lib.hid r0
  have R1 := Lib.hid r1
  have S0 := Lib.hid s0
  have S1 := Lib.hid s1
  rw [nats_len] at R0 R1 S0 S1 c0 c1
  have C0 := Lib.hid c0
  have C1 := Lib.hid c1
  have hB : B < w.heap.size := World.block_lt_of_cell? w _ c0
  clear r0 r1 s0 s1
  have HA := Lib.hid (nats_app l0 l1)
  have hll : (l0 ++ l1).length = l0.length + l1.length := List.length_append
  rw [hll]
  clear hll
  generalize hn0 : l0.length = n0 at *
  generalize hn1 : l1.length = n1 at *
  have HN0 := Lib.hid hn0
  have HN1 := Lib.hid hn1
  clear hn0 hn1
  go_enter Try.func15, Try.ntmps15
  go_wp2_with fail
  go_loop [3, 11] (fun s i => (i = .int .i64 0 ∧ s = .int .i64 0) ∨ (i = .int .i64 1 ∧ s = .int .i64 (n0 : Int)) ∨ (i = .int .i64 2 ∧ s = .int .i64 ((n0 + n1 : Nat) : Int))) (fun _ i => 2 - (intOf i).toNat)
  case atStart => exact .inl ⟨rfl, rfl⟩
  case round =>
    rcases hrel with ⟨rfl, rfl⟩ | ⟨rfl, rfl⟩ | ⟨rfl, rfl⟩
    · go_wp2
      go_round
      case rel => exact .inr (.inl ⟨by go_num, by go_num⟩)
      case measure => simp [intOf]
    · go_wp2
      go_round
      case rel => exact .inr (.inr ⟨by go_num, by go_num⟩)
      case measure => simp [intOf]
    · go_wp2_with fail
      refine (grow_nilI (n0 + n1) (by omega) (by omega) _).mono ?_
      rintro e w1 ⟨v, rfl, ho, hb⟩
      obtain ⟨ga, gc, rfl⟩ := row_slice ho
      clear c0 c1
      go_wp2_with fail
      go_loopw [6, 27] (fun y i wr => ((i = .int .i64 0 ∧ wr.ownsRow w.heap.size 3 1 y 0 []) ∨ (i = .int .i64 1 ∧ wr.ownsRow w.heap.size 3 1 y n0 (nats l0)) ∨ (i = .int .i64 2 ∧ wr.ownsRow w.heap.size 3 1 y (n0 + n1) (nats l0 ++ nats l1))) ∧ Below w.heap.size w wr) (fun _ i _ => 2 - (intOf i).toNat)
      case atStart => exact ⟨.inl ⟨rfl, ho⟩, hb⟩
      case round =>
        clear ho hb
        obtain ⟨hrel, hb⟩ := hrel
        have c0 := (hb.cell (p := ⟨B, 0, none⟩) hB).trans C0.out
        have c1 := (hb.cell (p := ⟨B, 1, none⟩) hB).trans C1.out
        have hbs := hb.size
        rcases hrel with ⟨rfl, ho⟩ | ⟨rfl, ho⟩ | ⟨rfl, ho⟩
        · go_wp2_with (at_builtin; refine wpList_append_srcI rfl _ _ rfl w.heap.size _ 0 [] rfl ho _ l0 rfl (R0.out.below hb (Nat.le_refl _)) S0.out (by rw [HN0.out]; omega) hbs ?_)
          intro v2 w2 ho2 hg2
          rw [HN0.out] at ho2
          have hb2 := hb.grown hg2 hbs (fun k hk => (ho.lt k hk).1)
          clear ho hb c0 c1 hbs hg2
          go_wp2
          go_roundw
          case rel => exact ⟨.inr (.inl ⟨by go_num, by simpa using ho2⟩), hb2⟩
          case measure => simp [intOf]
        · go_wp2_with (at_builtin; refine wpList_append_srcI rfl _ _ rfl w.heap.size _ n0 (nats l0) rfl ho _ l1 rfl (R1.out.below hb (Nat.le_refl _)) S1.out (by rw [HN1.out]; omega) hbs ?_)
          intro v2 w2 ho2 hg2
          rw [HN1.out] at ho2
          have hb2 := hb.grown hg2 hbs (fun k hk => (ho.lt k hk).1)
          clear ho hb c0 c1 hbs hg2
          go_wp2
          go_roundw
          case rel => exact ⟨.inr (.inr ⟨by go_num, ho2⟩), hb2⟩
          case measure => simp [intOf]
        · obtain ⟨ya, yc, rfl⟩ := row_slice ho
          rw [HA.out] at ho
          have HO := Lib.hid ho
          clear ho
          go_wp2
          go_ret
          exact ⟨_, rfl, HO.out, hb⟩
theorem concatI_any (B : Nat) (v0 v1 : Value) (l0 l1 : List Nat) (w : World) (c0 : w.cell? ⟨B, 0, none⟩ = some v0) (c1 : w.cell? ⟨B, 1, none⟩ = some v1)
    (r0 : Rd w v0 (nats l0)) (r1 : Rd w v1 (nats l1)) (s0 : SrcN v0) (s1 : SrcN v1) (h0 : l0.length ≤ 20000) (h1 : l1.length ≤ 20000) (hp : 0 < l1.length) :
    Calls Try.prog 15 #[.slice (some ⟨B, 0, none⟩) 2 2] w fun e w' => ∃ v, e = .returned v ∧ w'.ownsRow w.heap.size 3 1 v (l0 ++ l1).length (nats (l0 ++ l1)) ∧ Below w.heap.size w w' :=
  concatJ_any B v0 v1 l0 l1 w c0 c1 r0 r1 s0 s1 h0 h1 (by omega)
end Go.Proofs.Ytclhbnfnmpabbaa
