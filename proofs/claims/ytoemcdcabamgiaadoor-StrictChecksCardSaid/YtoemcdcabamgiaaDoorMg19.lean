/- Merged: ExtE, ExtG, OrdH, SerA. -/
import Derived.Test.YtoemcdcabamgiaaDoorExtC
import Derived.Test.YtoemcdcabamgiaaDoorMg18
import Derived.Test.YtoemcdcabamgiaaDoorMg10
import Derived.Test.YtoemcdcabamgiaaDoorOrdE
import Derived.Test.YtoemcdcabamgiaaDoorMg1
import Derived.Test.YtoemcdcabamgiaaDoorMg2
import Derived.Test.YtoemcdcabamgiaaDoorShelf
import Derived.Test.YtoemcdcabamgiaaDoorMg11
import Derived.Test.YtoemcdcabamgiaaDoorMg14
import Derived.Test.YtoemcdcabamgiaaDoorMg17
import Derived.Test.YtoemcdcabamgiaaDoorMg12
import Derived.Laws.BitsAllLaws
import Derived.Laws.AppendOwnNone
import Derived.BigQuiet
/- The walks of package extend's bit, placesOf, nextOf, goesBack, check. -/
namespace Go.Proofs.YtoemcdcabamgiaaDoor.RPlain
end Go.Proofs.YtoemcdcabamgiaaDoor.RPlain
namespace Go.Proofs.YtoemcdcabamgiaaDoor
open Go.RowKit RPlain

theorem u32s_len (L : List Nat) : (u32s L).length = L.length := by simp [u32s]
theorem u32s_get {L : List Nat} {k : Nat} (h : k < L.length) : (u32s L)[k]? = some (.int .u32 (L[k] : Int)) := by
  unfold u32s
  rw [List.getElem?_map, List.getElem?_eq_getElem h]; rfl
theorem and_pow2 (n k : Nat) : n &&& 2 ^ k = if n.testBit k = true then 2 ^ k else 0 := by
  refine Nat.eq_of_testBit_eq fun i => ?_
  rw [Nat.testBit_and, Nat.testBit_two_pow]
  split
  · rename_i h
    rw [Nat.testBit_two_pow]
    by_cases hi : k = i
    · subst hi; simp [h]
    · simp [hi]
  · rename_i h
    rw [Nat.zero_testBit]
    by_cases hi : k = i
    · subst hi; simpa using h
    · simp [hi]
end Go.Proofs.YtoemcdcabamgiaaDoor
/- slices.Concat at two rows of ints, the second of one place; append of a row of ints that may be nil. -/
namespace Go.Proofs.YtoemcdcabamgiaaDoor.RPlain
end Go.Proofs.YtoemcdcabamgiaaDoor.RPlain
namespace Go.Proofs.YtoemcdcabamgiaaDoor
open Go.RowKit RPlain

theorem infoN11 : (Tryd.prog.info? 3).map (fun i => (i.zero, i.size, i.bytes)) = some (some (.int .i64 0), 1, 8) := by kernel_rfl
/-- nil, or a slice with an address -/
def SrcN (v : Value) : Prop := v = .slice none 0 0 ∨ ∃ a n c, v = .slice (some a) n c
theorem SrcN.of_row {w : World} {B : Nat} {e : TypeId} {s : Nat} {v : Value} {n : Nat} {xs : List Value} (h : w.ownsRow B e s v n xs) : SrcN v := by
  rcases h.2 with ⟨rfl, _⟩ | ⟨g, cap, cur, rfl, _⟩
  · exact .inl rfl
  · exact .inr ⟨_, _, _, rfl⟩
theorem nats_one (L : List Nat) : ∀ u ∈ nats L, u.oneCell' = true := by
  intro u hu
  obtain ⟨x, _, rfl⟩ := List.mem_map.1 hu
  rfl
theorem nats_get {L : List Nat} {k : Nat} (h : k < L.length) : (nats L)[k]? = some (.int .i64 (L[k] : Int)) := by
  unfold nats
  rw [List.getElem?_map, List.getElem?_eq_getElem h]; rfl
theorem nats_app (L M : List Nat) : nats L ++ nats M = nats (L ++ M) := by simp [nats]
theorem rdCells11 {w : World} {ad : Addr} {m c : Nat} {xs : List Value} (h : Rd w (.slice (some ad) m c) xs) : xs.length = m ∧ ∀ j u, xs[j]? = some u → w.cell? (ad.add j) = some u := by
  rcases h with ⟨rfl, a', c', he⟩ | ⟨h0, b, o, c', he, hc⟩
  · simp only [Value.slice.injEq] at he
    exact ⟨he.2.1.symm, fun j u hu => by simp at hu⟩
  · simp only [Value.slice.injEq, Option.some.injEq] at he
    obtain ⟨rfl, rfl, rfl⟩ := he
    refine ⟨rfl, fun j u hu => ?_⟩
    rw [show (⟨b, o, none⟩ : Addr).add j = ⟨b, o + j, none⟩ from by unfold Addr.add; split <;> simp_all]
    exact hc j u hu
theorem wpList_append_srcI {ops : Array Oper} {rest : List Oper} {o : Oper} {a : Act} {w : World} {Q : Exit → Act → World → Prop} (hgd : o.guard = none) (s x : Operand)
    (ho : o.op = .call { callee := .builtin .append, args := #[s, x], argTypes := #[24, 24] }) (base : Nat)
    (v : Value) (n : Nat) (xs : List Value) (hs : a.eval s = v) (hown : w.ownsRow base 3 1 v n xs)
    (v2 : Value) (L : List Nat) (hx : a.eval x = v2) (hv : Rd w v2 (nats L)) (hsrc : SrcN v2) (h63 : n + L.length ≤ 65536) (hbase : base ≤ w.heap.size)
    (hK : ∀ v' w', w'.ownsRow base 3 1 v' (n + L.length) (xs ++ nats L) → w.grownBy w' v.ownBlock → wpList Tryd.prog ops Q rest (a.put o.dst v') w') : wpList Tryd.prog ops Q (o :: rest) a w := by
  obtain ⟨j0, hj0, hy0, hy1', hy2'⟩ := info_parts infoN11
  rcases hsrc with rfl | ⟨ad, m, c, rfl⟩
  · have h0 : L = [] := by
      obtain ⟨_, _, he⟩ := hv.len
      simp only [Value.slice.injEq, nats_len] at he
      exact List.length_eq_zero_iff.1 he.2.1.symm
    subst h0
    have hrest := hK v w (by simpa [nats] using hown) ⟨rfl, rfl, rfl, Nat.le_refl _, fun _ _ _ => rfl⟩
    exact wpList_append_own_none hgd s x 24 ho base 3 j0 1 Tryd.underlying24 hj0 v n xs hs hown hx hrest
  · obtain ⟨hl, hc⟩ := rdCells11 hv
    rw [nats_len] at hl
    subst hl
    refine wpList_append_own w hgd s x 24 ho base 3 j0 _ 1 8 Tryd.underlying24 hj0 hy0 hy1' hy2' rfl (by decide) v n xs hs hown ad L.length c (nats L) hx (by rw [nats_len]; omega) hc (nats_one L) (by unfold maxLen; omega) (by omega) hbase ?_
    intro v' w' h2 h3 _
    exact hK v' w' h2 h3
/-- slices.Grow(nil, n) -/
theorem grow_nilI (n : Nat) (h0 : 0 < n) (hn : n ≤ 65000) (w : World) :
    Calls Tryd.prog 91 #[.slice none 0 0, .int .i64 n] w fun e w' => ∃ v, e = .returned v ∧ w'.ownsRow w.heap.size 3 1 v 0 [] ∧ Below w.heap.size w w' := by
  obtain ⟨j0, hj0, hy0, hy1', hy2'⟩ := info_parts infoN11
  have hG : n ≤ maxLen := by unfold maxLen; omega
  have h := Any8.slices_Grow_grow Tryd.growI j0 (.int .i64 0) hj0 hy0 (by omega) none 0 0 n [] w (Nat.le_refl _) (by omega) (by rw [hy2']; omega) (by omega) (by simp) (fun _ => rfl) (fun a ha => by cases ha)
  refine h.mono fun e w' ⟨he, hw⟩ => ?_
  have hle := grownCap_le_maxLen w (0 + n) 0 3 (by unfold maxLen; omega)
  have hge := grownCap_ge w (0 + n) 0 3
  obtain ⟨G, hG⟩ : ∃ G, G = grownCap w (0 + n) 0 3 := ⟨_, rfl⟩
  have he' : e = .returned (.slice (some ⟨w.heap.size, 0, none⟩) 0 G) := by rw [hG]; exact he
  have hw' : w' = w.drew.alloc (.cells (([] : List Value).toArray ++ Builtin.zeroCells (Value.int .i64 0).cells (0 + n - 0) ++ Builtin.zeroCells (Value.int .i64 0).cells (G - (0 + n))) 3) := by rw [hG]; exact hw
  rw [← hG] at hle hge
  clear he hw hG
  refine ⟨_, he', ?_, ?_⟩
  · rw [hw']
    refine World.ownsRow_made (size := 1) (e := 3) (base := w.heap.size) w.drew _ _ (Nat.le_refl _) hle ?_
    have hcs : (Value.int .i64 0).cells.size = 1 := rfl
    simp [Builtin.zeroCells, hcs]
    omega
  · rw [hw']
    exact ((Below.refl w.heap.size w).drew).alloc (Nat.le_refl _) _
set_option maxRecDepth 100000 in
set_option maxHeartbeats 2000000 in
theorem concatI_any (B : Nat) (v0 v1 : Value) (l0 l1 : List Nat) (w : World) (c0 : w.cell? ⟨B, 0, none⟩ = some v0) (c1 : w.cell? ⟨B, 1, none⟩ = some v1)
    (r0 : Rd w v0 (nats l0)) (r1 : Rd w v1 (nats l1)) (s0 : SrcN v0) (s1 : SrcN v1) (h0 : l0.length ≤ 20000) (h1 : l1.length ≤ 20000) (hp : 0 < l1.length) :
    Calls Tryd.prog 80 #[.slice (some ⟨B, 0, none⟩) 2 2] w fun e w' => ∃ v, e = .returned v ∧ w'.ownsRow w.heap.size 3 1 v (l0 ++ l1).length (nats (l0 ++ l1)) ∧ Below w.heap.size w w' := by
  obtain ⟨a0, d0, rfl⟩ := r0.len
  obtain ⟨a1, d1, rfl⟩ := r1.len
  have R0 := Lib.hid r0
  have R1 := Lib.hid r1
  have S0 := Lib.hid s0
  have S1 := Lib.hid s1
  rw [nats_len] at R0 R1 S0 S1 c0 c1
  have C0 := Lib.hid c0
  have C1 := Lib.hid c1
  have hB : B < w.heap.size := World.block_lt_of_cell? w _ c0
  clear r0 r1 s0 s1
  have HA := Lib.hid (nats_app l0 l1)
  have hll : (l0 ++ l1).length = l0.length + l1.length := List.length_append
  rw [hll]
  clear hll
  generalize hn0 : l0.length = n0 at *
  generalize hn1 : l1.length = n1 at *
  have HN0 := Lib.hid hn0
  have HN1 := Lib.hid hn1
  clear hn0 hn1
  go_enter Tryd.func80, Tryd.ntmps80
  go_wp2_with fail
  go_loop [3, 11] (fun s i => (i = .int .i64 0 ∧ s = .int .i64 0) ∨ (i = .int .i64 1 ∧ s = .int .i64 (n0 : Int)) ∨ (i = .int .i64 2 ∧ s = .int .i64 ((n0 + n1 : Nat) : Int))) (fun _ i => 2 - (intOf i).toNat)
  case atStart => exact .inl ⟨rfl, rfl⟩
  case round =>
    rcases hrel with ⟨rfl, rfl⟩ | ⟨rfl, rfl⟩ | ⟨rfl, rfl⟩
    · go_wp2
      go_round
      case rel => exact .inr (.inl ⟨by go_num, by go_num⟩)
      case measure => simp [intOf]
    · go_wp2
      go_round
      case rel => exact .inr (.inr ⟨by go_num, by go_num⟩)
      case measure => simp [intOf]
    · go_wp2_with fail
      refine (grow_nilI (n0 + n1) (by omega) (by omega) _).mono ?_
      rintro e w1 ⟨v, rfl, ho, hb⟩
      obtain ⟨ga, gc, rfl⟩ := row_slice ho
      clear c0 c1
      go_wp2_with fail
      go_loopw [6, 27] (fun y i wr => ((i = .int .i64 0 ∧ wr.ownsRow w.heap.size 3 1 y 0 []) ∨ (i = .int .i64 1 ∧ wr.ownsRow w.heap.size 3 1 y n0 (nats l0)) ∨ (i = .int .i64 2 ∧ wr.ownsRow w.heap.size 3 1 y (n0 + n1) (nats l0 ++ nats l1))) ∧ Below w.heap.size w wr) (fun _ i _ => 2 - (intOf i).toNat)
      case atStart => exact ⟨.inl ⟨rfl, ho⟩, hb⟩
      case round =>
        clear ho hb
        obtain ⟨hrel, hb⟩ := hrel
        have c0 := (hb.cell (p := ⟨B, 0, none⟩) hB).trans C0.out
        have c1 := (hb.cell (p := ⟨B, 1, none⟩) hB).trans C1.out
        have hbs := hb.size
        rcases hrel with ⟨rfl, ho⟩ | ⟨rfl, ho⟩ | ⟨rfl, ho⟩
        · go_wp2_with (at_builtin; refine wpList_append_srcI rfl _ _ rfl w.heap.size _ 0 [] rfl ho _ l0 rfl (R0.out.below hb (Nat.le_refl _)) S0.out (by rw [HN0.out]; omega) hbs ?_)
          intro v2 w2 ho2 hg2
          rw [HN0.out] at ho2
          have hb2 := hb.grown hg2 hbs (fun k hk => (ho.lt k hk).1)
          clear ho hb c0 c1 hbs hg2
          go_wp2
          go_roundw
          case rel => exact ⟨.inr (.inl ⟨by go_num, by simpa using ho2⟩), hb2⟩
          case measure => simp [intOf]
        · go_wp2_with (at_builtin; refine wpList_append_srcI rfl _ _ rfl w.heap.size _ n0 (nats l0) rfl ho _ l1 rfl (R1.out.below hb (Nat.le_refl _)) S1.out (by rw [HN1.out]; omega) hbs ?_)
          intro v2 w2 ho2 hg2
          rw [HN1.out] at ho2
          have hb2 := hb.grown hg2 hbs (fun k hk => (ho.lt k hk).1)
          clear ho hb c0 c1 hbs hg2
          go_wp2
          go_roundw
          case rel => exact ⟨.inr (.inr ⟨by go_num, ho2⟩), hb2⟩
          case measure => simp [intOf]
        · obtain ⟨ya, yc, rfl⟩ := row_slice ho
          rw [HA.out] at ho
          have HO := Lib.hid ho
          clear ho
          go_wp2
          go_ret
          exact ⟨_, rfl, HO.out, hb⟩
end Go.Proofs.YtoemcdcabamgiaaDoor
/- The walks of the reference's Before, Bit and After. -/
namespace Go.Proofs.YtoemcdcabamgiaaDoor.WPlain
end Go.Proofs.YtoemcdcabamgiaaDoor.WPlain
namespace Go.Proofs.YtoemcdcabamgiaaDoor.QPlain
end Go.Proofs.YtoemcdcabamgiaaDoor.QPlain
namespace Go.Proofs.YtoemcdcabamgiaaDoor.RPlain
end Go.Proofs.YtoemcdcabamgiaaDoor.RPlain
namespace Go.Proofs.YtoemcdcabamgiaaDoor
open Go.RowKit WPlain QPlain RPlain

set_option maxRecDepth 100000 in
set_option maxHeartbeats 1000000 in
theorem refBefore_any (v : Value) (l : List Tx) (i k : Nat) (w : World) (hv : Txs w v l) (hi : i < l.length) (hk : k < l.length) (hl : l.length ≤ 65536) :
    Calls Tryd.prog 71 #[v, .int .i64 (i : Int), .int .i64 (k : Int)] w fun e w' => e = .returned (.bool (bfr l[i] l[k])) ∧ ∃ z, w' = w.drewN z := by
  obtain ⟨b, o, c, rfl⟩ := hv.opened (by omega)
  obtain ⟨u, x0, x1, x2, x3, x4, q⟩ := hv.get i hi
  obtain ⟨u', y0, y1, y2, y3, y4, q'⟩ := hv.get k hk
  clear q q' x0 x4 y0 y2 y3 y4 hv
  generalize l[i] = X at *
  generalize l[k] = Y at *
  by_cases h2 : X.s = 2
  · have HF : Hid (bfr X Y = decide (X.l < Y.f)) := by unfold Hid bfr; simp [h2]
    rw [h2] at x3
    clear h2
    go_enter Tryd.func71, Tryd.ntmps71
    go_wp2_with fail
    go_quiet (fail)
    go_wp2
    go_ret
    exact ⟨by rw [HF.out]; rfl, _, rfl⟩
  · by_cases h3 : X.s = 3
    · have HF : Hid (bfr X Y = decide (X.l < Y.f)) := by unfold Hid bfr; simp [h3]
      rw [h3] at x3
      clear h2 h3
      go_enter Tryd.func71, Tryd.ntmps71
      go_wp2_with fail
      go_quiet (fail)
      go_wp2
      go_ret
      exact ⟨by rw [HF.out]; rfl, _, rfl⟩
    · have HF : Hid (bfr X Y = false) := by unfold Hid bfr; simp [h2, h3]
      have t2 : (X.s == 2) = false := by simp [h2]
      have t3 : (X.s == 3) = false := by simp [h3]
      clear h2 h3
      go_enter Tryd.func71, Tryd.ntmps71
      go_wp2_with fail
      go_quiet (fail)
      go_wp2
      go_ret
      exact ⟨by rw [HF.out]; rfl, _, rfl⟩
end Go.Proofs.YtoemcdcabamgiaaDoor
/- Plain words: the search for a row that explains. -/
namespace Go.Proofs.YtoemcdcabamgiaaDoor.WPlain
end Go.Proofs.YtoemcdcabamgiaaDoor.WPlain
namespace Go.Proofs.YtoemcdcabamgiaaDoor.QPlain
end Go.Proofs.YtoemcdcabamgiaaDoor.QPlain
namespace Go.Proofs.YtoemcdcabamgiaaDoor.RPlain
open WPlain QPlain

def leftS (l : List Tx) (who : Nat) (row : List Nat) : List Nat := (List.range l.length).filter fun k => who.testBit k && !row.contains k
def freeS (l : List Tx) (lft : List Nat) (k : Nat) : Bool := lft.all fun i => !bfrAt l i k
def okL (l : List Tx) (c : Nat) (row : List Nat) : Bool := decide (legalS l c row = row.length)
def loopS (B : Nat) (rec : List Nat → Nat → Nat × List Nat × Nat) (l : List Tx) (c : Nat) (lft row : List Nat) : List Nat → Nat → Nat × List Nat × Nat
  | [], s => (1, [], s)
  | k :: r, s => if freeS l lft k = false then loopS B rec l c lft row r s else if s = B then (2, [], s)
    else if okL l c (row ++ [k]) = true then (if (rec (row ++ [k]) (s + 1)).1 = 1 then loopS B rec l c lft row r (rec (row ++ [k]) (s + 1)).2.2 else rec (row ++ [k]) (s + 1)) else loopS B rec l c lft row r (s + 1)
def fromS (B : Nat) (l : List Tx) (who c : Nat) : Nat → List Nat → Nat → Nat × List Nat × Nat
  | 0, row, s => (0, row, s)
  | f + 1, row, s => if leftS l who row = [] then (0, row, s) else loopS B (fromS B l who c f) l c (leftS l who row) row (leftS l who row) s
def rowS (B : Nat) (l : List Tx) (who c : Nat) : Nat × List Nat × Nat := fromS B l who c (l.length + 1) [] 0
/-- choice by choice, each with those that it has to do with -/
def searchG (B : Nat) (l : List Tx) (W : Nat → Nat) : List Nat → Nat → Nat × Nat × List Nat × Nat
  | [], s => (1, 0, [], s)
  | c :: r, s => if (fromS B l (W c) c (l.length + 1) [] s).1 = 1 then searchG B l W r (fromS B l (W c) c (l.length + 1) [] s).2.2
    else ((fromS B l (W c) c (l.length + 1) [] s).1, (if (fromS B l (W c) c (l.length + 1) [] s).1 = 0 then c else 0), (fromS B l (W c) c (l.length + 1) [] s).2)
/-- the search for all; for those that commit alone -/
def searchS (B : Nat) (l : List Tx) : Nat × Nat × List Nat × Nat := searchG B l (fun _ => 2 ^ l.length - 1) (choicesS l) 0
def strictS (B : Nat) (l : List Tx) : Nat × Nat × List Nat × Nat := searchG B l (fun c => c) (choicesS l) 0

theorem left_mem {l : List Tx} {who : Nat} {row : List Nat} {k : Nat} : k ∈ leftS l who row ↔ k < l.length ∧ who.testBit k = true ∧ k ∉ row := by
  unfold leftS
  rw [List.mem_filter, List.mem_range]
  simp
theorem left_nodup (l : List Tx) (who : Nat) (row : List Nat) : (leftS l who row).Nodup := List.nodup_range.filter _
theorem left_next (l : List Tx) (who : Nat) (row : List Nat) (k : Nat) : leftS l who (row ++ [k]) = (leftS l who row).filter fun x => !decide (x = k) := by
  unfold leftS
  rw [List.filter_filter]
  refine List.filter_congr fun x _ => ?_
  by_cases hx : x = k
  · subst hx; simp
  · simp [hx]
theorem left_len {l : List Tx} {who : Nat} {row : List Nat} {k : Nat} (hk : k ∈ leftS l who row) : (leftS l who (row ++ [k])).length + 1 = (leftS l who row).length := by
  rw [left_next]
  have hn := left_nodup l who row
  generalize leftS l who row = L at *
  obtain ⟨a, b, rfl⟩ := List.append_of_mem hk
  rw [List.nodup_append] at hn
  obtain ⟨_, hb, hab⟩ := hn
  obtain ⟨hkb, _⟩ := List.nodup_cons.1 hb
  have h1 : a.filter (fun x => !decide (x = k)) = a := List.filter_eq_self.2 fun x hx => by
    have := hab x hx k (List.mem_cons_self ..)
    simpa using this
  have h2 : b.filter (fun x => !decide (x = k)) = b := List.filter_eq_self.2 fun x hx => by
    have : x ≠ k := fun hc => hkb (hc ▸ hx)
    simpa using this
  rw [List.filter_append, List.filter_cons, h1, h2]
  simp
  omega
/-- how many steps there may be -/
def mostW : Nat → Nat
  | 0 => 0
  | m + 1 => (m + 1) * (1 + mostW m)
theorem mostW_six : mostW 6 = 1956 := rfl
theorem mostW_mono : ∀ {a b : Nat}, a ≤ b → mostW a ≤ mostW b := by
  have h1 : ∀ m, mostW m ≤ mostW (m + 1) := fun m => by
    rw [mostW, Nat.succ_mul]
    omega
  intro a b h
  induction b with
  | zero => rw [Nat.le_zero.1 h]; exact Nat.le_refl _
  | succ b ih =>
    rcases Nat.lt_or_ge a (b + 1) with h2 | h2
    · exact Nat.le_trans (ih (by omega)) (h1 b)
    · rw [show a = b + 1 from by omega]; exact Nat.le_refl _
/-- what is always so of an answer: steps, and the verdict -/
structure Ans (B s w : Nat) (x : Nat × List Nat × Nat) : Prop where
  v : x.1 = 0 ∨ x.1 = 1 ∨ x.1 = 2
  ge : s ≤ x.2.2
  le : x.2.2 ≤ B
  most : x.2.2 ≤ s + w
  full : x.1 = 2 → x.2.2 = B ∧ B < s + w
  none : x.1 ≠ 0 → x.2.1 = []
theorem loop_ans {B : Nat} {rec : List Nat → Nat → Nat × List Nat × Nat} {l : List Tx} {c : Nat} {lft row : List Nat} {W : Nat} :
    ∀ (r : List Nat) (s : Nat), s ≤ B → (∀ k ∈ r, ∀ s, s ≤ B → Ans B s W (rec (row ++ [k]) s)) → Ans B s (r.length * (1 + W)) (loopS B rec l c lft row r s) := by
  intro r
  induction r with
  | nil => intro s hs _; exact ⟨.inr (.inl rfl), Nat.le_refl _, hs, by simp [loopS], fun h => (by cases h), fun _ => rfl⟩
  | cons k r ih =>
    intro s hs hrec
    have hlen : (k :: r).length * (1 + W) = r.length * (1 + W) + (1 + W) := by rw [List.length_cons, Nat.succ_mul]
    have hnext : ∀ s', s ≤ s' → s' ≤ s + 1 + W → s' ≤ B → Ans B s ((k :: r).length * (1 + W)) (loopS B rec l c lft row r s') := fun s' h1 h2 h3 => by
      have h := ih s' h3 (fun x hx => hrec x (List.mem_cons_of_mem _ hx))
      exact ⟨h.v, Nat.le_trans h1 h.ge, h.le, by have := h.most; omega, fun he => by have := h.full he; exact ⟨this.1, by omega⟩, h.none⟩
    rw [loopS]
    by_cases hf : freeS l lft k = false
    · rw [if_pos hf]; exact hnext s (Nat.le_refl _) (by omega) hs
    · rw [if_neg hf]
      by_cases hB : s = B
      · rw [if_pos hB]
        exact ⟨.inr (.inr rfl), Nat.le_refl _, hs, by dsimp only; omega, fun _ => ⟨hB, by omega⟩, fun _ => rfl⟩
      · rw [if_neg hB]
        by_cases ho : okL l c (row ++ [k]) = true
        · rw [if_pos ho]
          have h := hrec k (List.mem_cons_self ..) (s + 1) (by omega)
          by_cases hv : (rec (row ++ [k]) (s + 1)).1 = 1
          · rw [if_pos hv]
            exact hnext _ (by have := h.ge; omega) (by have := h.most; omega) h.le
          · rw [if_neg hv]
            exact ⟨h.v, by have := h.ge; omega, h.le, by have := h.most; omega, fun he => by have := h.full he; exact ⟨this.1, by omega⟩, h.none⟩
        · rw [if_neg ho]
          exact hnext _ (by omega) (by omega) (by omega)
theorem from_ans {B : Nat} {l : List Tx} {who c : Nat} : ∀ (f : Nat) (row : List Nat) (s : Nat), s ≤ B → (leftS l who row).length < f → Ans B s (mostW (leftS l who row).length) (fromS B l who c f row s) := by
  intro f
  induction f with
  | zero => intro row s _ h; omega
  | succ f ih =>
    intro row s hs hf
    rw [fromS]
    by_cases hl : leftS l who row = []
    · rw [if_pos hl]
      exact ⟨.inl rfl, Nat.le_refl _, hs, Nat.le_add_right _ _, fun h => (by cases h), fun h => absurd rfl h⟩
    · rw [if_neg hl]
      have hpos : 0 < (leftS l who row).length := List.length_pos_iff.2 hl
      obtain ⟨m, hm⟩ : ∃ m, (leftS l who row).length = m + 1 := ⟨(leftS l who row).length - 1, by omega⟩
      rw [hm, mostW, ← hm]
      refine loop_ans _ s hs fun k hk s' hs' => ?_
      have h1 := left_len hk
      have h2 := ih (row ++ [k]) s' hs' (by omega)
      rw [show (leftS l who (row ++ [k])).length = m from by omega] at h2
      exact h2
/-- a greater budget changes nothing of what is known -/
theorem loop_more {B B' : Nat} (hB : B ≤ B') {rec rec' : List Nat → Nat → Nat × List Nat × Nat} {l : List Tx} {c : Nat} {lft row : List Nat} :
    ∀ (r : List Nat) (s : Nat), s ≤ B → (∀ k ∈ r, ∀ s, s ≤ B → (rec (row ++ [k]) s).2.2 ≤ B ∧ ((rec (row ++ [k]) s).1 ≠ 2 → rec' (row ++ [k]) s = rec (row ++ [k]) s)) →
      (loopS B rec l c lft row r s).1 ≠ 2 → loopS B' rec' l c lft row r s = loopS B rec l c lft row r s := by
  intro r
  induction r with
  | nil => intro s _ _ _; rfl
  | cons k r ih =>
    intro s hs hrec hne
    have hr : ∀ x ∈ r, ∀ s, s ≤ B → (rec (row ++ [x]) s).2.2 ≤ B ∧ ((rec (row ++ [x]) s).1 ≠ 2 → rec' (row ++ [x]) s = rec (row ++ [x]) s) := fun x hx => hrec x (List.mem_cons_of_mem _ hx)
    rw [loopS] at hne ⊢
    rw [loopS]
    by_cases hf : freeS l lft k = false
    · rw [if_pos hf] at hne ⊢
      rw [if_pos hf]
      exact ih s hs hr hne
    · rw [if_neg hf] at hne ⊢
      rw [if_neg hf]
      by_cases hsB : s = B
      · rw [if_pos hsB] at hne; exact absurd rfl hne
      · rw [if_neg hsB] at hne ⊢
        rw [if_neg (show ¬ s = B' by omega)]
        by_cases ho : okL l c (row ++ [k]) = true
        · rw [if_pos ho] at hne ⊢
          rw [if_pos ho]
          obtain ⟨h1, h2⟩ := hrec k (List.mem_cons_self ..) (s + 1) (by omega)
          by_cases hv : (rec (row ++ [k]) (s + 1)).1 = 1
          · rw [if_pos hv] at hne ⊢
            have h3 := h2 (by omega)
            rw [h3, if_pos hv]
            exact ih _ h1 hr hne
          · rw [if_neg hv] at hne ⊢
            have h3 := h2 hne
            rw [h3, if_neg hv]
        · rw [if_neg ho] at hne ⊢
          rw [if_neg ho]
          exact ih _ (by omega) hr hne
theorem from_more {B B' : Nat} (hB : B ≤ B') {l : List Tx} {who c : Nat} : ∀ (f : Nat) (row : List Nat) (s : Nat), s ≤ B → (leftS l who row).length < f →
    (fromS B l who c f row s).1 ≠ 2 → fromS B' l who c f row s = fromS B l who c f row s := by
  intro f
  induction f with
  | zero => intro row s _ _ _; rfl
  | succ f ih =>
    intro row s hs hf hne
    rw [fromS] at hne ⊢
    rw [fromS]
    by_cases hl : leftS l who row = []
    · rw [if_pos hl, if_pos hl]
    · rw [if_neg hl] at hne ⊢
      rw [if_neg hl]
      refine loop_more hB _ s hs (fun k hk s' hs' => ?_) hne
      have h1 := left_len hk
      exact ⟨(from_ans f (row ++ [k]) s' hs' (by omega)).le, ih (row ++ [k]) s' hs' (by omega)⟩
end Go.Proofs.YtoemcdcabamgiaaDoor.RPlain
