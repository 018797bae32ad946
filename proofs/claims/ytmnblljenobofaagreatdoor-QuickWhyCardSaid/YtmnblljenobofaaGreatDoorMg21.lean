/- Merged: ExtG, ExtK. -/
import Derived.Test.YtmnblljenobofaaGreatDoorMg20
import Derived.Test.YtmnblljenobofaaGreatDoorShelf
import Derived.Test.YtmnblljenobofaaGreatDoorMg13
import Derived.Test.YtmnblljenobofaaGreatDoorMg9
import Derived.Laws.AppendOwnNone
/- slices.Concat at two rows of ints, the second of one place; append of a row of ints that may be nil. -/
namespace Go.Proofs.YtmnblljenobofaaGreatDoor.RPlain
end Go.Proofs.YtmnblljenobofaaGreatDoor.RPlain
namespace Go.Proofs.YtmnblljenobofaaGreatDoor
open Go.RowKit RPlain

theorem infoN11 : (Tryz.prog.info? 3).map (fun i => (i.zero, i.size, i.bytes)) = some (some (.int .i64 0), 1, 8) := by kernel_rfl
/-- nil, or a slice with an address -/
def SrcN (v : Value) : Prop := v = .slice none 0 0 ∨ ∃ a n c, v = .slice (some a) n c
theorem SrcN.of_row {w : World} {B : Nat} {e : TypeId} {s : Nat} {v : Value} {n : Nat} {xs : List Value} (h : w.ownsRow B e s v n xs) : SrcN v := by
  rcases h.2 with ⟨rfl, _⟩ | ⟨g, cap, cur, rfl, _⟩
  · exact .inl rfl
  · exact .inr ⟨_, _, _, rfl⟩
theorem nats_one (L : List Nat) : ∀ u ∈ nats L, u.oneCell' = true := by
  intro u hu
  obtain ⟨x, _, rfl⟩ := List.mem_map.1 hu
  rfl
theorem nats_get {L : List Nat} {k : Nat} (h : k < L.length) : (nats L)[k]? = some (.int .i64 (L[k] : Int)) := by
  unfold nats
  rw [List.getElem?_map, List.getElem?_eq_getElem h]; rfl
theorem nats_app (L M : List Nat) : nats L ++ nats M = nats (L ++ M) := by simp [nats]
theorem rdCells11 {w : World} {ad : Addr} {m c : Nat} {xs : List Value} (h : Rd w (.slice (some ad) m c) xs) : xs.length = m ∧ ∀ j u, xs[j]? = some u → w.cell? (ad.add j) = some u := by
  rcases h with ⟨rfl, a', c', he⟩ | ⟨h0, b, o, c', he, hc⟩
  · simp only [Value.slice.injEq] at he
    exact ⟨he.2.1.symm, fun j u hu => by simp at hu⟩
  · simp only [Value.slice.injEq, Option.some.injEq] at he
    obtain ⟨rfl, rfl, rfl⟩ := he
    refine ⟨rfl, fun j u hu => ?_⟩
    rw [show (⟨b, o, none⟩ : Addr).add j = ⟨b, o + j, none⟩ from by unfold Addr.add; split <;> simp_all]
    exact hc j u hu
theorem wpList_append_srcI {ops : Array Oper} {rest : List Oper} {o : Oper} {a : Act} {w : World} {Q : Exit → Act → World → Prop} (hgd : o.guard = none) (s x : Operand)
    (ho : o.op = .call { callee := .builtin .append, args := #[s, x], argTypes := #[24, 24] }) (base : Nat)
    (v : Value) (n : Nat) (xs : List Value) (hs : a.eval s = v) (hown : w.ownsRow base 3 1 v n xs)
    (v2 : Value) (L : List Nat) (hx : a.eval x = v2) (hv : Rd w v2 (nats L)) (hsrc : SrcN v2) (h63 : n + L.length ≤ 65536) (hbase : base ≤ w.heap.size)
    (hK : ∀ v' w', w'.ownsRow base 3 1 v' (n + L.length) (xs ++ nats L) → w.grownBy w' v.ownBlock → wpList Tryz.prog ops Q rest (a.put o.dst v') w') : wpList Tryz.prog ops Q (o :: rest) a w := by
  obtain ⟨j0, hj0, hy0, hy1', hy2'⟩ := info_parts infoN11
  rcases hsrc with rfl | ⟨ad, m, c, rfl⟩
  · have h0 : L = [] := by
      obtain ⟨_, _, he⟩ := hv.len
      simp only [Value.slice.injEq, nats_len] at he
      exact List.length_eq_zero_iff.1 he.2.1.symm
    subst h0
    have hrest := hK v w (by simpa [nats] using hown) ⟨rfl, rfl, rfl, Nat.le_refl _, fun _ _ _ => rfl⟩
    exact wpList_append_own_none hgd s x 24 ho base 3 j0 1 Tryz.underlying24 hj0 v n xs hs hown hx hrest
  · obtain ⟨hl, hc⟩ := rdCells11 hv
    rw [nats_len] at hl
    subst hl
    refine wpList_append_own w hgd s x 24 ho base 3 j0 _ 1 8 Tryz.underlying24 hj0 hy0 hy1' hy2' rfl (by decide) v n xs hs hown ad L.length c (nats L) hx (by rw [nats_len]; omega) hc (nats_one L) (by unfold maxLen; omega) (by omega) hbase ?_
    intro v' w' h2 h3 _
    exact hK v' w' h2 h3
/-- slices.Grow(nil, n) -/
theorem grow_nilI (n : Nat) (h0 : 0 < n) (hn : n ≤ 65000) (w : World) :
    Calls Tryz.prog 135 #[.slice none 0 0, .int .i64 n] w fun e w' => ∃ v, e = .returned v ∧ w'.ownsRow w.heap.size 3 1 v 0 [] ∧ Below w.heap.size w w' := by
  obtain ⟨j0, hj0, hy0, hy1', hy2'⟩ := info_parts infoN11
  have hG : n ≤ maxLen := by unfold maxLen; omega
  have h := Any8.slices_Grow_grow Tryz.growI j0 (.int .i64 0) hj0 hy0 (by omega) none 0 0 n [] w (Nat.le_refl _) (by omega) (by rw [hy2']; omega) (by omega) (by simp) (fun _ => rfl) (fun a ha => by cases ha)
  refine h.mono fun e w' ⟨he, hw⟩ => ?_
  have hle := grownCap_le_maxLen w (0 + n) 0 3 (by unfold maxLen; omega)
  have hge := grownCap_ge w (0 + n) 0 3
  obtain ⟨G, hG⟩ : ∃ G, G = grownCap w (0 + n) 0 3 := ⟨_, rfl⟩
  have he' : e = .returned (.slice (some ⟨w.heap.size, 0, none⟩) 0 G) := by rw [hG]; exact he
  have hw' : w' = w.drew.alloc (.cells (([] : List Value).toArray ++ Builtin.zeroCells (Value.int .i64 0).cells (0 + n - 0) ++ Builtin.zeroCells (Value.int .i64 0).cells (G - (0 + n))) 3) := by rw [hG]; exact hw
  rw [← hG] at hle hge
  clear he hw hG
  refine ⟨_, he', ?_, ?_⟩
  · rw [hw']
    refine World.ownsRow_made (size := 1) (e := 3) (base := w.heap.size) w.drew _ _ (Nat.le_refl _) hle ?_
    have hcs : (Value.int .i64 0).cells.size = 1 := rfl
    simp [Builtin.zeroCells, hcs]
    omega
  · rw [hw']
    exact ((Below.refl w.heap.size w).drew).alloc (Nat.le_refl _) _
set_option maxRecDepth 100000 in
set_option maxHeartbeats 2000000 in
theorem concatJ_any (B : Nat) (v0 v1 : Value) (l0 l1 : List Nat) (w : World) (c0 : w.cell? ⟨B, 0, none⟩ = some v0) (c1 : w.cell? ⟨B, 1, none⟩ = some v1)
    (r0 : Rd w v0 (nats l0)) (r1 : Rd w v1 (nats l1)) (s0 : SrcN v0) (s1 : SrcN v1) (h0 : l0.length ≤ 20000) (h1 : l1.length ≤ 20000) (hp : 0 < l0.length + l1.length) :
    Calls Tryz.prog 130 #[.slice (some ⟨B, 0, none⟩) 2 2] w fun e w' => ∃ v, e = .returned v ∧ w'.ownsRow w.heap.size 3 1 v (l0 ++ l1).length (nats (l0 ++ l1)) ∧ Below w.heap.size w w' := by
  obtain ⟨a0, d0, rfl⟩ := r0.len
  obtain ⟨a1, d1, rfl⟩ := r1.len
  have R0 := Lib.hid r0
  have R1 := Lib.hid r1
  have S0 := Lib.hid s0
  have S1 := Lib.hid s1
  rw [nats_len] at R0 R1 S0 S1 c0 c1
  have C0 := Lib.hid c0
  have C1 := Lib.hid c1
  have hB : B < w.heap.size := World.block_lt_of_cell? w _ c0
  clear r0 r1 s0 s1
  have HA := Lib.hid (nats_app l0 l1)
  have hll : (l0 ++ l1).length = l0.length + l1.length := List.length_append
  rw [hll]
  clear hll
  generalize hn0 : l0.length = n0 at *
  generalize hn1 : l1.length = n1 at *
  have HN0 := Lib.hid hn0
  have HN1 := Lib.hid hn1
  clear hn0 hn1
  go_enter Tryz.func130, Tryz.ntmps130
  go_wp2_with fail
  go_loop [3, 11] (fun s i => (i = .int .i64 0 ∧ s = .int .i64 0) ∨ (i = .int .i64 1 ∧ s = .int .i64 (n0 : Int)) ∨ (i = .int .i64 2 ∧ s = .int .i64 ((n0 + n1 : Nat) : Int))) (fun _ i => 2 - (intOf i).toNat)
  case atStart => exact .inl ⟨rfl, rfl⟩
  case round =>
    rcases hrel with ⟨rfl, rfl⟩ | ⟨rfl, rfl⟩ | ⟨rfl, rfl⟩
    · go_wp2
      go_round
      case rel => exact .inr (.inl ⟨by go_num, by go_num⟩)
      case measure => simp [intOf]
    · go_wp2
      go_round
      case rel => exact .inr (.inr ⟨by go_num, by go_num⟩)
      case measure => simp [intOf]
    · go_wp2_with fail
      refine (grow_nilI (n0 + n1) (by omega) (by omega) _).mono ?_
      rintro e w1 ⟨v, rfl, ho, hb⟩
      obtain ⟨ga, gc, rfl⟩ := row_slice ho
      clear c0 c1
      go_wp2_with fail
      go_loopw [6, 27] (fun y i wr => ((i = .int .i64 0 ∧ wr.ownsRow w.heap.size 3 1 y 0 []) ∨ (i = .int .i64 1 ∧ wr.ownsRow w.heap.size 3 1 y n0 (nats l0)) ∨ (i = .int .i64 2 ∧ wr.ownsRow w.heap.size 3 1 y (n0 + n1) (nats l0 ++ nats l1))) ∧ Below w.heap.size w wr) (fun _ i _ => 2 - (intOf i).toNat)
      case atStart => exact ⟨.inl ⟨rfl, ho⟩, hb⟩
      case round =>
        clear ho hb
        obtain ⟨hrel, hb⟩ := hrel
        have c0 := (hb.cell (p := ⟨B, 0, none⟩) hB).trans C0.out
        have c1 := (hb.cell (p := ⟨B, 1, none⟩) hB).trans C1.out
        have hbs := hb.size
        rcases hrel with ⟨rfl, ho⟩ | ⟨rfl, ho⟩ | ⟨rfl, ho⟩
        · go_wp2_with (at_builtin; refine wpList_append_srcI rfl _ _ rfl w.heap.size _ 0 [] rfl ho _ l0 rfl (R0.out.below hb (Nat.le_refl _)) S0.out (by rw [HN0.out]; omega) hbs ?_)
          intro v2 w2 ho2 hg2
          rw [HN0.out] at ho2
          have hb2 := hb.grown hg2 hbs (fun k hk => (ho.lt k hk).1)
          clear ho hb c0 c1 hbs hg2
          go_wp2
          go_roundw
          case rel => exact ⟨.inr (.inl ⟨by go_num, by simpa using ho2⟩), hb2⟩
          case measure => simp [intOf]
        · go_wp2_with (at_builtin; refine wpList_append_srcI rfl _ _ rfl w.heap.size _ n0 (nats l0) rfl ho _ l1 rfl (R1.out.below hb (Nat.le_refl _)) S1.out (by rw [HN1.out]; omega) hbs ?_)
          intro v2 w2 ho2 hg2
          rw [HN1.out] at ho2
          have hb2 := hb.grown hg2 hbs (fun k hk => (ho.lt k hk).1)
          clear ho hb c0 c1 hbs hg2
          go_wp2
          go_roundw
          case rel => exact ⟨.inr (.inr ⟨by go_num, ho2⟩), hb2⟩
          case measure => simp [intOf]
        · obtain ⟨ya, yc, rfl⟩ := row_slice ho
          rw [HA.out] at ho
          have HO := Lib.hid ho
          clear ho
          go_wp2
          go_ret
          exact ⟨_, rfl, HO.out, hb⟩
theorem concatI_any (B : Nat) (v0 v1 : Value) (l0 l1 : List Nat) (w : World) (c0 : w.cell? ⟨B, 0, none⟩ = some v0) (c1 : w.cell? ⟨B, 1, none⟩ = some v1)
    (r0 : Rd w v0 (nats l0)) (r1 : Rd w v1 (nats l1)) (s0 : SrcN v0) (s1 : SrcN v1) (h0 : l0.length ≤ 20000) (h1 : l1.length ≤ 20000) (hp : 0 < l1.length) :
    Calls Tryz.prog 130 #[.slice (some ⟨B, 0, none⟩) 2 2] w fun e w' => ∃ v, e = .returned v ∧ w'.ownsRow w.heap.size 3 1 v (l0 ++ l1).length (nats (l0 ++ l1)) ∧ Below w.heap.size w w' :=
  concatJ_any B v0 v1 l0 l1 w c0 c1 r0 r1 s0 s1 h0 h1 (by omega)
end Go.Proofs.YtmnblljenobofaaGreatDoor
/- The walks of the reference's with, Keeps. -/
namespace Go.Proofs.YtmnblljenobofaaGreatDoor.RPlain
end Go.Proofs.YtmnblljenobofaaGreatDoor.RPlain
namespace Go.Proofs.YtmnblljenobofaaGreatDoor
open Go.RowKit RPlain

theorem nats_ints (L : List Nat) : nats L = ints (L.map fun (x : Nat) => (x : Int)) := by simp [nats, ints, Function.comp_def]
theorem hasN_any (v : Value) (L : List Nat) (x : Nat) (w : World) (h : Rd w v (nats L)) (hl : L.length ≤ 65536) :
    Calls Tryz.prog 35 #[v, .int .i64 (x : Int)] w fun e w' => e = .returned (.bool (L.contains x)) ∧ w = w' := by
  rw [nats_ints] at h
  have he : (L.map fun (y : Nat) => (y : Int)).contains (x : Int) = L.contains x := by
    rw [Bool.eq_iff_iff]
    simp only [List.contains_eq_mem, List.mem_map, decide_eq_true_eq]
    exact ⟨fun ⟨y, hy, e⟩ => by rw [← Int.ofNat_inj.1 e]; exact hy, fun h => ⟨x, h, rfl⟩⟩
  rw [← he]
  exact has_any v _ _ w h (by simp; omega)
set_option maxRecDepth 100000 in
set_option maxHeartbeats 1000000 in
theorem refWithN_any (v : Value) (row : List Nat) (k : Nat) (w : World) (hv : Rd w v (nats row)) (hs : SrcN v) (hl : row.length ≤ 1000) :
    Calls Tryz.prog 50 #[v, .int .i64 (k : Int)] w fun e w' => ∃ v', e = .returned v' ∧ w'.ownsRow w.heap.size 3 1 v' (row.length + 1) (nats (row ++ [k])) ∧ SrcN v' ∧ Below w.heap.size w w' := by
  obtain ⟨j0, hj0, hy0, hy1', hy2'⟩ := info_parts infoN11
  have HV := Lib.hid hv
  have HS := Lib.hid hs
  obtain ⟨a, c, rfl⟩ := hv.len
  rw [nats_len] at HV HS ⊢
  have hba : Below w.heap.size w (w.alloc (.cells #[] 3)) := (Below.refl _ w).alloc (Nat.le_refl _) _
  have HBA := Lib.hid hba
  have HOA := Lib.hid (World.ownsRow_made (e := 3) (base := w.heap.size) (size := 1) w #[] 0 (Nat.le_refl _) (by unfold maxLen; omega) (by simp))
  have HNA : Hid (nats row ++ [.int .i64 (k : Int)] = nats (row ++ [k])) := by unfold Hid; simp [nats]
  clear hv hs hba
  go_enter Tryz.func50, Tryz.ntmps50
  go_wp2_with (at_builtin; refine wpList_append_srcI rfl _ _ rfl w.heap.size _ 0 [] rfl HOA.out _ row rfl (HV.out.below HBA.out (Nat.le_refl _)) HS.out (by omega) HBA.out.size ?_)
  intro v1 w1 ho1 hg1
  have hb1 := HBA.out.grown hg1 HBA.out.size (fun x hx => (HOA.out.lt x hx).1)
  have HO1 := Lib.hid ho1
  have HB1 := Lib.hid hb1
  obtain ⟨a1, c1, rfl⟩ := row_slice ho1
  clear ho1 hg1 hb1
  go_wp2_with (at_builtin; refine wpList_append_own _ rfl _ _ 24 rfl w.heap.size 3 j0 (.int .i64 0) 1 8 Tryz.underlying24 hj0 hy0 hy1' hy2' rfl (by decide) (.slice a1 row.length c1) row.length (nats row) rfl (HO1.out.alloc _) ⟨w1.heap.size, 0, none⟩ 1 1 [.int .i64 (k : Int)] rfl rfl (cell_one_at w1 _ _) (one_int _ _) (by unfold maxLen; omega) (by omega) (by have := HB1.out.size; simp; omega) ?_)
  intro v2 w2 ho2 hg2 _
  rw [HNA.out] at ho2
  have HO2 := Lib.hid ho2
  have HB2 := Lib.hid ((HB1.out.alloc HB1.out.size _).grown hg2 (by have := HB1.out.size; simp; omega) (fun x hx => (HO1.out.lt x hx).1))
  obtain ⟨a2, c2, rfl⟩ := row_slice ho2
  clear ho2 hg2
  go_wp2
  go_ret
  exact ⟨_, rfl, HO2.out, SrcN.of_row HO2.out, HB2.out⟩
/-- does a row keep an order? -/
def keepsR (A row : List Nat) : Bool := stepsP (nxt A) [] row
theorem stepsP_app (p : List Nat → Nat → Bool) : ∀ (t u r : List Nat), stepsP p r (t ++ u) = (stepsP p r t && stepsP p (r ++ t) u) := by
  intro t
  induction t with
  | nil => intro u r; simp [stepsP]
  | cons k t ih =>
    intro u r
    rw [List.cons_append, stepsP, stepsP, ih, Bool.and_assoc, List.append_assoc]
    rfl
theorem stepsP_snoc (p : List Nat → Nat → Bool) (t : List Nat) (k : Nat) : stepsP p [] (t ++ [k]) = (stepsP p [] t && p t k) := by
  rw [stepsP_app]
  simp [stepsP]
theorem keepsR_bad {A row : List Nat} {i : Nat} (hi : i < row.length) (h : nxt A (row.take i) row[i] = false) : keepsR A row = false := by
  unfold keepsR
  have h1 : row = row.take (i + 1) ++ row.drop (i + 1) := (List.take_append_drop _ _).symm
  rw [h1, stepsP_app, List.take_succ_eq_append_getElem hi, stepsP_snoc, h]
  simp
theorem nxt_bad {A pre : List Nat} {k j : Nat} (hj : j < pre.length) (h : k = pre[j] ∨ aft A k pre[j] = true) : nxt A pre k = false := by
  unfold nxt
  rw [List.all_eq_false]
  refine ⟨pre[j], List.getElem_mem hj, ?_⟩
  rcases h with h | h
  · simp [h]
  · simp [h]
theorem nxt_snoc (A pre : List Nat) (k b : Nat) : nxt A (pre ++ [b]) k = (nxt A pre k && (!decide (k = b) && !aft A k b)) := by
  unfold nxt
  rw [List.all_append]
  simp
set_option maxRecDepth 100000 in
set_option maxHeartbeats 2000000 in
theorem refKeepsX_any (av v : Value) (A row : List Nat) (w : World) (hav : Rd w av (u32s A)) (hv : Rd w v (nats row)) (hA : ∀ x ∈ A, x < 4294967296) (hr : ∀ k ∈ row, k < A.length) (hal : A.length ≤ 6) (hl : row.length ≤ 1000) (hcap : ∀ a n c, v = .slice a n c → n ≤ c) :
    Calls Tryz.prog 49 #[av, v] w fun e w' => e = .returned (.bool (keepsR A row)) ∧ w' = w := by
  have HAV := Lib.hid hav
  have HV := Lib.hid hv
  have HA := Lib.hid hA
  have HR := Lib.hid hr
  obtain ⟨aa, ac, rfl⟩ := hav.len
  obtain ⟨ra, rc, rfl⟩ := hv.len
  have hrc : row.length ≤ rc := by have := hcap _ _ _ rfl; rwa [nats_len] at this
  rw [nats_len] at HV ⊢
  rw [u32s_len] at HAV ⊢
  clear hav hv hA hr hcap
  go_enter Tryz.func49, Tryz.ntmps49
  go_wp2_with fail
  go_loopw [11] (fun x wr => ∃ i : Nat, i ≤ row.length ∧ x = .int .i64 i ∧ Hid (keepsR A (row.take i) = true) ∧ wr = w) (fun x _ => row.length - (intOf x).toNat)
  case atStart => exact ⟨0, by omega, rfl, rfl, rfl⟩
  case round =>
    obtain ⟨i, hi, rfl, HK, rfl⟩ := hrel
    by_cases hlt : i < row.length
    · obtain ⟨b, o, c', he, hb, hc⟩ := HV.out.opened (by rw [nats_len]; omega)
      have hci := hc i _ (nats_get hlt)
      simp only [Value.slice.injEq] at he
      obtain ⟨rfl, -, rfl⟩ := he
      have HCJ : Hid (∀ j (hj : j < row.length), wr.cell? ⟨b, o + j, none⟩ = some (.int .i64 (row[j] : Int))) := fun j hj => hc j _ (nats_get hj)
      clear hc
      have hxA : row[i] < A.length := HR.out _ (List.getElem_mem hlt)
      obtain ⟨ab, ao, ac', hae, hab, hacs⟩ := HAV.out.opened (by rw [u32s_len]; omega)
      have hca := hacs row[i] _ (u32s_get hxA)
      have hax := HA.out _ (List.getElem_mem hxA)
      simp only [Value.slice.injEq] at hae
      obtain ⟨rfl, -, rfl⟩ := hae
      clear hacs
      have HBT : Hid (∀ b, A[row[i]].testBit b = aft A row[i] b) := fun b => by unfold aft; rw [List.getD_eq_getElem?_getD, List.getElem?_eq_getElem hxA]; rfl
      have HBAD : Hid (nxt A (row.take i) row[i] = false → keepsR A row = false) := keepsR_bad hlt
      have HGOOD : Hid (nxt A (row.take i) row[i] = true → keepsR A (row.take (i + 1)) = true) := fun h => by
        unfold keepsR
        rw [List.take_succ_eq_append_getElem hlt, stepsP_snoc, h]
        have := HK.out
        unfold keepsR at this
        rw [this]; rfl
      have HNB : Hid (∀ j (hjr : j < row.length), j < i → (row[i] = row[j]'hjr ∨ aft A row[i] (row[j]'hjr) = true) → nxt A (row.take i) row[i] = false) := fun j hjr hj h => by
        refine nxt_bad (j := j) (by rw [List.length_take]; omega) ?_
        rw [List.getElem_take]
        exact h
      have HNS : Hid (∀ j (hjr : j < row.length), j < i → nxt A (row.take (j + 1)) row[i] = (nxt A (row.take j) row[i] && (!decide (row[i] = row[j]'hjr) && !aft A row[i] (row[j]'hjr)))) := fun j hjr hj => by
        rw [List.take_succ_eq_append_getElem (by omega), nxt_snoc]
      generalize A[row[i]] = ax at *
      generalize row[i] = x at *
      clear hb hab
      go_wp2_with fail
      go_loopw [20] (fun y wr' => ∃ j : Nat, j ≤ i ∧ y = .int .i64 j ∧ Hid (nxt A (row.take j) x = true) ∧ wr' = wr) (fun y _ => i - (intOf y).toNat)
      case atStart => exact ⟨0, by omega, rfl, rfl, rfl⟩
      case round =>
        obtain ⟨j, hj, rfl, HN, rfl⟩ := hrel
        by_cases hlt2 : j < i
        · have hjr : j < row.length := by omega
          have hcj := HCJ.out j hjr
          have hnb := HNB.out j hjr hlt2
          have hns := HNS.out j hjr hlt2
          rw [HN.out, Bool.true_and] at hns
          have hyr : row[j] < A.length := HR.out _ (List.getElem_mem hjr)
          have HY := Lib.hid hyr
          generalize row[j] = y at *
          by_cases hxy : x = y
          · have HBB := Lib.hid (HBAD.out (hnb (.inl hxy)))
            have te : ((x : Int) == (y : Int)) = true := by simp [hxy]
            clear hnb hns
            go_wp2_with fail
            go_ret
            exact ⟨ret_bool HBB.out.symm, rfl⟩
          · have te : ((x : Int) == (y : Int)) = false := by simp; omega
            have hbt := fun W => refBit9_any ax y hax (by omega) W
            have hab0 := HBT.out y
            simp only [hab0] at hbt
            cases hab : aft A x y with
            | true =>
              have HBB := Lib.hid (HBAD.out (hnb (.inr hab)))
              simp only [hab] at hbt
              have HBT2 := Lib.hid hbt
              clear hnb hns hbt hxy hab0
              go_wp2_with (go_at_call 72; refine (HBT2.out _).mono ?_; rintro e w5 ⟨rfl, rfl⟩)
              go_ret
              exact ⟨ret_bool HBB.out.symm, rfl⟩
            | false =>
              have HN2 : Hid (nxt A (row.take (j + 1)) x = true) := by unfold Hid; rw [hns, hab]; simp [hxy]
              simp only [hab] at hbt
              have HBT2 := Lib.hid hbt
              clear hnb hns hbt hxy hab0
              go_wp2_with (go_at_call 72; refine (HBT2.out _).mono ?_; rintro e w5 ⟨rfl, rfl⟩)
              go_roundw
              case rel => exact ⟨j + 1, by omega, by go_num, HN2, trivial⟩
              case measure => simp [intOf]; omega
        · obtain rfl : j = i := by omega
          have HG2 := Lib.hid (HGOOD.out HN.out)
          clear HGOOD HBAD HN
          go_wp2_with fail
          go_roundw
          case rel => exact ⟨j + 1, by omega, by go_num, HG2, trivial⟩
          case measure => simp [intOf]; omega
    · obtain rfl : i = row.length := by omega
      have HF : Hid (keepsR A row = true) := by have := HK.out; rwa [List.take_length] at this
      go_wp2
      go_ret
      exact ⟨ret_bool HF.out.symm, rfl⟩
end Go.Proofs.YtmnblljenobofaaGreatDoor
