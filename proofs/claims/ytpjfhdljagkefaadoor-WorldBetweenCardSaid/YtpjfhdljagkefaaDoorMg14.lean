/- Merged: ExtG, OrdF. -/
import Derived.Test.YtpjfhdljagkefaaDoorMg13
import Derived.Test.YtpjfhdljagkefaaDoorShelf
import Derived.Test.YtpjfhdljagkefaaDoorOrdE
import Derived.Laws.AppendOwnNone
import Derived.BigQuiet
/- slices.Concat at two rows of ints, the second of one place; append of a row of ints that may be nil. -/
namespace Go.Proofs.YtpjfhdljagkefaaDoor.RPlain
end Go.Proofs.YtpjfhdljagkefaaDoor.RPlain
namespace Go.Proofs.YtpjfhdljagkefaaDoor
open Go.RowKit RPlain

theorem infoN11 : (Tryd.prog.info? 3).map (fun i => (i.zero, i.size, i.bytes)) = some (some (.int .i64 0), 1, 8) := by kernel_rfl
/-- nil, or a slice with an address -/
def SrcN (v : Value) : Prop := v = .slice none 0 0 ∨ ∃ a n c, v = .slice (some a) n c
theorem SrcN.of_row {w : World} {B : Nat} {e : TypeId} {s : Nat} {v : Value} {n : Nat} {xs : List Value} (h : w.ownsRow B e s v n xs) : SrcN v := by
  rcases h.2 with ⟨rfl, _⟩ | ⟨g, cap, cur, rfl, _⟩
  · exact .inl rfl
  · exact .inr ⟨_, _, _, rfl⟩
theorem nats_one (L : List Nat) : ∀ u ∈ nats L, u.oneCell' = true := by
  intro u hu
  obtain ⟨x, _, rfl⟩ := List.mem_map.1 hu
  rfl
theorem nats_get {L : List Nat} {k : Nat} (h : k < L.length) : (nats L)[k]? = some (.int .i64 (L[k] : Int)) := by
  unfold nats
  rw [List.getElem?_map, List.getElem?_eq_getElem h]; rfl
theorem nats_app (L M : List Nat) : nats L ++ nats M = nats (L ++ M) := by simp [nats]
theorem rdCells11 {w : World} {ad : Addr} {m c : Nat} {xs : List Value} (h : Rd w (.slice (some ad) m c) xs) : xs.length = m ∧ ∀ j u, xs[j]? = some u → w.cell? (ad.add j) = some u := by
  rcases h with ⟨rfl, a', c', he⟩ | ⟨h0, b, o, c', he, hc⟩
  · simp only [Value.slice.injEq] at he
    exact ⟨he.2.1.symm, fun j u hu => by simp at hu⟩
  · simp only [Value.slice.injEq, Option.some.injEq] at he
    obtain ⟨rfl, rfl, rfl⟩ := he
    refine ⟨rfl, fun j u hu => ?_⟩
    rw [show (⟨b, o, none⟩ : Addr).add j = ⟨b, o + j, none⟩ from by unfold Addr.add; split <;> simp_all]
    exact hc j u hu
theorem wpList_append_srcI {ops : Array Oper} {rest : List Oper} {o : Oper} {a : Act} {w : World} {Q : Exit → Act → World → Prop} (hgd : o.guard = none) (s x : Operand)
    (ho : o.op = .call { callee := .builtin .append, args := #[s, x], argTypes := #[24, 24] }) (base : Nat)
    (v : Value) (n : Nat) (xs : List Value) (hs : a.eval s = v) (hown : w.ownsRow base 3 1 v n xs)
    (v2 : Value) (L : List Nat) (hx : a.eval x = v2) (hv : Rd w v2 (nats L)) (hsrc : SrcN v2) (h63 : n + L.length ≤ 65536) (hbase : base ≤ w.heap.size)
    (hK : ∀ v' w', w'.ownsRow base 3 1 v' (n + L.length) (xs ++ nats L) → w.grownBy w' v.ownBlock → wpList Tryd.prog ops Q rest (a.put o.dst v') w') : wpList Tryd.prog ops Q (o :: rest) a w := by
  obtain ⟨j0, hj0, hy0, hy1', hy2'⟩ := info_parts infoN11
  rcases hsrc with rfl | ⟨ad, m, c, rfl⟩
  · have h0 : L = [] := by
      obtain ⟨_, _, he⟩ := hv.len
      simp only [Value.slice.injEq, nats_len] at he
      exact List.length_eq_zero_iff.1 he.2.1.symm
    subst h0
    have hrest := hK v w (by simpa [nats] using hown) ⟨rfl, rfl, rfl, Nat.le_refl _, fun _ _ _ => rfl⟩
    exact wpList_append_own_none hgd s x 24 ho base 3 j0 1 Tryd.underlying24 hj0 v n xs hs hown hx hrest
  · obtain ⟨hl, hc⟩ := rdCells11 hv
    rw [nats_len] at hl
    subst hl
    refine wpList_append_own w hgd s x 24 ho base 3 j0 _ 1 8 Tryd.underlying24 hj0 hy0 hy1' hy2' rfl (by decide) v n xs hs hown ad L.length c (nats L) hx (by rw [nats_len]; omega) hc (nats_one L) (by unfold maxLen; omega) (by omega) hbase ?_
    intro v' w' h2 h3 _
    exact hK v' w' h2 h3
/-- slices.Grow(nil, n) -/
theorem grow_nilI (n : Nat) (h0 : 0 < n) (hn : n ≤ 65000) (w : World) :
    Calls Tryd.prog 55 #[.slice none 0 0, .int .i64 n] w fun e w' => ∃ v, e = .returned v ∧ w'.ownsRow w.heap.size 3 1 v 0 [] ∧ Below w.heap.size w w' := by
  obtain ⟨j0, hj0, hy0, hy1', hy2'⟩ := info_parts infoN11
  have hG : n ≤ maxLen := by unfold maxLen; omega
  have h := Any8.slices_Grow_grow Tryd.growI j0 (.int .i64 0) hj0 hy0 (by omega) none 0 0 n [] w (Nat.le_refl _) (by omega) (by rw [hy2']; omega) (by omega) (by simp) (fun _ => rfl) (fun a ha => by cases ha)
  refine h.mono fun e w' ⟨he, hw⟩ => ?_
  have hle := grownCap_le_maxLen w (0 + n) 0 3 (by unfold maxLen; omega)
  have hge := grownCap_ge w (0 + n) 0 3
  obtain ⟨G, hG⟩ : ∃ G, G = grownCap w (0 + n) 0 3 := ⟨_, rfl⟩
  have he' : e = .returned (.slice (some ⟨w.heap.size, 0, none⟩) 0 G) := by rw [hG]; exact he
  have hw' : w' = w.drew.alloc (.cells (([] : List Value).toArray ++ Builtin.zeroCells (Value.int .i64 0).cells (0 + n - 0) ++ Builtin.zeroCells (Value.int .i64 0).cells (G - (0 + n))) 3) := by rw [hG]; exact hw
  rw [← hG] at hle hge
  clear he hw hG
  refine ⟨_, he', ?_, ?_⟩
  · rw [hw']
    refine World.ownsRow_made (size := 1) (e := 3) (base := w.heap.size) w.drew _ _ (Nat.le_refl _) hle ?_
    have hcs : (Value.int .i64 0).cells.size = 1 := rfl
    simp [Builtin.zeroCells, hcs]
    omega
  · rw [hw']
    exact ((Below.refl w.heap.size w).drew).alloc (Nat.le_refl _) _
set_option maxRecDepth 100000 in
set_option maxHeartbeats 2000000 in
theorem concatI_any (B : Nat) (v0 v1 : Value) (l0 l1 : List Nat) (w : World) (c0 : w.cell? ⟨B, 0, none⟩ = some v0) (c1 : w.cell? ⟨B, 1, none⟩ = some v1)
    (r0 : Rd w v0 (nats l0)) (r1 : Rd w v1 (nats l1)) (s0 : SrcN v0) (s1 : SrcN v1) (h0 : l0.length ≤ 20000) (h1 : l1.length ≤ 20000) (hp : 0 < l1.length) :
    Calls Tryd.prog 47 #[.slice (some ⟨B, 0, none⟩) 2 2] w fun e w' => ∃ v, e = .returned v ∧ w'.ownsRow w.heap.size 3 1 v (l0 ++ l1).length (nats (l0 ++ l1)) ∧ Below w.heap.size w w' := by
  obtain ⟨a0, d0, rfl⟩ := r0.len
  obtain ⟨a1, d1, rfl⟩ := r1.len
  have R0 := Lib.hid r0
  have R1 := Lib.hid r1
  have S0 := Lib.hid s0
  have S1 := Lib.hid s1
  rw [nats_len] at R0 R1 S0 S1 c0 c1
  have C0 := Lib.hid c0
  have C1 := Lib.hid c1
  have hB : B < w.heap.size := World.block_lt_of_cell? w _ c0
  clear r0 r1 s0 s1
  have HA := Lib.hid (nats_app l0 l1)
  have hll : (l0 ++ l1).length = l0.length + l1.length := List.length_append
  rw [hll]
  clear hll
  generalize hn0 : l0.length = n0 at *
  generalize hn1 : l1.length = n1 at *
  have HN0 := Lib.hid hn0
  have HN1 := Lib.hid hn1
  clear hn0 hn1
  go_enter Tryd.func47, Tryd.ntmps47
  go_wp2_with fail
  go_loop [3, 11] (fun s i => (i = .int .i64 0 ∧ s = .int .i64 0) ∨ (i = .int .i64 1 ∧ s = .int .i64 (n0 : Int)) ∨ (i = .int .i64 2 ∧ s = .int .i64 ((n0 + n1 : Nat) : Int))) (fun _ i => 2 - (intOf i).toNat)
  case atStart => exact .inl ⟨rfl, rfl⟩
  case round =>
    rcases hrel with ⟨rfl, rfl⟩ | ⟨rfl, rfl⟩ | ⟨rfl, rfl⟩
    · go_wp2
      go_round
      case rel => exact .inr (.inl ⟨by go_num, by go_num⟩)
      case measure => simp [intOf]
    · go_wp2
      go_round
      case rel => exact .inr (.inr ⟨by go_num, by go_num⟩)
      case measure => simp [intOf]
    · go_wp2_with fail
      refine (grow_nilI (n0 + n1) (by omega) (by omega) _).mono ?_
      rintro e w1 ⟨v, rfl, ho, hb⟩
      obtain ⟨ga, gc, rfl⟩ := row_slice ho
      clear c0 c1
      go_wp2_with fail
      go_loopw [6, 27] (fun y i wr => ((i = .int .i64 0 ∧ wr.ownsRow w.heap.size 3 1 y 0 []) ∨ (i = .int .i64 1 ∧ wr.ownsRow w.heap.size 3 1 y n0 (nats l0)) ∨ (i = .int .i64 2 ∧ wr.ownsRow w.heap.size 3 1 y (n0 + n1) (nats l0 ++ nats l1))) ∧ Below w.heap.size w wr) (fun _ i _ => 2 - (intOf i).toNat)
      case atStart => exact ⟨.inl ⟨rfl, ho⟩, hb⟩
      case round =>
        clear ho hb
        obtain ⟨hrel, hb⟩ := hrel
        have c0 := (hb.cell (p := ⟨B, 0, none⟩) hB).trans C0.out
        have c1 := (hb.cell (p := ⟨B, 1, none⟩) hB).trans C1.out
        have hbs := hb.size
        rcases hrel with ⟨rfl, ho⟩ | ⟨rfl, ho⟩ | ⟨rfl, ho⟩
        · go_wp2_with (at_builtin; refine wpList_append_srcI rfl _ _ rfl w.heap.size _ 0 [] rfl ho _ l0 rfl (R0.out.below hb (Nat.le_refl _)) S0.out (by rw [HN0.out]; omega) hbs ?_)
          intro v2 w2 ho2 hg2
          rw [HN0.out] at ho2
          have hb2 := hb.grown hg2 hbs (fun k hk => (ho.lt k hk).1)
          clear ho hb c0 c1 hbs hg2
          go_wp2
          go_roundw
          case rel => exact ⟨.inr (.inl ⟨by go_num, by simpa using ho2⟩), hb2⟩
          case measure => simp [intOf]
        · go_wp2_with (at_builtin; refine wpList_append_srcI rfl _ _ rfl w.heap.size _ n0 (nats l0) rfl ho _ l1 rfl (R1.out.below hb (Nat.le_refl _)) S1.out (by rw [HN1.out]; omega) hbs ?_)
          intro v2 w2 ho2 hg2
          rw [HN1.out] at ho2
          have hb2 := hb.grown hg2 hbs (fun k hk => (ho.lt k hk).1)
          clear ho hb c0 c1 hbs hg2
          go_wp2
          go_roundw
          case rel => exact ⟨.inr (.inr ⟨by go_num, ho2⟩), hb2⟩
          case measure => simp [intOf]
        · obtain ⟨ya, yc, rfl⟩ := row_slice ho
          rw [HA.out] at ho
          have HO := Lib.hid ho
          clear ho
          go_wp2
          go_ret
          exact ⟨_, rfl, HO.out, hb⟩
end Go.Proofs.YtpjfhdljagkefaaDoor
/- The walks of package order's afterOf, Before and Keeps. -/
namespace Go.Proofs.YtpjfhdljagkefaaDoor.WPlain
end Go.Proofs.YtpjfhdljagkefaaDoor.WPlain
namespace Go.Proofs.YtpjfhdljagkefaaDoor.QPlain
end Go.Proofs.YtpjfhdljagkefaaDoor.QPlain
namespace Go.Proofs.YtpjfhdljagkefaaDoor.RPlain
end Go.Proofs.YtpjfhdljagkefaaDoor.RPlain
namespace Go.Proofs.YtpjfhdljagkefaaDoor
open Go.RowKit WPlain QPlain RPlain

/-- is there no transaction of a place? -/
def noneB (n : Nat) (x : Int) : Bool := decide (x < 0) || decide ((n : Int) ≤ x)
theorem none_there (l : List Tx) (row : List Int) : row.any (noneB l.length) = !(thereS l row) := by
  unfold thereS
  rw [List.not_all_eq_any_not]
  refine congrArg (fun p => row.any p) (funext fun x => ?_)
  unfold noneB
  by_cases h1 : x < 0
  · simp [h1]
  · by_cases h2 : (l.length : Int) ≤ x
    · simp [h1, h2]
    · simp [h1, h2]; omega
theorem isNone_any (x : Int) (n : Nat) (N : Nat) (a : Option Addr) (c : Nat) (w : World) (hc : w.cell? ⟨N, 0, none⟩ = some (.slice a n c)) :
    Calls Tryd.prog 37 #[.int .i64 x, .pointer (some ⟨N, 0, none⟩)] w fun e w' => e = .returned (.bool (noneB n x)) ∧ w' = w := by
  go_enter Tryd.func37, Tryd.ntmps37
  go_wp2
  all_goals go_ret
  all_goals exact ⟨by unfold noneB; simp [*], rfl⟩
set_option maxRecDepth 100000 in
set_option maxHeartbeats 1000000 in
theorem indexN_any (v : Value) (row : List Int) (n N : Nat) (a : Option Addr) (c : Nat) (w : World) (hv : Rd w v (ints row)) (hl : row.length ≤ 65536) (hc : w.cell? ⟨N, 0, none⟩ = some (.slice a n c)) :
    Calls Tryd.prog 51 #[v, .func (.func 37) #[] #[.pointer (some ⟨N, 0, none⟩)]] w fun e w' => (∃ z : Int, e = .returned (.int .i64 z) ∧ decide (0 ≤ z) = row.any (noneB n)) ∧ w' = w := by
  have HV := Lib.hid hv
  have HCL := Lib.hid (fun x => isNone_any x n N a c w hc)
  obtain ⟨va, vc, rfl⟩ := hv.len
  rw [ints_len] at HV ⊢
  clear hv hc
  go_enter Tryd.func51, Tryd.ntmps51
  go_wp2_with fail
  go_loopw [8] (fun x wr => ∃ k : Nat, k ≤ row.length ∧ x = .int .i64 k ∧ Hid ((row.take k).any (noneB n) = false) ∧ wr = w) (fun x _ => row.length - (intOf x).toNat)
  case atStart => exact ⟨0, by omega, rfl, rfl, rfl⟩
  case round =>
    obtain ⟨k, hk, rfl, HA, rfl⟩ := hrel
    by_cases hlt : k < row.length
    · have HT : Hid (row.take (k + 1) = row.take k ++ [row[k]]) := List.take_succ_eq_append_getElem hlt
      have HM : Hid (row[k] ∈ row) := List.getElem_mem hlt
      obtain ⟨b, o, c', he, hbl, hcs⟩ := HV.out.opened (by rw [ints_len]; omega)
      simp only [Value.slice.injEq] at he
      obtain ⟨rfl, -, rfl⟩ := he
      have hck := hcs k (.int .i64 row[k]) (by unfold ints; rw [List.getElem?_map, List.getElem?_eq_getElem hlt]; rfl)
      clear hcs
      generalize row[k] = y at *
      cases hnb : noneB n y with
      | false =>
        have HC2 := Lib.hid (HCL.out y)
        rw [hnb] at HC2
        have HA2 : Hid ((row.take (k + 1)).any (noneB n) = false) := by
          unfold Hid
          rw [HT.out, List.any_append, HA.out]
          simp [hnb]
        clear hnb HT HM HA
        go_wp2_with (go_at_call 37; refine HC2.out.mono ?_; rintro e w3 ⟨rfl, rfl⟩)
        go_roundw
        case rel => exact ⟨k + 1, by omega, by go_num, HA2, trivial⟩
        case measure => simp [intOf]; omega
      | true =>
        have HC2 := Lib.hid (HCL.out y)
        rw [hnb] at HC2
        have HA2 : Hid (row.any (noneB n) = true) := List.any_eq_true.2 ⟨y, HM.out, hnb⟩
        clear hnb HT HM HA
        go_wp2_with (go_at_call 37; refine HC2.out.mono ?_; rintro e w3 ⟨rfl, rfl⟩)
        go_ret
        exact ⟨⟨_, rfl, by rw [HA2.out]; exact decide_eq_true (by omega)⟩, rfl⟩
    · obtain rfl : k = row.length := by omega
      have HA2 : Hid (row.any (noneB n) = false) := by have := HA.out; rwa [List.take_length] at this
      clear HA
      go_wp2
      go_ret
      exact ⟨⟨_, rfl, by rw [HA2.out]; rfl⟩, rfl⟩
theorem containsN_any (v : Value) (row : List Int) (n N : Nat) (a : Option Addr) (c : Nat) (w : World) (hv : Rd w v (ints row)) (hl : row.length ≤ 65536) (hc : w.cell? ⟨N, 0, none⟩ = some (.slice a n c)) :
    Calls Tryd.prog 38 #[v, .func (.func 37) #[] #[.pointer (some ⟨N, 0, none⟩)]] w fun e w' => e = .returned (.bool (row.any (noneB n))) ∧ w' = w := by
  have HI := Lib.hid (indexN_any v row n N a c w hv hl hc)
  clear hv hl hc
  go_enter Tryd.func38, Tryd.ntmps38
  go_wp2_with fail
  refine HI.out.mono ?_
  rintro e w1 ⟨⟨z, rfl, hz⟩, rfl⟩
  go_wp2
  all_goals go_ret
  all_goals exact ⟨ret_bool (by rw [← hz]), rfl⟩
/-- the error of places of events -/
def errP (h : List Ev) (row : List Int) : Nat := if (checkS h).2 = 0 then (if thereS (tableS h) row = true then 0 else 7) else (checkS h).2
set_option maxRecDepth 100000 in
theorem afterOf_any (v rv : Value) (h : List Ev) (row : List Int) (w : World) (hK : HasK w) (hv : Evs w v h) (hl : h.length ≤ 65536) (hr : Rd w rv (ints row)) (hrl : row.length ≤ 65536) :
    Calls Tryd.prog 22 #[v, rv] w fun e w' => ∃ v', e = .returned (.tuple #[v', .int .i64 ((errP h row : Nat) : Int)]) ∧ Rd w' v' (if errP h row = 0 then u32s (afterS (tableS h)) else []) ∧ Below w.heap.size w w' := by
  have HT := Lib.hid (after_any v h w hK hv hl)
  have HR := Lib.hid hr
  unfold errP
  by_cases h0 : (checkS h).2 = 0
  · simp only [if_pos h0] at HT ⊢
    rw [h0] at HT
    have hnt := none_there (tableS h) row
    have hal : (u32s (afterS (tableS h))).length = (tableS h).length := by simp [u32s, afterS]
    generalize u32s (afterS (tableS h)) = L at *
    cases ht : thereS (tableS h) row with
    | true =>
      rw [ht] at hnt
      simp only [if_true]
      clear h0 hv hK hr ht
      generalize tableS h = l at *
      go_enter Tryd.func22, Tryd.ntmps22
      go_wp2_with fail
      refine HT.out.mono ?_
      rintro e w1 ⟨v1, rfl, hv1, hb1⟩
      have HV1 := Lib.hid hv1
      have HB1 := Lib.hid hb1
      obtain ⟨a1, c1, rfl⟩ := hv1.len
      rw [hal] at HV1 ⊢
      clear hv1 hb1 HT
      have hba := (Below.refl w1.heap.size w1).alloc (Nat.le_refl _) (.cells #[.slice a1 l.length c1] 36)
      have hnew := (At.new w1 #[.slice a1 l.length c1] 36).cell (i := 0) rfl
      have HCN := Lib.hid (containsN_any rv row l.length w1.heap.size a1 c1 (w1.alloc (.cells #[.slice a1 l.length c1] 36)) ((HR.out.below HB1.out (Nat.le_refl _)).below hba (Nat.le_refl _)) hrl hnew)
      rw [hnt] at HCN
      have HV2 := Lib.hid (HV1.out.below hba (Nat.le_refl _))
      have HB2 := Lib.hid (HB1.out.alloc HB1.out.size (.cells #[.slice a1 l.length c1] 36))
      clear hba hnt
      go_wp2_with fail
      refine HCN.out.mono ?_
      rintro e w2 ⟨rfl, rfl⟩
      go_wp2
      refine bodyPost_ret (v := .tuple #[.slice a1 l.length c1, .int .i64 0]) (by simp [results, Tryd.results22, go_sem]) rfl ⟨_, rfl, HV2.out, HB2.out⟩
    | false =>
      rw [ht] at hnt
      simp only [Bool.false_eq_true, if_false]
      clear h0 hv hK hr ht
      generalize tableS h = l at *
      go_enter Tryd.func22, Tryd.ntmps22
      go_wp2_with fail
      refine HT.out.mono ?_
      rintro e w1 ⟨v1, rfl, hv1, hb1⟩
      have HV1 := Lib.hid hv1
      have HB1 := Lib.hid hb1
      obtain ⟨a1, c1, rfl⟩ := hv1.len
      rw [hal] at HV1 ⊢
      clear hv1 hb1 HT
      have hba := (Below.refl w1.heap.size w1).alloc (Nat.le_refl _) (.cells #[.slice a1 l.length c1] 36)
      have hnew := (At.new w1 #[.slice a1 l.length c1] 36).cell (i := 0) rfl
      have HCN := Lib.hid (containsN_any rv row l.length w1.heap.size a1 c1 (w1.alloc (.cells #[.slice a1 l.length c1] 36)) ((HR.out.below HB1.out (Nat.le_refl _)).below hba (Nat.le_refl _)) hrl hnew)
      rw [hnt] at HCN
      have HB2 := Lib.hid (HB1.out.alloc HB1.out.size (.cells #[.slice a1 l.length c1] 36))
      clear hba hnt
      go_wp2_with fail
      refine HCN.out.mono ?_
      rintro e w2 ⟨rfl, rfl⟩
      go_wp2
      refine bodyPost_ret (v := .tuple #[.slice none 0 0, .int .i64 7]) (by simp [results, Tryd.results22, go_sem]) rfl ⟨_, rfl, .inl ⟨rfl, _, _, rfl⟩, HB2.out⟩
  · simp only [if_neg h0] at HT ⊢
    obtain ⟨er, her⟩ : ∃ er, (checkS h).2 = er := ⟨_, rfl⟩
    rw [her] at HT h0 ⊢
    have te : ((er : Int) != 0) = true := by simp; omega
    clear her hK hv hl hr
    go_enter Tryd.func22, Tryd.ntmps22
    go_wp2_with fail
    refine HT.out.mono ?_
    rintro e w1 ⟨v1, rfl, hv1, hb1⟩
    obtain ⟨a1, c1, rfl⟩ := hv1.len
    go_wp2
    refine bodyPost_ret (v := .tuple #[.slice none 0 0, .int .i64 er]) (by simp [results, Tryd.results22, go_sem]) rfl ⟨_, rfl, .inl ⟨rfl, _, _, rfl⟩, hb1.alloc hb1.size _⟩
end Go.Proofs.YtpjfhdljagkefaaDoor
