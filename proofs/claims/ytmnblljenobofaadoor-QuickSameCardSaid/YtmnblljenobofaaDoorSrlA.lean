/- The walks of package serial: bit, placesOf, nextOf, afterOf, step, isLegal. -/
import Derived.Test.YtmnblljenobofaaDoorMg18
import Derived.Test.YtmnblljenobofaaDoorMg13
import Derived.Test.YtmnblljenobofaaDoorMg7
import Derived.Test.YtmnblljenobofaaDoorMg22
import Derived.Test.YtmnblljenobofaaDoorCmpD
import Derived.Recover
import Derived.Deep.RegionHeld
import Derived.Deep.DeepMust
namespace Go.Proofs.YtmnblljenobofaaDoor.WPlain
end Go.Proofs.YtmnblljenobofaaDoor.WPlain
namespace Go.Proofs.YtmnblljenobofaaDoor.QPlain
end Go.Proofs.YtmnblljenobofaaDoor.QPlain
namespace Go.Proofs.YtmnblljenobofaaDoor.RPlain
end Go.Proofs.YtmnblljenobofaaDoor.RPlain
namespace Go.Proofs.YtmnblljenobofaaDoor
open Go.RowKit WPlain QPlain RPlain

theorem serBit_any (k : Nat) (hk : k < 32) (w : World) : Calls Tryd.prog 33 #[.int .i64 (k : Int)] w fun e w' => e = .returned (.int .u32 ((2 ^ k : Nat) : Int)) ∧ w' = w := by
  go_enter Tryd.func33, Tryd.ntmps33
  go_wp2
  go_ret
  exact ⟨by rw [pow_u32 hk]; rfl, rfl⟩
theorem placesS_any (a : Option Addr) (n c : Nat) (hn : n < 32) (w : World) : Calls Tryd.prog 16 #[.slice a n c] w fun e w' => e = .returned (.int .u32 ((2 ^ n - 1 : Nat) : Int)) ∧ w' = w := by
  have hb := serBit_any n hn w
  have hp : 0 < 2 ^ n := Nat.two_pow_pos n
  have hlt : 2 ^ n < 4294967296 := Nat.pow_lt_pow_right (a := 2) (m := n) (n := 32) (by decide) hn
  generalize 2 ^ n = z at *
  go_enter Tryd.func16, Tryd.ntmps16
  go_wp2_with fail
  refine hb.mono ?_
  rintro e w1 ⟨rfl, rfl⟩
  go_wp2
  go_ret
  exact ⟨ret_int (by omega), rfl⟩
set_option maxRecDepth 100000 in
set_option maxHeartbeats 1000000 in
theorem nextOfS_any (v : Value) (A : List Nat) (left : Nat) (w : World) (hv : Rd w v (u32s A)) (hn : A.length ≤ 6) (hA : ∀ a ∈ A, a < 4294967296) (hl : left < 64) :
    Calls Tryd.prog 54 #[v, .int .u32 (left : Int)] w fun e w' => e = .returned (.int .u32 ((nextS A left A.length : Nat) : Int)) ∧ w' = w := by
  have HV := Lib.hid hv
  obtain ⟨a, c, rfl⟩ := hv.len
  rw [u32s_len] at HV ⊢
  have HA := Lib.hid hA
  clear hv hA
  go_enter Tryd.func54, Tryd.ntmps54
  go_wp2_with fail
  go_loopw [5, 11] (fun y x wr => ∃ k : Nat, k ≤ A.length ∧ x = .int .i64 k ∧ y = .int .u32 ((nextS A left k : Nat) : Int) ∧ wr = w) (fun _ x _ => A.length - (intOf x).toNat)
  case atStart => exact ⟨0, by omega, rfl, rfl, rfl⟩
  case round =>
    obtain ⟨k, hk, rfl, rfl, rfl⟩ := hrel
    by_cases hlt : k < A.length
    · obtain ⟨b, o, c', he, hb, hc⟩ := HV.out.opened (by rw [u32s_len]; omega)
      have hck := hc k _ (u32s_get hlt)
      simp only [Value.slice.injEq] at he
      obtain ⟨rfl, -, rfl⟩ := he
      clear hc
      have hak := HA.out _ (List.getElem_mem hlt)
      have hle := nextS_le A left k
      have hkb := serBit_any k (by omega)
      have hlt3 : 2 ^ k < 4294967296 := Nat.pow_lt_pow_right (a := 2) (m := k) (n := 32) (by decide) (by omega)
      have hand := u32_and_nat left (2 ^ k) (by omega) hlt3
      have hap := and_pow2 left k
      have hpos : 0 < 2 ^ k := Nat.two_pow_pos k
      have hstep : nextS A left (k + 1) = if left.testBit k = true then lessN (nextS A left k) A[k] else nextS A left k := by
        rw [nextS, List.getD_eq_getElem?_getD, List.getElem?_eq_getElem hlt]; rfl
      have HST := Lib.hid hstep
      generalize A[k] = y at *
      generalize nextS A left k = nx at *
      obtain ⟨nx', hnx'⟩ : ∃ z, nextS A left (k + 1) = z := ⟨_, rfl⟩
      have HNX' := Lib.hid hnx'
      rw [hnx'] at HST
      clear hnx'
      have hano := u32_andNot_nat nx y (by omega) hak
      have hln : nx &&& (4294967295 - y) = lessN nx y := rfl
      rw [hln] at hano
      generalize lessN nx y = ly at *
      clear hstep hln
      obtain ⟨pw, hpw⟩ : ∃ pw, 2 ^ k = pw := ⟨_, rfl⟩
      rw [hpw] at hkb hlt3 hand hap hpos
      clear hpw
      cases hb : left.testBit k with
      | true =>
        rw [hb, if_pos rfl] at hap
        rw [hap] at hand
        have he := HST.out
        rw [hb, if_pos rfl] at he
        subst he
        clear HST hap
        have tq : ((pw : Int) != 0) = true := by simp; omega
        go_wp2_with (go_at_call 33; refine (hkb _).mono ?_; rintro e w3 ⟨rfl, rfl⟩)
        go_roundw
        case rel => exact ⟨k + 1, by omega, by go_num, by rw [HNX'.out], trivial⟩
        case measure => simp [intOf]; omega
      | false =>
        rw [hb, if_neg (by decide)] at hap
        rw [hap] at hand
        have he := HST.out
        rw [hb, if_neg (by decide)] at he
        subst he
        clear HST hap
        go_wp2_with (go_at_call 33; refine (hkb _).mono ?_; rintro e w3 ⟨rfl, rfl⟩)
        go_roundw
        case rel => exact ⟨k + 1, by omega, by go_num, by rw [HNX'.out], trivial⟩
        case measure => simp [intOf]; omega
    · obtain rfl : k = A.length := by omega
      go_wp2
      go_ret
      exact ⟨rfl, rfl⟩
/-- what legal.Legal tells of such a row -/
theorem legR_row {h : List Ev} (h0 : (checkS h).2 = 0) {row : List Nat} (hr : ∀ k ∈ row, k < (tableS h).length) (hn : row.Nodup) (c : Nat) :
    errL h (row.map fun x : Nat => (x : Int)) = 0 ∧ (legR h (row.map fun x : Nat => (x : Int)) c = row.length ↔ okL (tableS h) c row = true) := by
  have ht : thereS (tableS h) (row.map fun x : Nat => (x : Int)) = true := (thereS_iff _ _).2 fun x hx => by
    obtain ⟨k, hk, rfl⟩ := List.mem_map.1 hx
    have := hr k hk
    omega
  have he : errL h (row.map fun x : Nat => (x : Int)) = 0 := by
    unfold errL
    rw [if_pos h0, ht, if_pos rfl, if_pos ((nodup_cast row).2 hn)]
  refine ⟨he, ?_⟩
  unfold legR okL
  rw [if_pos he, natsR_cast, decide_eq_true_eq]
/-- the error of a search -/
def srchE (h : List Ev) (B : Int) : Nat := if (checkS h).2 = 0 then (if B < 0 ∨ 1000000 < B then 1 else 0) else (checkS h).2
set_option maxRecDepth 100000 in
set_option maxHeartbeats 1000000 in
theorem afterOf_anyS (v : Value) (h : List Ev) (B : Int) (w : World) (hK : HasK w) (hv : Evs w v h) (hl : h.length ≤ 65536) :
    Calls Tryd.prog 15 #[v, .int .i64 B] w fun e w' => ∃ v', e = .returned (.tuple #[v', .int .i64 ((srchE h B : Nat) : Int)]) ∧ Rd w' v' (if srchE h B = 0 then u32s (afterS (tableS h)) else []) ∧ Below w.heap.size w w' := by
  have HA := Lib.hid (after_any v h w hK hv hl)
  clear hK hv hl
  unfold srchE
  by_cases h0 : (checkS h).2 = 0
  · simp only [if_pos h0] at HA ⊢
    rw [h0] at HA
    by_cases h1 : B < 0
    · have h2 : B < 0 ∨ 1000000 < B := .inl h1
      simp only [if_pos h2]
      clear h2 h0
      go_enter Tryd.func15, Tryd.ntmps15
      go_wp2_with fail
      refine HA.out.mono ?_
      rintro e w1 ⟨v1, rfl, hr, hb⟩
      have HR := Lib.hid hr
      have HB := Lib.hid hb
      obtain ⟨va, vc, rfl⟩ := hr.len
      clear hr hb HA
      go_wp2
      go_ret2
      exact ⟨_, rfl, .inl ⟨rfl, _, _, rfl⟩, HB.out⟩
    · by_cases h3 : 1000000 < B
      · have h2 : B < 0 ∨ 1000000 < B := .inr h3
        simp only [if_pos h2]
        clear h2 h0
        go_enter Tryd.func15, Tryd.ntmps15
        go_wp2_with fail
        refine HA.out.mono ?_
        rintro e w1 ⟨v1, rfl, hr, hb⟩
        have HR := Lib.hid hr
        have HB := Lib.hid hb
        obtain ⟨va, vc, rfl⟩ := hr.len
        clear hr hb HA
        go_wp2
        go_ret2
        exact ⟨_, rfl, .inl ⟨rfl, _, _, rfl⟩, HB.out⟩
      · have h2 : ¬ (B < 0 ∨ 1000000 < B) := by omega
        simp only [if_neg h2]
        clear h2 h0
        go_enter Tryd.func15, Tryd.ntmps15
        go_wp2_with fail
        refine HA.out.mono ?_
        rintro e w1 ⟨v1, rfl, hr, hb⟩
        have HR := Lib.hid hr
        have HB := Lib.hid hb
        obtain ⟨va, vc, rfl⟩ := hr.len
        clear hr hb HA
        go_wp2
        go_ret2
        exact ⟨_, rfl, HR.out, HB.out⟩
  · simp only [if_neg h0] at HA ⊢
    obtain ⟨er, her⟩ : ∃ er, (checkS h).2 = er := ⟨_, rfl⟩
    simp only [her] at h0 HA ⊢
    have te : ((er : Int) != 0) = true := by simp; omega
    have HX := Lib.hid h0
    clear her h0
    go_enter Tryd.func15, Tryd.ntmps15
    go_wp2_with fail
    refine HA.out.mono ?_
    rintro e w1 ⟨v1, rfl, hr, hb⟩
    have HR := Lib.hid hr
    have HB := Lib.hid hb
    obtain ⟨va, vc, rfl⟩ := hr.len
    clear hr hb HA
    go_wp2
    go_ret2
    exact ⟨_, rfl, .inl ⟨rfl, _, _, rfl⟩, HB.out⟩
def srch (hv av : Value) (who c : Nat) (B : Int) (s : Nat) : Array Value := #[hv, av, .int .u32 (who : Int), .int .u32 (c : Int), .int .i64 B, .int .i64 (s : Int)]
set_option maxRecDepth 100000 in
set_option maxHeartbeats 1000000 in
theorem step_spent (b : Nat) (hv av : Value) (who c B : Nat) (w : World) (ha : At w b (srch hv av who c (B : Int) B) 50) :
    Calls Tryd.prog 55 #[.pointer (some ⟨b, 0, none⟩)] w fun e w' => e = .panicked [{ v := .iface 79 (.agg #[]), recovered := false }] ∧ ∃ n, w' = w.drewN n := by
  have c4 : w.cell? ⟨b, 4, none⟩ = some (.int .i64 (B : Int)) := ha.cell rfl
  have c5 : w.cell? ⟨b, 5, none⟩ = some (.int .i64 (B : Int)) := ha.cell rfl
  clear ha
  go_enter Tryd.func55, Tryd.ntmps55
  go_wp2_with fail
  go_quiet (fail)
  go_wp2
  exact ⟨rfl, rfl, nq, rfl⟩
set_option maxRecDepth 100000 in
set_option maxHeartbeats 1000000 in
theorem step_goes (b : Nat) (hv av : Value) (who c B s : Nat) (w : World) (ha : At w b (srch hv av who c (B : Int) s) 50) (hs : s < B) (hB : B ≤ 1000000) :
    Calls Tryd.prog 55 #[.pointer (some ⟨b, 0, none⟩)] w fun e w' => e = .returned (.tuple #[]) ∧ ∃ n, w' = (w.drewN n).setCell ⟨b, 5, none⟩ (.int .i64 ((s + 1 : Nat) : Int)) := by
  have c4 : w.cell? ⟨b, 4, none⟩ = some (.int .i64 (B : Int)) := ha.cell rfl
  have c5 : w.cell? ⟨b, 5, none⟩ = some (.int .i64 (s : Int)) := ha.cell rfl
  have f5 : w.frozen? ⟨b, 5, none⟩ = false := ha.free 5
  clear ha
  have tq : ((s : Int) == (B : Int)) = false := by rw [beq_eq_false_iff_ne]; omega
  go_enter Tryd.func55, Tryd.ntmps55
  go_wp2_with fail
  go_quiet (fail)
  go_wp2
  exact bodyPost_end (results_none rfl _ _ _) rfl ⟨rfl, nq, rfl⟩
theorem nats_intsS (L : List Nat) : nats L = ints (L.map fun x : Nat => (x : Int)) := by simp [nats, ints]
theorem belowDrS (w : World) : Below w.heap.size w w.drew := (Below.refl _ _).drew
/-- what a search is over: the events, the order, and where it lies -/
structure Env (w0 : World) (b : Nat) (hv av : Value) (h : List Ev) (who c B : Nat) : Prop where
  kinds : HasK w0
  evs : Evs w0 hv h
  len : h.length ≤ 65536
  ok : (checkS h).2 = 0
  aft : Rd w0 av (u32s (afterS (tableS h)))
  blk : w0.heap.size ≤ b
  who : who < 2 ^ (tableS h).length
  com : c < 4294967296
  bud : B ≤ 1000000
set_option maxRecDepth 100000 in
set_option maxHeartbeats 2000000 in
theorem isLegal_any (w0 : World) (b : Nat) (hv av : Value) (h : List Ev) (who c B s : Nat) (E : Env w0 b hv av h who c B) (rv : Value) (row : List Nat) (w : World) (hb : Below w0.heap.size w0 w) (ha : At w b (srch hv av who c (B : Int) s) 50)
    (hr : Rd w rv (nats row)) (hlt : ∀ k ∈ row, k < (tableS h).length) (hn : row.Nodup) :
    Calls Tryd.prog 57 #[.pointer (some ⟨b, 0, none⟩), rv] w fun e w' => e = .returned (.bool (okL (tableS h) c row)) ∧ Below w.heap.size w w' := by
  have h6 := table_six E.ok
  have hrl : row.length ≤ 6 := by
    have := nodup_le row (List.range (tableS h).length) hn (fun x hx => List.mem_range.2 (hlt x hx))
    rw [List.length_range] at this
    omega
  obtain ⟨he, hleg⟩ := legR_row E.ok hlt hn c
  have HLG : Hid (∀ W, Below w.heap.size w W → Calls Tryd.prog 9 #[hv, rv, .int .u32 (c : Int)] W fun e w' => e = .returned (.tuple #[.int .i64 ((legR h (row.map fun x : Nat => (x : Int)) c : Nat) : Int), .int .i64 0]) ∧ Below W.heap.size W w') := fun W hW => by
    have h1 := legal_any hv rv h (row.map fun x : Nat => (x : Int)) c W (E.kinds.later (hb.trans (hW.mono hb.size)) (Nat.le_refl _)) (E.evs.below (hb.trans (hW.mono hb.size)) (Nat.le_refl _)) E.len (by rw [← nats_intsS]; exact hr.below hW (Nat.le_refl _)) (by rw [List.length_map]; omega) E.com
    rw [he] at h1
    exact h1
  have HSS : Hid (∀ W, Below w.heap.size w W → W.cell? ⟨b, 0, none⟩ = some hv ∧ W.cell? ⟨b, 3, none⟩ = some (.int .u32 (c : Int))) := fun W hW => ⟨(hW.cell (p := ⟨b, 0, none⟩) ha.lt).trans (ha.cell rfl), (hW.cell (p := ⟨b, 3, none⟩) ha.lt).trans (ha.cell rfl)⟩
  obtain ⟨ra, rc, rfl⟩ := hr.len
  rw [nats_len] at HLG ⊢
  obtain ⟨ok, hok⟩ : ∃ ok, okL (tableS h) c row = ok := ⟨_, rfl⟩
  rw [hok] at hleg ⊢
  have HOK := Lib.hid hleg
  clear hok hleg he E hr ha hb hlt hn
  generalize legR h (row.map fun x : Nat => (x : Int)) c = z at *
  have htq : (((z : Nat) : Int) == (row.length : Int)) = ok := by
    have h1 := HOK.out
    cases ok with
    | true => rw [beq_iff_eq]; have := h1.2 rfl; omega
    | false => rw [beq_eq_false_iff_ne]; intro hc; have := h1.1 (by omega); cases this
  clear HOK
  generalize row.length = n at *
  go_enter Tryd.func57, Tryd.ntmps57
  go_wp2_with fail
  first
  | go_must (go_region_held (fun W => W.cell? ⟨b, 0, none⟩ = some hv ∧ W.cell? ⟨b, 3, none⟩ = some (.int .u32 (c : Int)))
      (first | exact HSS.out _ (belowDrS _) | exact HSS.out _ ((belowDrS _).trans hb7))
      (first | (go_at_call 9; refine (HLG.out _ (belowDrS _)).mono ?_; rintro e w7 ⟨rfl, hb7⟩)))
  | fail
  have HB7 := Lib.hid ((belowDrS w).trans hb7)
  clear hb7 HSS HLG
  go_wp2
  go_ret
  exact ⟨rfl, HB7.out⟩
end Go.Proofs.YtmnblljenobofaaDoor
