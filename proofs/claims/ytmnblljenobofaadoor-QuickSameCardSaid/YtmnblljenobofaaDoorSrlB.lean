/- The walk of package serial's goOn: the search, that ends through its calls by a panic. -/
import Derived.Test.YtmnblljenobofaaDoorSrlA
import Derived.Test.YtmnblljenobofaaDoorMg4
namespace Go.Proofs.YtmnblljenobofaaDoor.WPlain
end Go.Proofs.YtmnblljenobofaaDoor.WPlain
namespace Go.Proofs.YtmnblljenobofaaDoor.QPlain
end Go.Proofs.YtmnblljenobofaaDoor.QPlain
namespace Go.Proofs.YtmnblljenobofaaDoor.RPlain
end Go.Proofs.YtmnblljenobofaaDoor.RPlain
namespace Go.Proofs.YtmnblljenobofaaDoor
open Go.RowKit WPlain QPlain RPlain

/-- a slice is no longer than its room -/
def CapV (v : Value) : Prop := ∀ a n c, v = .slice a n c → n ≤ c
theorem CapV.of_row {B : Nat} {w : World} {e : TypeId} {z : Nat} {v : Value} {n : Nat} {xs : List Value} (h : w.ownsRow B e z v n xs) : CapV v := by
  rcases h.2 with ⟨rfl, h0⟩ | ⟨g, cap, cur, rfl, hb, hg, hn, hm, hs, ht⟩
  · intro a n c he
    simp only [Value.slice.injEq] at he
    omega
  · intro a n c he
    simp only [Value.slice.injEq] at he
    omega
/-- how the search from a row on ends -/
def EndS (X : Nat → Prop) (x : Nat × List Nat × Nat) (e : Ending) (w' : World) : Prop :=
  (x.1 = 1 ∧ e = .returned (.tuple #[])) ∨ (x.1 = 0 ∧ ∃ v, e = .panicked [{ v := .iface 77 v, recovered := false }] ∧ RdX X w' v (nats x.2.1) ∧ CapV v) ∨
    (x.1 = 2 ∧ e = .panicked [{ v := .iface 79 (.agg #[]), recovered := false }])
theorem RdX.only {X s : Nat → Prop} {w w' : World} {v : Value} {xs : List Value} (h : RdX X w v xs) (ho : Only s w w') (hs : ∀ k, s k → X k) : RdX X w' v xs :=
  Kept.rd (X := X) (X' := X) ⟨ho.size, fun k hk hx => ho.block k hk (fun h => hx (hs k h)), fun _ h => .inl h⟩ h
theorem RdX.of_row {X : Nat → Prop} {B : Nat} {w : World} {e : TypeId} {v : Value} {n : Nat} {xs : List Value} (h : w.ownsRow B e 1 v n xs) (hX : ∀ k, X k → k < B) : RdX X w v xs := by
  rcases Rd.of_row h with h0 | ⟨h0, g, o, c, rfl, hc⟩
  · exact .inl h0
  · refine .inr ⟨h0, g, o, c, rfl, fun he => ?_, hc⟩
    have := (own_base h (k := g) rfl).1
    have := hX g he
    omega
set_option maxRecDepth 100000 in
set_option maxHeartbeats 4000000 in
theorem goOn_any (w0 : World) (b : Nat) (hv av : Value) (h : List Ev) (who c B : Nat) (E : Env w0 b hv av h who c B) (X : Nat → Prop) (hXb : X b) : ∀ (f : Nat) (row : List Nat) (s : Nat) (rv : Value) (w : World), (∀ k, X k → k < w.heap.size) →
    Below w0.heap.size w0 w → At w b (srch hv av who c (B : Int) s) 50 → RdX X w rv (nats row) → SrcN rv → CapV rv → row.Nodup → (∀ k ∈ row, k < (tableS h).length) → s ≤ B → (leftS (tableS h) who row).length < f →
    Calls Tryd.prog 35 #[.pointer (some ⟨b, 0, none⟩), rv, .int .u32 ((leftW who row : Nat) : Int)] w fun e w' =>
      EndS X (fromS B (tableS h) who c f row s) e w' ∧ At w' b (srch hv av who c (B : Int) (fromS B (tableS h) who c f row s).2.2) 50 ∧ Only (fun k => k = b) w w' := by
  intro f
  induction f with
  | zero => intro row s rv w _ _ _ _ _ _ _ _ _ hf; omega
  | succ f ih =>
    intro row s rv w hX hb ha hr hsrc hcap hn hlt hs hf
    have h6 := table_six E.ok
    have hz := leftW_zero h6 E.who hlt
    rw [fromS]
    by_cases hl : leftS (tableS h) who row = []
    · rw [if_pos hl]
      rw [hz.2 hl]
      have HR := Lib.hid hr
      have HA := Lib.hid ha
      clear ih hf hl hz hb hr ha
      go_enter Tryd.func35, Tryd.ntmps35
      go_wp2_with fail
      exact ⟨rfl, .inr (.inl ⟨rfl, _, rfl, HR.out, hcap⟩), HA.out, Only.refl _ _⟩
    · rw [if_neg hl]
      have hne : ¬ leftW who row = 0 := fun hc => hl (hz.1 hc)
      have tq : (((leftW who row : Nat) : Int) == 0) = false := by rw [beq_eq_false_iff_ne]; omega
      have hw64 := Nat.lt_of_lt_of_le E.who (pow_le_64 h6)
      have hlf := leftW_lt hw64 row
      have hal : (afterS (tableS h)).length = (tableS h).length := afterS_len _
      have hav := E.aft.below hb (Nat.le_refl _)
      have HNX := Lib.hid (nextOfS_any av (afterS (tableS h)) (leftW who row) w hav (by omega) (fun a ha => by have := after_lt (tableS h) h6 a ha; omega) hlf)
      have HNF : Hid (∀ k, (nextS (afterS (tableS h)) (leftW who row) (afterS (tableS h)).length).testBit k = (decide (k ∈ leftS (tableS h) who row) && freeS (tableS h) (leftS (tableS h) who row) k)) := next_free h6 E.who hlt
      have hnl := nextS_le (afterS (tableS h)) (leftW who row) (afterS (tableS h)).length
      have HE := Lib.hid E
      have HIH := Lib.hid ih
      have HX := Lib.hid hX
      have HB := Lib.hid hb
      have HA := Lib.hid ha
      have HR := Lib.hid hr
      have HSR := Lib.hid hsrc
      have HN := Lib.hid hn
      have HLT := Lib.hid hlt
      have hcell1 : w.cell? ⟨b, 1, none⟩ = some av := ha.cell rfl
      have hb0 : b < w.heap.size := ha.lt
      have HSK : Hid (∀ p s', p < (tableS h).length → (decide (p ∈ leftS (tableS h) who row) && freeS (tableS h) (leftS (tableS h) who row) p) = false → loopS B (fromS B (tableS h) who c f) (tableS h) c (leftS (tableS h) who row) row (restS (tableS h) who row p) s' = loopS B (fromS B (tableS h) who c f) (tableS h) c (leftS (tableS h) who row) row (restS (tableS h) who row (p + 1)) s') := fun p s' hp hd => rest_skip hp hd
      have HST : Hid (∀ p s', p < (tableS h).length → (decide (p ∈ leftS (tableS h) who row) && freeS (tableS h) (leftS (tableS h) who row) p) = true → loopS B (fromS B (tableS h) who c f) (tableS h) c (leftS (tableS h) who row) row (restS (tableS h) who row p) s' = if s' = B then (2, [], s')
          else if okL (tableS h) c (row ++ [p]) = true then (if (fromS B (tableS h) who c f (row ++ [p]) (s' + 1)).1 = 1 then loopS B (fromS B (tableS h) who c f) (tableS h) c (leftS (tableS h) who row) row (restS (tableS h) who row (p + 1)) (fromS B (tableS h) who c f (row ++ [p]) (s' + 1)).2.2 else fromS B (tableS h) who c f (row ++ [p]) (s' + 1))
          else loopS B (fromS B (tableS h) who c f) (tableS h) c (leftS (tableS h) who row) row (restS (tableS h) who row (p + 1)) (s' + 1)) := fun p s' hp hd => rest_step hp hd
      have HZ : Hid (loopS B (fromS B (tableS h) who c f) (tableS h) c (leftS (tableS h) who row) row (restS (tableS h) who row 0) s = loopS B (fromS B (tableS h) who c f) (tableS h) c (leftS (tableS h) who row) row (leftS (tableS h) who row) s) := rfl
      have HEND : Hid (∀ s', loopS B (fromS B (tableS h) who c f) (tableS h) c (leftS (tableS h) who row) row (restS (tableS h) who row (tableS h).length) s' = (1, [], s')) := fun s' => by rw [rest_end]; rfl
      have HLL : Hid (∀ p, p ∈ leftS (tableS h) who row → (leftS (tableS h) who (row ++ [p])).length < f) := fun p hp => by have := left_len hp; omega
      obtain ⟨x0, hx0⟩ : ∃ x0, loopS B (fromS B (tableS h) who c f) (tableS h) c (leftS (tableS h) who row) row (leftS (tableS h) who row) s = x0 := ⟨_, rfl⟩
      rw [hx0] at HZ ⊢
      obtain ⟨va, vc, rfl⟩ := hav.len
      obtain ⟨ra, rc, rfl⟩ := hr.rd.len
      rw [u32s_len] at *
      rw [nats_len] at *
      rw [hal] at *
      clear hx0 hl hz hne hav ih hX hb ha hr hsrc hn hlt hf E
      generalize nextS (afterS (tableS h)) (leftW who row) (tableS h).length = nx at *
      go_enter Tryd.func35, Tryd.ntmps35
      go_wp2_with (go_at_call 54; refine HNX.out.mono ?_; rintro e w1 ⟨rfl, hw1⟩; obtain rfl : w = w1 := hw1.symm; clear HNX)
      go_loopw [24] (fun x wr => ∃ p s' : Nat, p ≤ (tableS h).length ∧ x = .int .i64 p ∧ s' ≤ B ∧ Hid (loopS B (fromS B (tableS h) who c f) (tableS h) c (leftS (tableS h) who row) row (restS (tableS h) who row p) s' = x0) ∧ Hid (At wr b (srch hv (.slice va (tableS h).length vc) who c (B : Int) s') 50) ∧ Hid (Only (fun k => k = b) w wr)) (fun x _ => (tableS h).length - (intOf x).toNat)
      case atStart => exact ⟨0, s, by omega, rfl, hs, HZ, HA, Only.refl _ _⟩
      case round =>
        clear HA HZ
        obtain ⟨p, s', hp, rfl, hs', HT, HA, HO⟩ := hrel
        by_cases hlp : p < (tableS h).length
        · have hpb := serBit_any p (by omega)
          have hlt3 : 2 ^ p < 4294967296 := Nat.pow_lt_pow_right (a := 2) (m := p) (n := 32) (by decide) (by omega)
          have hand := u32_and_nat nx (2 ^ p) (by omega) hlt3
          have hano := u32_andNot_nat (leftW who row) (2 ^ p) (by omega) hlt3
          have hap := and_pow2 nx p
          have hpos : 0 < 2 ^ p := Nat.two_pow_pos p
          have hln : leftW who row &&& (4294967295 - 2 ^ p) = leftW who (row ++ [p]) := (leftW_snoc who row p).symm
          rw [hln] at hano
          obtain ⟨pw, hpw⟩ : ∃ pw, 2 ^ p = pw := ⟨_, rfl⟩
          rw [hpw] at hpb hlt3 hand hano hap hpos
          clear hpw hln
          cases hbt : nx.testBit p with
          | false =>
            rw [hbt, if_neg (by decide)] at hap
            rw [hap] at hand
            have HT2 := HT.out
            rw [HSK.out p s' hlp (by rw [← HNF.out p]; exact hbt)] at HT2
            have HT3 := Lib.hid HT2
            clear HT HT2 hap hbt hano
            go_wp2_with (go_at_call 33; refine (hpb _).mono ?_; rintro e w3 ⟨rfl, rfl⟩)
            go_roundw
            case rel => exact ⟨p + 1, s', by omega, by go_num, hs', HT3, HA, HO⟩
            case measure => simp [intOf]; omega
          | true =>
            rw [hbt, if_pos rfl] at hap
            rw [hap] at hand
            have HFR := Lib.hid ((HNF.out p).symm.trans hbt)
            have HT2 := HT.out
            rw [HST.out p s' hlp HFR.out] at HT2
            have tz : ((pw : Int) == 0) = false := by rw [beq_eq_false_iff_ne]; omega
            clear HT hap hbt
            by_cases hsB : s' = B
            · rw [if_pos hsB] at HT2
              subst hsB
              have HT3 := Lib.hid HT2
              clear HT2 hano
              have HSP := Lib.hid (step_spent b _ _ who c s' wr HA.out)
              go_wp2_with (go_at_call 33; refine (hpb _).mono ?_; rintro e w2 ⟨rfl, hw2⟩; rw [hw2]; clear hw2)
              refine HSP.out.mono ?_
              rintro e w3 ⟨rfl, m, hw3⟩
              refine ⟨rfl, .inr (.inr ⟨by rw [← HT3.out], rfl⟩), ?_, ?_⟩
              · rw [← HT3.out, hw3]
                exact HA.out
              · rw [hw3]
                exact HO.out.drewN m
            · rw [if_neg hsB] at HT2
              have HT3 := Lib.hid HT2
              have hsB2 : s' < B := by omega
              have HSP := Lib.hid (step_goes b _ _ who c B s' wr HA.out hsB2 HE.out.bud)
              have hbw := HE.out.blk
              clear HT2 hsB
              go_wp2_with (go_at_call 33; refine (hpb _).mono ?_; rintro e w2 ⟨rfl, hw2⟩; rw [hw2]; clear hw2)
              refine HSP.out.mono ?_
              rintro e w3 ⟨rfl, m, hw3⟩
              have HA3 : Hid (At w3 b (srch hv (.slice va (tableS h).length vc) who c (B : Int) (s' + 1)) 50) := by
                rw [hw3]
                exact (show At (wr.drewN m) b _ _ from HA.out).set 5 _
              have HO3 : Hid (Only (fun k => k = b) w w3) := by
                rw [hw3]
                exact (HO.out.drewN m).setCell (fun _ => rfl) _
              have HR3 := Lib.hid (HR.out.only HO3.out (fun k hk => by rw [hk]; exact hXb))
              have hsz3 := HO3.out.size
              have hb3 : b < w3.heap.size := HA3.out.lt
              have HBX := Lib.hid (((Below.refl w3.heap.size w3).alloc (Nat.le_refl _) (.cells #[.int .i64 (p : Int)] 3)).alloc (by simp) (.cells #[.slice ra row.length rc, .slice (some ⟨w3.heap.size, 0, none⟩) 1 1] 24))
              have hat1 : At ((w3.alloc (.cells #[.int .i64 (p : Int)] 3)).alloc (.cells #[.slice ra row.length rc, .slice (some ⟨w3.heap.size, 0, none⟩) 1 1] 24)) w3.heap.size #[.int .i64 (p : Int)] 3 := (At.new w3 #[.int .i64 (p : Int)] 3).alloc _
              have hat2 : At ((w3.alloc (.cells #[.int .i64 (p : Int)] 3)).alloc (.cells #[.slice ra row.length rc, .slice (some ⟨w3.heap.size, 0, none⟩) 1 1] 24)) (w3.heap.size + 1) #[.slice ra row.length rc, .slice (some ⟨w3.heap.size, 0, none⟩) 1 1] 24 := by
                have := At.new (w3.alloc (.cells #[.int .i64 (p : Int)] 3)) #[.slice ra row.length rc, .slice (some ⟨w3.heap.size, 0, none⟩) 1 1] 24
                rwa [World.size_alloc] at this
              have HCC := Lib.hid (concatI_any (w3.heap.size + 1) (.slice ra row.length rc) (.slice (some ⟨w3.heap.size, 0, none⟩) 1 1) row [p] _ (hat2.cell rfl) (hat2.cell rfl) ((HR3.out.below HBX.out).rd) (.inr ⟨by simp [nats], w3.heap.size, 0, 1, by simp [nats], fun i u hu => by
                cases i with
                | zero => simp [nats] at hu; subst hu; exact hat1.cell rfl
                | succ i => simp [nats] at hu⟩) HSR.out (.inr ⟨_, _, _, rfl⟩) (by have := nodup_le row (List.range (tableS h).length) HN.out (fun x hx => List.mem_range.2 (HLT.out x hx)); rw [List.length_range] at this; omega) (by simp) (by simp))
              clear hw3 HA HO HSP hat1 hat2
              go_wp2_with fail
              refine HCC.out.mono ?_
              rintro e w4 ⟨v4, rfl, ho4, hb4⟩
              have HB34 := Lib.hid (HBX.out.trans (hb4.mono HBX.out.size))
              have HA4 := Lib.hid (HA3.out.below HB34.out hb3)
              have HO4 := Lib.hid (HO3.out.trans (t := fun _ => False) (Only.of_below HB34.out) (fun _ _ hf => hf.elim))
              have HR4 := Lib.hid (RdX.of_row ho4 (X := X) (fun k hk => by have := HBX.out.size; have := HX.out k hk; omega))
              have HS4 := Lib.hid (SrcN.of_row ho4)
              have HC4 := Lib.hid (CapV.of_row ho4)
              obtain ⟨n4, hn4⟩ : ∃ n4, (row ++ [p]).length = n4 := ⟨_, rfl⟩
              rw [hn4] at ho4
              obtain ⟨a4, c4, rfl⟩ := row_slice ho4
              clear hn4
              have hmem : p ∈ leftS (tableS h) who row := by
                have h1 := HFR.out
                rw [Bool.and_eq_true, decide_eq_true_eq] at h1
                exact h1.1
              have hnot := (left_mem.1 hmem).2.2
              have HN4 : Hid (row ++ [p]).Nodup := List.nodup_append.2 ⟨HN.out, by simp, fun x hx y hy => by
                rw [List.mem_singleton] at hy
                subst hy
                rintro rfl
                exact hnot hx⟩
              have HLT4 : Hid (∀ k ∈ row ++ [p], k < (tableS h).length) := fun k hk => by
                rcases List.mem_append.1 hk with hk | hk
                · exact HLT.out k hk
                · rw [List.mem_singleton] at hk; omega
              have HB04 := Lib.hid (HB.out.trans ((HO4.out.below (B := w0.heap.size) HB.out.size (fun k _ hk => by omega))))
              have HIL := Lib.hid (isLegal_any w0 b hv _ h who c B (s' + 1) HE.out _ (row ++ [p]) w4 HB04.out HA4.out HR4.out.rd HLT4.out HN4.out)
              have HLF := Lib.hid (HLL.out p hmem)
              clear ho4 hb4 HCC HBX HA3 HO3 HR3 hsz3 hb3 hmem hnot HB34 HFR
              cases hok : okL (tableS h) c (row ++ [p]) with
              | false =>
                rw [hok] at HIL
                have HT5 := HT3.out
                rw [hok, if_neg (by decide)] at HT5
                have HT6 := Lib.hid HT5
                clear HT5 HT3 hok
                go_wp2_with fail
                refine HIL.out.mono ?_
                rintro e w5 ⟨rfl, hb5⟩
                have HA5 := Lib.hid (HA4.out.below hb5 HA4.out.lt)
                have HO5 := Lib.hid (HO4.out.trans (t := fun _ => False) (Only.of_below hb5) (fun _ _ hf => hf.elim))
                clear hb5 HIL HA4 HO4 HR4 HS4 HB04
                go_wp2_with fail
                go_roundw
                case rel => exact ⟨p + 1, s' + 1, by omega, by go_num, by omega, HT6, HA5, HO5⟩
                case measure => simp [intOf]; omega
              | true =>
                rw [hok] at HIL
                have HT5 := HT3.out
                rw [hok, if_pos rfl] at HT5
                have HT6 := Lib.hid HT5
                clear HT5 HT3 hok
                go_wp2_with fail
                refine HIL.out.mono ?_
                rintro e w5 ⟨rfl, hb5⟩
                have HA5 := Lib.hid (HA4.out.below hb5 HA4.out.lt)
                have HO5 := Lib.hid (HO4.out.trans (t := fun _ => False) (Only.of_below hb5) (fun _ _ hf => hf.elim))
                have HR5 := Lib.hid (HR4.out.below hb5)
                have HB05 := Lib.hid (HB04.out.trans (hb5.mono HB04.out.size))
                clear hb5 HIL HA4 HO4 HR4 HB04
                have HGO := Lib.hid (HIH.out (row ++ [p]) (s' + 1) _ w5 (fun k hk => Nat.lt_of_lt_of_le (HX.out k hk) HO5.out.size) HB05.out HA5.out HR5.out HS4.out HC4.out HN4.out HLT4.out (by omega) HLF.out)
                have HANS := Lib.hid (from_ans (B := B) (l := tableS h) (who := who) (c := c) f (row ++ [p]) (s' + 1) (by omega) HLF.out)
                obtain ⟨x, hx⟩ : ∃ x, fromS B (tableS h) who c f (row ++ [p]) (s' + 1) = x := ⟨_, rfl⟩
                rw [hx] at HGO HANS HT6
                clear hx HA5 HR5 HB05 HS4
                go_wp2_with (go_at_call 33; refine (hpb _).mono ?_; rintro e w2 ⟨rfl, hw2⟩; rw [hw2]; clear hw2)
                refine HGO.out.mono ?_
                rintro e w6 ⟨hend, ha6, ho6⟩
                have HA6 := Lib.hid ha6
                have HO6 := Lib.hid (HO5.out.trans ho6 (fun _ _ hf => hf))
                clear ha6 ho6 HGO HO5
                rcases hend with ⟨h1, rfl⟩ | ⟨h1, v6, rfl, hr6, hc6⟩ | ⟨h1, rfl⟩
                · have HT7 := HT6.out
                  rw [if_pos h1] at HT7
                  have HT8 := Lib.hid HT7
                  have hle := HANS.out.le
                  clear HT7 HT6 h1 HANS
                  go_wp2_with fail
                  go_roundw
                  case rel => exact ⟨p + 1, x.2.2, by omega, by go_num, hle, HT8, HA6, HO6⟩
                  case measure => simp [intOf]; omega
                · have HT7 := HT6.out
                  rw [if_neg (by omega)] at HT7
                  subst HT7
                  go_wp2_with fail
                  exact ⟨rfl, .inr (.inl ⟨h1, _, rfl, hr6, hc6⟩), HA6.out, HO6.out⟩
                · have HT7 := HT6.out
                  rw [if_neg (by omega)] at HT7
                  subst HT7
                  go_wp2_with fail
                  exact ⟨rfl, .inr (.inr ⟨h1, rfl⟩), HA6.out, HO6.out⟩
        · obtain rfl : p = (tableS h).length := by omega
          have HT2 := HT.out
          rw [HEND.out] at HT2
          have HT3 := Lib.hid HT2
          clear HT2 HT
          go_wp2
          exact bodyPost_end (results_none rfl _ _ _) rfl ⟨.inl ⟨by rw [← HT3.out], rfl⟩, by rw [← HT3.out]; exact HA.out, HO.out⟩
end Go.Proofs.YtmnblljenobofaaDoor
