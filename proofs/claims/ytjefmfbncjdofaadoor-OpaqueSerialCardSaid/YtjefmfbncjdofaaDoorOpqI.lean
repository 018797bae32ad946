/- The walk of OpaqueSerial. -/
import Derived.Test.YtjefmfbncjdofaaDoorMg24
import Derived.Test.YtjefmfbncjdofaaDoorMg22
import Derived.Test.YtjefmfbncjdofaaDoorMg21
import Derived.Test.YtjefmfbncjdofaaDoorMg20
import Derived.Test.YtjefmfbncjdofaaDoorMg12
namespace Go.Proofs.YtjefmfbncjdofaaDoor.WPlain
end Go.Proofs.YtjefmfbncjdofaaDoor.WPlain
namespace Go.Proofs.YtjefmfbncjdofaaDoor.QPlain
end Go.Proofs.YtjefmfbncjdofaaDoor.QPlain
namespace Go.Proofs.YtjefmfbncjdofaaDoor.RPlain
end Go.Proofs.YtjefmfbncjdofaaDoor.RPlain
namespace Go.Proofs.YtjefmfbncjdofaaDoor
open Go.RowKit WPlain QPlain RPlain

def loB (l : List Tx) (k : Nat) : Bool := match l[k]? with | some X => decide (X.s = 2) | none => false
theorem loB_at {l : List Tx} {k : Nat} (hk : k < l.length) : loB l k = decide (l[k].s = 2) := by
  unfold loB
  rw [List.getElem?_eq_getElem hk]
theorem serial_is {h : List Ev} (h0 : (checkS h).2 = 0) (hs : serP h) :
    errL h ((List.range (tableS h).length).map fun x : Nat => (x : Int)) = 0 ∧ legR h ((List.range (tableS h).length).map fun x : Nat => (x : Int)) (bitsN (loB (tableS h)) (tableS h).length) ≤ (tableS h).length ∧
      (legR h ((List.range (tableS h).length).map fun x : Nat => (x : Int)) (bitsN (loB (tableS h)) (tableS h).length) = (tableS h).length → (opaqueS 125184 h).1 = 0) := by
  obtain ⟨e1, e2⟩ := legR_row h0 (row := List.range (tableS h).length) (fun k hk => List.mem_range.1 hk) List.nodup_range (bitsN (loB (tableS h)) (tableS h).length)
  refine ⟨e1, ?_, fun hl => ser_opaque h0 hs ?_⟩
  · have := legR_le h ((List.range (tableS h).length).map fun x : Nat => (x : Int)) (bitsN (loB (tableS h)) (tableS h).length)
    simpa using this
  · rw [List.length_range] at e2
    have := e2.1 hl
    unfold okL at this
    rw [decide_eq_true_eq, List.length_range] at this
    exact this
set_option maxRecDepth 100000 in
set_option maxHeartbeats 8000000 in
theorem opqSerial_walk (a : Option Addr) (n m c : Nat) (h : List Ev) (w : World) (hK : HasK w) (hn : n ≤ c) (HAE : Hid ((min (n : Int) 62).toNat = m)) (hmn : m ≤ n) (hv : Evs w (.slice a m c) h) (h1 : h.length = m) (hm1 : m ≤ 62) :
    Calls Tryd.prog 5 #[.slice a n c] w fun e w' => e = .returned (.bool true) ∧ Below w.heap.size w w' := by
  obtain ⟨j0, hj0, hy0, hy1', hy2'⟩ := info_parts infoN11
  have HALV : Hid (∀ W, Below w.heap.size w W → Calls Tryd.prog 10 #[] W fun e w' => e = .returned (.bool true) ∧ Below W.heap.size W w') := fun W hW => aliveO_any W (hK.later hW (Nat.le_refl _))
  have HSER := Lib.hid (serial_any _ h w hK hv (by omega))
  have HTAB : Hid (∀ W, Below w.heap.size w W → Calls Tryd.prog 15 #[.slice a m c] W fun e w' => ∃ v', e = .returned (.tuple #[v', .int .i64 ((checkS h).2 : Nat)]) ∧ Txs w' v' (if (checkS h).2 = 0 then tableS h else []) ∧ Below W.heap.size W w') := fun W hW => table_any _ h W (hK.later hW (Nat.le_refl _)) (hv.below hW (Nat.le_refl _)) (by omega)
  have HCHK : Hid (∀ W, Below w.heap.size w W → Calls Tryd.prog 7 #[.slice a m c, .int .i64 125184] W fun e w' => ∃ rv, e = .returned (.tuple #[chkV (opqF h 125184).1 (opqF h 125184).2.1 (opqF h 125184).2.2.1 rv (opqF h 125184).2.2.2.2, .int .i64 ((srchE h 125184 : Nat) : Int)]) ∧ Rd w' rv (nats (opqF h 125184).2.2.2.1) ∧ Below W.heap.size W w') := fun W hW => by
    have h2 := opaque_any a c h 125184 W (hK.later hW (Nat.le_refl _)) (by rw [h1]; exact hv.below hW (Nat.le_refl _)) (by omega) (by omega)
    rw [h1] at h2
    refine h2.mono ?_
    rintro e w' ⟨rv, rfl, hr, -, hb⟩
    exact ⟨rv, rfl, hr.rd, hb⟩
  have HLEG : Hid (∀ (rv : Value) (row : List Int) (nc : Nat) (W : World), Below w.heap.size w W → Rd W rv (ints row) → row.length ≤ 65536 → nc < 4294967296 → Calls Tryd.prog 16 #[.slice a m c, rv, .int .u32 (nc : Int)] W fun e w' => e = .returned (.tuple #[.int .i64 ((legR h row nc : Nat) : Int), .int .i64 ((errL h row : Nat) : Int)]) ∧ Below W.heap.size W w') := fun rv row nc W hW hr hrl hnc =>
    legal_any _ rv h row nc W (hK.later hW (Nat.le_refl _)) (hv.below hW (Nat.le_refl _)) (by omega) hr hrl hnc
  obtain ⟨er, her⟩ : ∃ er, (checkS h).2 = er := ⟨_, rfl⟩
  rw [her] at HSER HTAB
  have HER := Lib.hid her
  clear hK hv h1 her
  go_enter Tryd.func5, Tryd.ntmps5
  go_upto_region 2 with fail
  rw [HAE.out]
  go_wp2_with fail
  refine HSER.out.mono ?_
  rintro e w1 ⟨r, rfl, hr, hb1⟩
  have HR := Lib.hid hr
  have HB1 := Lib.hid hb1
  clear hr hb1 HSER
  by_cases h0 : er = 0
  · subst h0
    cases r with
    | false =>
      clear HR HTAB HCHK HLEG HER
      go_wp2_with (go_at_call 10; refine (HALV.out _ HB1.out).mono ?_; rintro e w7 ⟨rfl, hb7⟩; have HB7 := Lib.hid (HB1.out.trans (hb7.mono HB1.out.size)); clear hb7)
      go_ret
      exact ⟨rfl, HB7.out⟩
    | true =>
      have hser := (HR.out.1 rfl).2
      have h6 := table_six HER.out
      obtain ⟨s1, s2, s3⟩ := serial_is HER.out hser
      have hE : srchE h 125184 = 0 := by unfold srchE; rw [if_pos HER.out, if_neg (by decide)]
      have hF : opqF h 125184 = opaqueS 125184 h := opqF_of hE
      rw [hE, hF] at HCHK
      obtain ⟨x, hx⟩ : ∃ x, opaqueS 125184 h = x := ⟨_, rfl⟩
      rw [hx] at s3 HCHK
      obtain ⟨l, hl⟩ : ∃ l, tableS h = l := ⟨_, rfl⟩
      simp only [if_true] at HTAB
      rw [hl] at HTAB s1 s2 s3 h6
      have HS1 := Lib.hid s1
      have HS2 := Lib.hid s2
      have HS3 := Lib.hid s3
      unfold chkV at HCHK
      clear HR hser s1 s2 s3 hE hF hx hl HER
      go_wp2_with fail
      refine (HTAB.out w1 HB1.out).mono ?_
      rintro e w2 ⟨v2, rfl, ht2, hb2⟩
      obtain ⟨la, lc, rfl⟩ := ht2.len
      have HT2 := Lib.hid ht2
      have HB2 := Lib.hid (HB1.out.trans (hb2.mono HB1.out.size))
      have hll : l.length ≤ 6 := h6
      clear ht2 hb2 HB1 HTAB h6
      go_wp2_with fail
      go_loopw [7, 8, 43] (fun z y x wr => ∃ k : Nat, k ≤ l.length ∧ x = .int .i64 k ∧ z = .int .u32 ((bitsN (loB l) k : Nat) : Int) ∧ Hid (wr.ownsRow w2.heap.size 3 1 y k (nats (List.range k))) ∧ Hid (Below w2.heap.size w2 wr)) (fun _ _ x _ => l.length - (intOf x).toNat)
      case atStart => exact ⟨0, by omega, rfl, rfl, World.ownsRow_nil _ _ _ _, Below.refl _ _⟩
      case round =>
        obtain ⟨k, hk, rfl, rfl, HRW, HBR⟩ := hrel
        by_cases hlt : k < l.length
        · have ht := HT2.out.below HBR.out (Nat.le_refl _)
          obtain ⟨b, o, c', he⟩ := txs_open ht (by omega)
          obtain ⟨rfl, rfl⟩ : la = some ⟨b, o, none⟩ ∧ lc = c' := by simpa using he
          clear he
          obtain ⟨ua, x0, x1, x2, x3, x4, qa⟩ := ht.get k hlt
          obtain ⟨uad, uc, rfl, -⟩ := qa.len
          have hbs := HBR.out.size
          obtain ⟨ma, mc, hm⟩ := row_slice HRW.out
          subst hm
          have hpl := loB_at hlt
          have HNA : Hid (nats (List.range k) ++ [.int .i64 (k : Int)] = nats (List.range (k + 1))) := by unfold Hid; rw [List.range_succ]; simp [nats]
          have hblt : bitsN (loB l) k < 4294967296 := Nat.lt_of_lt_of_le (bitsN_lt _ _) (Nat.pow_le_pow_right (n := 2) (i := k) (j := 32) (by decide) (by omega))
          generalize l[k] = X at *
          clear ht qa
          obtain ⟨uo, huo⟩ : ∃ z, X.o.length = z := ⟨_, rfl⟩
          rw [huo] at x4
          clear huo
          go_upto_region 11 with fail
          obtain ⟨w3, hw3⟩ : ∃ w3, wr.alloc (.cells #[.int .i64 X.n, .int .i64 X.f, .int .i64 X.l, .int .i64 X.s, .slice uad uo uc] 48) = w3 := ⟨_, rfl⟩
          rw [hw3]
          have ha10 : At w3 wr.heap.size #[.int .i64 X.n, .int .i64 X.f, .int .i64 X.l, .int .i64 X.s, .slice uad uo uc] 48 := by rw [← hw3]; exact At.new wr _ _
          have hb3 : Below wr.heap.size wr w3 := by rw [← hw3]; exact (Below.refl _ wr).alloc (Nat.le_refl _) _
          have hR3 : w3.ownsRow w2.heap.size 3 1 (.slice ma k mc) k (nats (List.range k)) := by rw [← hw3]; exact HRW.out.alloc _
          have HB3 := Lib.hid (HBR.out.trans (hb3.mono hbs))
          have HOB : Hid (∀ j, (Value.slice ma k mc).ownBlock = some j → w2.heap.size ≤ j ∧ j < wr.heap.size) := fun j hj => own_base HRW.out hj
          have HR3 := Lib.hid hR3
          have HA10 := Lib.hid ha10
          have hs3 := hb3.size
          clear hw3 ha10 hb3 hR3 x0 x1 x2 x3 x4 HRW HBR
          have hN10 : ∃ z, wr.heap.size = z := ⟨_, rfl⟩
          obtain ⟨N10, hN10⟩ := hN10
          rw [hN10] at HA10 HOB ⊢
          clear hN10
          go_wp2_with (at_builtin; refine wpList_append_own _ rfl _ _ 24 rfl w2.heap.size 3 j0 (.int .i64 0) 1 8 Tryd.underlying24 hj0 hy0 hy1' hy2' rfl (by decide) (.slice ma k mc) k (nats (List.range k)) rfl (HR3.out.alloc _) ⟨w3.heap.size, 0, none⟩ 1 1 [.int .i64 (k : Int)] rfl rfl (cell_one_at w3 _ _) (one_int _ _) (by unfold maxLen; omega) (by omega) (by simp; omega) ?_)
          intro v4 w4 ho4 hg4 _
          have HB4 := Lib.hid ((HB3.out.alloc (by omega) _).grown hg4 (by simp; omega) (fun j hj => (HOB.out j hj).1))
          have ha10 : At w4 N10 #[.int .i64 X.n, .int .i64 X.f, .int .i64 X.l, .int .i64 X.s, .slice uad uo uc] 48 := (HA10.out.alloc _).grown hg4 (fun e => by have := (HOB.out N10 e.symm).2; omega)
          rw [HNA.out] at ho4
          have HO4 := Lib.hid ho4
          have p3 : w4.cell? ⟨N10, 3, none⟩ = some (.int .i64 X.s) := ha10.cell rfl
          clear ho4 hg4 ha10 HA10 HR3 HB3 HOB HNA
          by_cases hs : X.s = 2
          · have hst : decide (X.s = 2) = true := by simpa using hs
            rw [hst] at hpl
            have HBY := Lib.hid (bitsN_yes hpl)
            have hkm := pow_u32 (show k < 32 by omega)
            have hlt3 : 2 ^ k < 4294967296 := Nat.pow_lt_pow_right (a := 2) (m := k) (n := 32) (by decide) (by omega)
            obtain ⟨pw, hpw⟩ : ∃ pw, 2 ^ k = pw := ⟨_, rfl⟩
            rw [hpw] at hkm hlt3 HBY
            have hor := u32_or_nat (bitsN (loB l) k) pw hblt hlt3
            rw [← HBY.out] at hor
            have tneg : decide ((k : Int) < 0) = false := by simp
            have ts : (X.s == 2) = true := by simp [hs]
            obtain ⟨b0, hb0⟩ : ∃ z, bitsN (loB l) k = z := ⟨_, rfl⟩
            obtain ⟨b1, hb1⟩ : ∃ z, bitsN (loB l) (k + 1) = z := ⟨_, rfl⟩
            have HB1 := Lib.hid hb1
            rw [hb0, hb1] at hor
            rw [hb0]
            clear hpw hpl hst hs HBY hblt hb0 hb1
            go_wp2_with fail
            go_roundw
            case rel => exact ⟨k + 1, by omega, by go_num, by rw [HB1.out], HO4, HB4⟩
            case measure => simp [intOf]; omega
          · have hst : decide (X.s = 2) = false := by simpa using hs
            rw [hst] at hpl
            have HBN := Lib.hid (bitsN_no hpl)
            have ts : (X.s == 2) = false := by rw [beq_eq_false_iff_ne]; exact hs
            clear hpl hst hs hblt
            go_wp2_with fail
            go_roundw
            case rel => exact ⟨k + 1, by omega, by go_num, by rw [HBN.out], HO4, HB4⟩
            case measure => simp [intOf]; omega
        · obtain rfl : k = l.length := by omega
          obtain ⟨ma, mc, hm⟩ := row_slice HRW.out
          subst hm
          have hrd : Rd wr (.slice ma l.length mc) (ints ((List.range l.length).map fun x : Nat => (x : Int))) := by
            rw [← nats_intsS]; exact Rd.of_row HRW.out
          have hbs := HB2.out.size
          have HBW := Lib.hid (HB2.out.trans (HBR.out.mono hbs))
          have hlb : bitsN (loB l) l.length < 4294967296 := Nat.lt_of_lt_of_le (bitsN_lt _ _) (Nat.pow_le_pow_right (n := 2) (i := l.length) (j := 32) (by decide) (by omega))
          have hlg := HLEG.out _ _ (bitsN (loB l) l.length) wr HBW.out hrd (by rw [List.length_map, List.length_range]; omega) hlb
          rw [HS1.out] at hlg
          have hs2 := HS2.out
          have hs3 := HS3.out
          obtain ⟨lg, hlgd⟩ : ∃ z, legR h ((List.range l.length).map fun x : Nat => (x : Int)) (bitsN (loB l) l.length) = z := ⟨_, rfl⟩
          rw [hlgd] at hlg hs2 hs3
          have HLG := Lib.hid hlg
          have HS3' := Lib.hid hs3
          obtain ⟨bl, hbl⟩ : ∃ z, bitsN (loB l) l.length = z := ⟨_, rfl⟩
          rw [hbl] at HLG ⊢
          obtain ⟨ln, hln⟩ : ∃ z, l.length = z := ⟨_, rfl⟩
          rw [hln] at HLG HS3' hs2 ⊢
          clear hlg hlgd hrd hlb HRW HBR HT2 HS1 HS2 HS3 HLEG hs3 hbl hln hk
          go_wp2_with fail
          refine HLG.out.mono ?_
          rintro e w4 ⟨rfl, hb4⟩
          have HB4 := Lib.hid (HBW.out.trans (hb4.mono HBW.out.size))
          clear hb4 HLG HBW
          go_wp2_with fail
          refine (HCHK.out w4 HB4.out).mono ?_
          rintro e w5 ⟨rv, rfl, hr5, hb5⟩
          obtain ⟨ra, rc, rfl⟩ := hr5.len
          obtain ⟨N13, hN13⟩ : ∃ z, w5.heap.size = z := ⟨_, rfl⟩
          obtain ⟨rn, hrn⟩ : ∃ z, (nats x.2.2.2.1).length = z := ⟨_, rfl⟩
          rw [hrn]
          obtain ⟨w6, hw6⟩ : ∃ z, w5.alloc (.cells #[.int .i64 (x.1 : Int), .int .i64 (x.2.1 : Int), .int .u32 (x.2.2.1 : Int), .slice ra rn rc, .int .i64 (x.2.2.2.2 : Int)] 26) = z := ⟨_, rfl⟩
          have ha13 : At w6 N13 #[.int .i64 (x.1 : Int), .int .i64 (x.2.1 : Int), .int .u32 (x.2.2.1 : Int), .slice ra rn rc, .int .i64 (x.2.2.2.2 : Int)] 26 := by
            rw [← hw6, ← hN13]; exact At.new w5 _ _
          have hb56 : Below w5.heap.size w5 w6 := by rw [← hw6]; exact (Below.refl _ w5).alloc (Nat.le_refl _) _
          have HB6 := Lib.hid (HB4.out.trans ((hb5.trans (hb56.mono hb5.size)).mono HB4.out.size))
          have HW6 := Lib.hid hw6
          have HA13 := Lib.hid ha13
          clear hr5 hb5 hb56 hrn hw6 ha13 HCHK
          go_upto_region 17 with fail
          rw [HW6.out]
          clear HW6
          by_cases hq : lg < ln
          · have tq : (lg : Int) < (ln : Int) := by omega
            clear hs2 HS3'
            go_wp2_with (go_at_call 10; refine (HALV.out _ HB6.out).mono ?_; rintro e w7 ⟨rfl, hb7⟩; have hs6 := HB6.out.size; have HB7 := Lib.hid (HB6.out.trans (hb7.mono hs6)); have HA7 := HA13.out.below hb7 HA13.out.lt; have p0 : w7.cell? ⟨N13, 0, none⟩ = some (.int .i64 (x.1 : Int)) := HA7.cell rfl; clear hb7)
            go_ret
            exact ⟨rfl, HB7.out⟩
          · have tq : ¬ (lg : Int) < (ln : Int) := by omega
            have hx0 : x.1 = 0 := HS3'.out (by omega)
            rw [hx0] at HA13
            clear hs2 HS3' hx0 hq
            go_wp2_with (go_at_call 10; refine (HALV.out _ HB6.out).mono ?_; rintro e w7 ⟨rfl, hb7⟩; have hs6 := HB6.out.size; have HB7 := Lib.hid (HB6.out.trans (hb7.mono hs6)); have HA7 := HA13.out.below hb7 HA13.out.lt; have p0 : w7.cell? ⟨N13, 0, none⟩ = some (.int .i64 ((0 : Nat) : Int)) := HA7.cell rfl; clear hb7)
            go_ret
            exact ⟨rfl, HB7.out⟩
  · have hrf : r = false := by
      cases r with
      | false => rfl
      | true => exact absurd (HR.out.1 rfl).1 h0
    subst hrf
    have te : ((er : Int) != 0) = true := by simp; omega
    clear HR HTAB HCHK HLEG HER h0
    go_wp2_with (go_at_call 10; refine (HALV.out _ HB1.out).mono ?_; rintro e w7 ⟨rfl, hb7⟩; have HB7 := Lib.hid (HB1.out.trans (hb7.mono HB1.out.size)); clear hb7)
    go_ret
    exact ⟨rfl, HB7.out⟩
theorem opqSerial_any (a : Option Addr) (n c : Nat) (h : List Ev) (w : World) (hK : HasK w) (hn : n ≤ c) (hv : Evs w (.slice a (min (n : Int) 62).toNat c) h) :
    Calls Tryd.prog 5 #[.slice a n c] w fun e w' => e = .returned (.bool true) ∧ Below w.heap.size w w' := by
  obtain ⟨m, hm⟩ : ∃ m, (min (n : Int) 62).toNat = m := ⟨_, rfl⟩
  rw [hm] at hv
  exact opqSerial_walk a n m c h w hK hn hm (by omega) hv hv.length.symm (by omega)
end Go.Proofs.YtjefmfbncjdofaaDoor
