/- The walks of package complete's bit, bitsOf, eachSubset with the closure that gathers, and Choices. -/
import Derived.Test.YtmnblljenobofaaDoorMg13
import Derived.Test.YtmnblljenobofaaDoorMg11
import Derived.Test.YtmnblljenobofaaDoorOrdE
import Derived.Test.YtmnblljenobofaaDoorMg12
import Derived.Test.YtmnblljenobofaaDoorTabF
import Derived.Test.YtmnblljenobofaaDoorMg5
namespace Go.Proofs.YtmnblljenobofaaDoor.WPlain
end Go.Proofs.YtmnblljenobofaaDoor.WPlain
namespace Go.Proofs.YtmnblljenobofaaDoor.QPlain
end Go.Proofs.YtmnblljenobofaaDoor.QPlain
namespace Go.Proofs.YtmnblljenobofaaDoor.RPlain
end Go.Proofs.YtmnblljenobofaaDoor.RPlain
namespace Go.Proofs.YtmnblljenobofaaDoor
open Go.RowKit WPlain QPlain RPlain

theorem bitC_any (k : Nat) (hk : k < 32) (w : World) : Calls Tryd.prog 38 #[.int .i64 (k : Int)] w fun e w' => e = .returned (.int .u32 ((2 ^ k : Nat) : Int)) ∧ w' = w := by
  go_enter Tryd.func38, Tryd.ntmps38
  go_wp2
  go_ret
  exact ⟨by rw [pow_u32 hk]; rfl, rfl⟩
theorem bitsN_yes {p : Nat → Bool} {k : Nat} (h : p k = true) : bitsN p (k + 1) = bitsN p k ||| 2 ^ k := by
  have h1 := bitsN_lt p k
  rw [show bitsN p (k + 1) = bitsN p k + (if p k = true then 2 ^ k else 0) from rfl, if_pos h]
  have := Nat.two_pow_add_eq_or_of_lt h1 1
  rw [Nat.mul_one] at this
  rw [Nat.add_comm, this, Nat.or_comm]
theorem bitsN_no {p : Nat → Bool} {k : Nat} (h : p k = false) : bitsN p (k + 1) = bitsN p k := by
  rw [show bitsN p (k + 1) = bitsN p k + (if p k = true then 2 ^ k else 0) from rfl, h]; rfl
set_option maxRecDepth 100000 in
set_option maxHeartbeats 1000000 in
theorem bitsOf_any (v : Value) (l : List Tx) (s : Int) (w : World) (hv : Txs w v l) (h6 : l.length ≤ 6) :
    Calls Tryd.prog 19 #[v, .int .i64 s] w fun e w' => e = .returned (.int .u32 ((stN l s : Nat) : Int)) ∧ Below w.heap.size w w' := by
  have HV := Lib.hid hv
  have HB0 := Lib.hid (Below.refl w.heap.size w)
  have HFIN : Hid (stN l s = bitsN (stB l s) l.length) := rfl
  obtain ⟨a, c, rfl⟩ := hv.len
  clear hv
  go_enter Tryd.func19, Tryd.ntmps19
  go_wp2_with fail
  go_loopw [5, 10] (fun y x wr => ∃ k : Nat, k ≤ l.length ∧ x = .int .i64 k ∧ y = .int .u32 ((bitsN (stB l s) k : Nat) : Int) ∧ Hid (Below w.heap.size w wr)) (fun _ x _ => l.length - (intOf x).toNat)
  case atStart => exact ⟨0, by omega, rfl, rfl, HB0⟩
  case round =>
    clear HB0
    obtain ⟨k, hk, rfl, rfl, HB⟩ := hrel
    by_cases hlt : k < l.length
    · have hT := HV.out.below HB.out (Nat.le_refl _)
      obtain ⟨b, o, c', he⟩ := hT.opened (by omega)
      simp only [Value.slice.injEq] at he
      obtain ⟨rfl, -, rfl⟩ := he
      obtain ⟨u, x0, x1, x2, x3, x4, q⟩ := hT.get k hlt
      obtain ⟨ua, uc, rfl, -⟩ := q.len
      have hst : stB l s k = decide (l[k].s = s) := by unfold stB; rw [List.getElem?_eq_getElem hlt]
      have hlt2 : bitsN (stB l s) k < 4294967296 := Nat.lt_of_lt_of_le (bitsN_lt _ _) (Nat.pow_le_pow_right (n := 2) (i := k) (j := 32) (by decide) (by omega))
      have hlt3 : 2 ^ k < 4294967296 := Nat.pow_lt_pow_right (a := 2) (m := k) (n := 32) (by decide) (by omega)
      have hor := u32_or_nat _ _ hlt2 hlt3
      have hkb := bitC_any k (by omega)
      have hyes := bitsN_yes (p := stB l s) (k := k)
      have hno := bitsN_no (p := stB l s) (k := k)
      rw [hst] at hyes hno
      have HB2 := Lib.hid (HB.out.alloc HB.out.size (.cells #[.int .i64 l[k].n, .int .i64 l[k].f, .int .i64 l[k].l, .int .i64 l[k].s, .slice ua l[k].o.length uc] 65))
      have hA := At.new wr #[.int .i64 l[k].n, .int .i64 l[k].f, .int .i64 l[k].l, .int .i64 l[k].s, .slice ua l[k].o.length uc] 65
      generalize l[k] = X at *
      have y3 := hA.cell (i := 3) rfl
      obtain ⟨pw, hpw⟩ : ∃ pw, 2 ^ k = pw := ⟨_, rfl⟩
      rw [hpw] at hkb hlt3 hor hyes
      clear hpw hT q hst hA HB
      by_cases hs : X.s = s
      · have HY := Lib.hid (hyes (by simp [hs]))
        have tq : ((X.s : Int) == s) = true := by simp [hs]
        clear hyes hno hs
        generalize bitsN (stB l s) k = ac at *
        go_wp2_with (go_at_call 38; refine (hkb _).mono ?_; rintro e w3 ⟨rfl, rfl⟩)
        go_roundw
        case rel => exact ⟨k + 1, by omega, by go_num, by rw [HY.out], HB2⟩
        case measure => simp [intOf]; omega
      · have HY := Lib.hid (hno (by simp [hs]))
        have tq : ((X.s : Int) == s) = false := by simp [hs]
        clear hyes hno hs hkb hor
        generalize bitsN (stB l s) k = ac at *
        go_wp2
        go_roundw
        case rel => exact ⟨k + 1, by omega, by go_num, by rw [HY.out], HB2⟩
        case measure => simp [intOf]; omega
    · obtain rfl : k = l.length := by omega
      rw [← HFIN.out]
      go_wp2
      go_ret
      exact ⟨rfl, HB.out⟩
/-- what the closure holds: what must be, and what is gathered -/
structure Gat (B D C A lo : Nat) (L : List Nat) (w0 w : World) : Prop where
  lo : w.cell? ⟨C, 0, none⟩ = some (.int .u32 (lo : Int))
  all : ∃ v, At w A #[v] 31 ∧ w.ownsRow D 23 1 v L.length (u32s L)
  dlt : D ≤ w.heap.size
  bel : Below B w0 w
theorem u32s_snoc (L : List Nat) (x : Nat) : u32s L ++ [.int .u32 (x : Int)] = u32s (L ++ [x]) := by simp [u32s]
set_option maxRecDepth 100000 in
theorem gather9_any (B D C A lo x : Nat) (L : List Nat) (w0 w : World) (hG : Gat B D C A lo L w0 w) (hCA : C < A) (hAD : A < D) (hBA : B ≤ A) (hBw : B ≤ w0.heap.size) (hx : x < 4294967296) (hlo : lo < 4294967296) (hL : L.length ≤ 65536) :
    Calls Tryd.prog 21 #[.int .u32 (x : Int), .pointer (some ⟨A, 0, none⟩), .pointer (some ⟨C, 0, none⟩)] w fun e w' => e = .returned (.tuple #[]) ∧ Gat B D C A lo (L ++ [lo ||| x]) w0 w' := by
  obtain ⟨i0, hi0, hz0, hz1, hz2⟩ := info_parts infoU
  obtain ⟨g1, ⟨v, g2, g3⟩, g4, g5⟩ := hG
  have hc := g2.cell (i := 0) (v := v) rfl
  have hf := g2.free 0
  have hor := u32_or_nat _ _ hlo hx
  have HG2 := Lib.hid g2
  have HG3 := Lib.hid g3
  have HG5 := Lib.hid g5
  obtain ⟨ra, rc, rfl⟩ := row_slice g3
  clear g2 g3 g5
  generalize lo ||| x = z at *
  obtain ⟨M, hM⟩ : ∃ M, L ++ [z] = M := ⟨_, rfl⟩
  rw [hM]
  have HM := Lib.hid hM
  clear hM
  go_enter Tryd.func21, Tryd.ntmps21
  go_wp2_with (at_builtin; go_must (refine wpList_append_own _ rfl _ _ 31 rfl D 23 i0 (.int .u32 0) 1 4 Tryd.underlying31 hi0 hz0 hz1 hz2 rfl (by decide) (.slice ra L.length rc) L.length (u32s L) rfl (HG3.out.alloc _) ⟨w.heap.size, 0, none⟩ 1 1 [.int .u32 (z : Int)] rfl rfl ?c1 ?c2 ?c3 ?c4 ?c5 ?_))
  case c1 => exact cell_one_at w _ _
  case c2 => exact one_int _ _
  case c3 => unfold maxLen; omega
  case c4 => omega
  case c5 => simp; omega
  intro v5 w5 hv5 hg5 _
  rw [u32s_snoc] at hv5
  have hAw := HG2.out.lt
  have hb1 : Below B w0 w5 := (HG5.out.alloc (by have := HG5.out.size; omega) (.cells #[.int .u32 (z : Int)] 23)).grown hg5 (by have := HG5.out.size; simp; omega) (fun k' hk' => by have := (HG3.out.lt k' hk').1; omega)
  have hA5 : At w5 A #[.slice ra L.length rc] 31 := (HG2.out.alloc _).grown hg5 (fun hk => by have := (HG3.out.lt A hk.symm).1; omega)
  have hC5 : w5.cell? ⟨C, 0, none⟩ = some (.int .u32 (lo : Int)) := by
    have h1 := ((Below.refl w.heap.size w).alloc (Nat.le_refl _) (.cells #[.int .u32 (z : Int)] 23)).cell (p := ⟨C, 0, none⟩) (show C < w.heap.size by omega)
    exact hg5.cell (h1.trans g1) (fun hk => by have := (HG3.out.lt C hk.symm).1; omega)
  have hs5 : D ≤ w5.heap.size := by have := hg5.size; simp at this; omega
  have hv5' : w5.ownsRow D 23 1 v5 M.length (u32s M) := by rw [← HM.out]; simpa using hv5
  have hf5 := hA5.free 0
  have hc5 := hA5.cell (i := 0) (v := .slice ra L.length rc) rfl
  have HA5 := Lib.hid hA5
  have HC5 := Lib.hid hC5
  have HB5 := Lib.hid hb1
  have HV5 := Lib.hid hv5'
  obtain ⟨ra5, rc5, rfl⟩ := row_slice hv5'
  clear hv5 hg5 hb1 hA5 hC5 hv5'
  go_wp2
  go_end0
  refine ⟨rfl, ?_, ⟨_, HA5.out.set 0 _, own_only HV5.out (Only.setCell (s := fun b => b = A) (p := ⟨A, 0, none⟩) (Only.refl _ _) (fun _ => rfl) _) (fun k hk => by have := (own_base HV5.out hk).1; omega)⟩, by simpa using hs5, HB5.out.setCell hBA _⟩
  rw [World.cell?_setCell_far _ _ _ _ (by simp; omega)]
  exact HC5.out
/-- what the next subset is, as the program reckons it -/
theorem nx_prog {p s : Nat} (hp : p < 64) (hs : s < 64) : bits .and .u32 (((s : Int) - (p : Int)) % 4294967296) (p : Int) = ((nxB p s : Nat) : Int) := by
  have h1 : ((s : Int) - (p : Int)) % 4294967296 = (((s + 4294967296 - p) % 4294967296 : Nat) : Int) := by omega
  rw [h1, u32_and_nat _ _ (Nat.mod_lt _ (by decide)) (by omega)]
  rfl
set_option maxRecDepth 100000 in
set_option maxHeartbeats 1000000 in
theorem each9_any (B D C A lo p : Nat) (w0 w : World) (hG : Gat B D C A lo [] w0 w) (hCA : C < A) (hAD : A < D) (hBA : B ≤ A) (hBw : B ≤ w0.heap.size) (hp : p < 64) (hlo : lo < 64) :
    Calls Tryd.prog 20 #[.int .u32 (p : Int), .func (.func 21) #[] #[.pointer (some ⟨A, 0, none⟩), .pointer (some ⟨C, 0, none⟩)]] w fun e w' => e = .returned (.tuple #[]) ∧ Gat B D C A lo ((subU p 64).map (lo ||| ·)) w0 w' := by
  have HG := Lib.hid hG
  have hin0 : Hid (inB6 p 0 = true) := by unfold Hid inB6; simp
  clear hG
  go_enter Tryd.func20, Tryd.ntmps20
  go_wp2_with fail
  go_loopw [4] (fun x wr => ∃ s : Nat, s < 64 ∧ Hid (inB6 p s = true) ∧ x = .int .u32 (s : Int) ∧ Hid (Gat B D C A lo ((subU p s).map (lo ||| ·)) w0 wr)) (fun x _ => 64 - (intOf x).toNat)
  case atStart => exact ⟨0, by omega, hin0, rfl, HG⟩
  case round =>
    clear HG hin0
    obtain ⟨s, hs, hin, rfl, HG⟩ := hrel
    have hlen : ((subU p s).map (lo ||| ·)).length ≤ 65536 := by
      rw [List.length_map]
      have := List.length_filter_le (inB6 p) (List.range s)
      rw [List.length_range] at this
      unfold subU
      omega
    have HC := Lib.hid (gather9_any B D C A lo s _ w0 wr HG.out hCA hAD hBA hBw (by omega) (by omega) hlen)
    have HS := Lib.hid (sub_snoc hin.out)
    have hstep := nx_step p hp s hs hin.out
    have hnx := nx_prog hp hs
    have hmap : (subU p s).map (lo ||| ·) ++ [lo ||| s] = (subU p (s + 1)).map (lo ||| ·) := by rw [HS.out, List.map_append]; rfl
    rw [hmap] at HC
    generalize nxB p s = nx at *
    clear hin HG hlen hmap HS
    obtain ⟨z, hz⟩ : ∃ z : Int, (nx : Int) = z := ⟨_, rfl⟩
    rw [hz] at hnx
    have HNX := Lib.hid hz
    rcases hstep with ⟨h1, he⟩ | ⟨h1, h2, h3, he⟩
    · have tq : (z == 0) = true := by simp; omega
      rw [he] at HC
      clear he h1 hz
      go_wp2_with (go_at_call 21; refine HC.out.mono ?_; rintro e w3 ⟨rfl, hg3⟩; have HG3 := Lib.hid hg3; clear hg3)
      refine bodyPost_ret (results_none rfl _ _ _) rfl ?_
      exact ⟨rfl, HG3.out⟩
    · have H3 : Hid (s < nx ∧ nx < 64 ∧ inB6 p nx = true) := ⟨h1, h2, h3⟩
      have tq : (z == 0) = false := by simp; omega
      rw [he] at HC
      clear he h1 h2 h3 hz
      go_wp2_with (go_at_call 21; refine HC.out.mono ?_; rintro e w3 ⟨rfl, hg3⟩; have HG3 := Lib.hid hg3; clear hg3)
      have hz : z = (nx : Int) := HNX.out.symm
      obtain ⟨h1, h2, h3⟩ := H3.out
      refine ⟨⟨nx, h2, h3, by rw [hz], HG3⟩, ?_⟩
      rw [hz]
      show 64 - (nx : Int).toNat < 64 - (s : Int).toNat
      clear hnx hz tq HC
      omega
set_option maxRecDepth 100000 in
set_option maxHeartbeats 1000000 in
theorem choices_any (v : Value) (h : List Ev) (w : World) (hK : HasK w) (hv : Evs w v h) (hl : h.length ≤ 65536) :
    Calls Tryd.prog 7 #[v] w fun e w' => ∃ v', e = .returned (.tuple #[v', .int .i64 ((checkS h).2 : Nat)]) ∧ Rd w' v' (if (checkS h).2 = 0 then u32s (chL (tableS h)) else []) ∧ Below w.heap.size w w' := by
  have HT := Lib.hid (table_any v h w hK hv hl)
  clear hK hv hl
  by_cases h0 : (checkS h).2 = 0
  · have h6 := table_six h0
    have hp := stN_lt h6 1
    have hlo := stN_lt h6 2
    have HSC := Lib.hid (subs_chL h6)
    rw [h0, if_pos rfl] at HT
    rw [h0, if_pos rfl]
    have HBO2 := Lib.hid (fun (u : Value) (W : World) (hu : Txs W u (tableS h)) => bitsOf_any u (tableS h) 2 W hu h6)
    have HBO1 := Lib.hid (fun (u : Value) (W : World) (hu : Txs W u (tableS h)) => bitsOf_any u (tableS h) 1 W hu h6)
    clear h0 h6
    generalize chL (tableS h) = cl at *
    generalize stN (tableS h) 1 = p at *
    generalize stN (tableS h) 2 = lo at *
    go_enter Tryd.func7, Tryd.ntmps7
    go_wp2_with fail
    refine HT.out.mono ?_
    rintro e w1 ⟨v1, rfl, hv1, hb1⟩
    have HV1 := Lib.hid hv1
    have HB1 := Lib.hid hb1
    obtain ⟨a1, c1, rfl⟩ := hv1.len
    clear hv1 hb1 HT
    go_wp2_with fail
    refine (HBO2.out _ w1 HV1.out).mono ?_
    rintro e w2 ⟨rfl, hb2⟩
    have HB2 := Lib.hid (HB1.out.trans (hb2.mono HB1.out.size))
    have HV2 := Lib.hid (HV1.out.below hb2 (Nat.le_refl _))
    have hba := ((Below.refl w2.heap.size w2).alloc (Nat.le_refl _) (.cells #[.int .u32 (lo : Int)] 23)).alloc (by simp) (.cells #[.slice none 0 0] 31)
    have HV3 := Lib.hid (HV2.out.below hba (Nat.le_refl _))
    have HB3 := Lib.hid (HB2.out.trans (hba.mono HB2.out.size))
    have HAC := Lib.hid ((At.new w2 #[.int .u32 (lo : Int)] 23).alloc (.cells #[.slice none 0 0] 31))
    have HAA : Hid (At ((w2.alloc (.cells #[.int .u32 (lo : Int)] 23)).alloc (.cells #[.slice none 0 0] 31)) (w2.heap.size + 1) #[.slice none 0 0] 31) := by
      have h := At.new (w2.alloc (.cells #[.int .u32 (lo : Int)] 23)) #[.slice none 0 0] 31
      rw [World.size_alloc] at h
      exact h
    have hsz : ((w2.alloc (.cells #[.int .u32 (lo : Int)] 23)).alloc (.cells #[.slice none 0 0] 31)).heap.size = w2.heap.size + 2 := by simp
    have HSZ := Lib.hid hsz
    have hBw2 : w.heap.size ≤ w2.heap.size := HB2.out.size
    clear hb2 HB1 HV1 hba hsz
    go_wp2_with fail
    generalize (w2.alloc (.cells #[.int .u32 (lo : Int)] 23)).alloc (.cells #[.slice none 0 0] 31) = w3 at *
    refine (HBO1.out _ w3 HV3.out).mono ?_
    rintro e w4 ⟨rfl, hb4⟩
    have hs3 := HSZ.out
    have hG : Gat w.heap.size (w2.heap.size + 2) w2.heap.size (w2.heap.size + 1) lo [] w w4 :=
      ⟨(hb4.cell (p := ⟨w2.heap.size, 0, none⟩) (by show w2.heap.size < w3.heap.size; omega)).trans (HAC.out.cell (i := 0) rfl), ⟨.slice none 0 0, HAA.out.below hb4 (by omega), World.ownsRow_nil _ _ _ _⟩, by have := hb4.size; omega, HB3.out.trans (hb4.mono HB3.out.size)⟩
    have HEA := Lib.hid (each9_any _ _ _ _ lo p w w4 hG (by omega) (by omega) (by omega) (Nat.le_refl _) hp hlo)
    rw [HSC.out] at HEA
    clear hb4 hG HAC HAA HB3 HV3 HBO1 HBO2 HSC hs3
    generalize w2.heap.size = N at *
    go_wp2_with fail
    refine HEA.out.mono ?_
    rintro e w5 ⟨rfl, g1, ⟨v5, g2, g3⟩, g4, g5⟩
    have hc := g2.cell (i := 0) (v := v5) rfl
    have HR := Lib.hid (Rd.of_row g3)
    have HB5 := Lib.hid g5
    obtain ⟨ra, rc, rfl⟩ := row_slice g3
    clear g1 g2 g3 g4 g5 HEA
    go_wp2
    refine bodyPost_ret (v := .tuple #[.slice ra cl.length rc, .int .i64 0]) (by simp [results, Tryd.results7, go_sem]) rfl ⟨_, rfl, HR.out, HB5.out⟩
  · rw [if_neg h0] at HT ⊢
    obtain ⟨er, her⟩ : ∃ er, (checkS h).2 = er := ⟨_, rfl⟩
    rw [her] at HT h0 ⊢
    have te : ((er : Int) != 0) = true := by simp; omega
    clear her h0
    go_enter Tryd.func7, Tryd.ntmps7
    go_wp2_with fail
    refine HT.out.mono ?_
    rintro e w1 ⟨v1, rfl, hv1, hb1⟩
    obtain ⟨a1, c1, rfl⟩ := hv1.len
    go_wp2
    refine bodyPost_ret (v := .tuple #[.slice none 0 0, .int .i64 er]) (by simp [results, Tryd.results7, go_sem]) rfl ⟨_, rfl, .inl ⟨rfl, _, _, rfl⟩, hb1⟩
end Go.Proofs.YtmnblljenobofaaDoor
