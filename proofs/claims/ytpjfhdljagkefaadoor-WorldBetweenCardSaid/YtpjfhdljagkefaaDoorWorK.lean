/- The walks of package world's rows and of the iterator that it makes. -/
import Derived.Test.YtpjfhdljagkefaaDoorWorG
import Derived.Test.YtpjfhdljagkefaaDoorWorI
import Derived.Test.YtpjfhdljagkefaaDoorMg18
namespace Go.Proofs.YtpjfhdljagkefaaDoor.WPlain
end Go.Proofs.YtpjfhdljagkefaaDoor.WPlain
namespace Go.Proofs.YtpjfhdljagkefaaDoor.QPlain
end Go.Proofs.YtpjfhdljagkefaaDoor.QPlain
namespace Go.Proofs.YtpjfhdljagkefaaDoor.RPlain
end Go.Proofs.YtpjfhdljagkefaaDoor.RPlain
namespace Go.Proofs.YtpjfhdljagkefaaDoor
open Go.RowKit Go.Shelf WPlain QPlain RPlain

attribute [local go_sem] Oper.semAt_some

/-- a row, as it is handed on -/
def EncR (r : List Nat) (vs : Array Value) (X : Nat → Prop) (W : World) : Prop := ∃ v, vs = #[v] ∧ RdX X W v (nats r) ∧ SrcN v ∧ CapV v
theorem EncR.less {r : List Nat} {vs : Array Value} {X Y : Nat → Prop} {W : World} (h : EncR r vs X W) (hy : ∀ k, Y k → X k) : EncR r vs Y W := by
  obtain ⟨v, h1, h2, h3⟩ := h
  exact ⟨v, h1, h2.less hy, h3⟩
theorem setL_all {n set : Nat} (h6 : n ≤ 6) (hs : set < 2 ^ n) : setL 6 set = setL n set := by
  unfold setL
  obtain ⟨d, hd⟩ : ∃ d, 6 = n + d := ⟨6 - n, by omega⟩
  rw [hd, List.range_add, List.filter_append]
  have h1 : ((List.range d).map (n + ·)).filter set.testBit = [] := by
    rw [List.filter_eq_nil_iff]
    intro m hm
    obtain ⟨x, _, rfl⟩ := List.mem_map.1 hm
    rw [Nat.testBit_lt_two_pow (Nat.lt_of_lt_of_le hs (Nat.pow_le_pow_right (by decide) (by omega)))]
    simp
  rw [h1, List.append_nil]
/-- what the iterator over a set's rows has captured -/
structure RwC (hv cv : Value) (aa : Option Addr) (ac : Nat) (l : List Tx) (set : Nat) (E P : Nat) (X : Nat → Prop) (W : World) : Prop where
  box : At W E #[hv, .slice aa l.length ac, cv] 45
  aft : RdX X W (.slice aa l.length ac) (u32s (afterS l))
  pl : ∃ pv, At W P #[pv] 24 ∧ RdX X W pv (nats (setL l.length set))
  off : ¬ X E ∧ ¬ X P
theorem RwC.kept {hv cv : Value} {aa : Option Addr} {ac : Nat} {l : List Tx} {set E P : Nat} {X X' : Nat → Prop} {W W' : World} (h : RwC hv cv aa ac l set E P X W) (hk : Kept X X' W W') : RwC hv cv aa ac l set E P X' W' := by
  obtain ⟨h1, h2, ⟨pv, h3, h4⟩, h5, h6⟩ := h
  exact ⟨hk.at h1 h5, hk.rd h2, ⟨pv, hk.at h3 h6, hk.rd h4⟩, hk.not h1.lt h5, hk.not h3.lt h6⟩
theorem RwC.more {hv cv : Value} {aa : Option Addr} {ac : Nat} {l : List Tx} {set E P : Nat} {X Y : Nat → Prop} {W : World} (h : RwC hv cv aa ac l set E P X W) (hy : ∀ k, k < W.heap.size → Y k → X k) : RwC hv cv aa ac l set E P Y W := by
  obtain ⟨h1, h2, ⟨pv, h3, h4⟩, h5, h6⟩ := h
  exact ⟨h1, h2.more hy, ⟨pv, h3, h4.more hy⟩, fun h => h5 (hy _ h1.lt h), fun h => h6 (hy _ h3.lt h)⟩
theorem rdx_at {X : Nat → Prop} {w : World} {b o n c : Nat} {xs : List Value} (h : Rd w (.slice (some ⟨b, o, none⟩) n c) xs) (hb : ¬ X b) : RdX X w (.slice (some ⟨b, o, none⟩) n c) xs := by
  rcases h with h0 | ⟨h0, b', o', c', he, hc⟩
  · exact .inl h0
  · simp only [Value.slice.injEq, Option.some.injEq, Addr.mk.injEq] at he
    obtain ⟨⟨rfl, rfl, -⟩, rfl, rfl⟩ := he
    exact .inr ⟨h0, b, o, c, rfl, hb, hc⟩
/-- what holds between two rows -/
structure RwI (hv cv : Value) (aa : Option Addr) (ac : Nat) (l : List Tx) (set E P : Nat) (v : Value) (vs : List Value) (R0 : List (List Nat)) (X : Nat → Prop) (W : World) : Prop where
  cap : RwC hv cv aa ac l set E P X W
  out : RdX X W v vs
  rows : Rowl X W vs R0
theorem RwI.kept {hv cv : Value} {aa : Option Addr} {ac : Nat} {l : List Tx} {set E P : Nat} {v : Value} {vs : List Value} {R0 : List (List Nat)} {X X' : Nat → Prop} {W W' : World} (h : RwI hv cv aa ac l set E P v vs R0 X W) (hk : Kept X X' W W') : RwI hv cv aa ac l set E P v vs R0 X' W' :=
  ⟨h.cap.kept hk, hk.rd h.out, h.rows.kept hk⟩
theorem allS_count {A : List Nat} (hn : A.length ≤ 6) : (allS A).length ≤ 46656 := by
  have h1 := ext_len A.length (nxt A) A.length []
  have h2 : A.length ^ A.length ≤ 6 ^ A.length := Nat.pow_le_pow_left hn _
  have h3 : 6 ^ A.length ≤ 6 ^ 6 := Nat.pow_le_pow_right (by decide) hn
  unfold allS
  omega
theorem allS_lt {A r : List Nat} (h : r ∈ allS A) : r.length = A.length ∧ ∀ k ∈ r, k < A.length := by
  have := allS_mem.1 h
  exact ⟨this.1, this.2.1⟩
set_option maxRecDepth 100000 in
set_option maxHeartbeats 4000000 in
theorem rowsW1_gives (ha ca aa : Option Addr) (hn hc cn cc ac : Nat) (h : List Ev) (h0 : (checkS h).2 = 0) (set E P : Nat) :
    GivesE EncR Tryd.prog 61 #[.pointer (some ⟨E, 0, none⟩), .pointer (some ⟨P, 0, none⟩)] (RwC (.slice ha hn hc) (.slice ca cn cc) aa ac (tableS h) set E P) [] (rowsW (tableS h) set) (rowsW (tableS h) set) := by
  intro l J Jx X W hC hJ hJx htop hY hJ0
  have h6 := table_six h0
  have hfr := free_after h
  have hal := afterS_len (tableS h)
  have hp6 : (setL (tableS h).length set).length ≤ 6 := setL_six h6
  have hplt : ∀ p ∈ setL (tableS h).length set, p < (afterS (tableS h)).length := fun p hp => by rw [hal]; exact setL_lt hp
  have hA32 : ∀ a ∈ afterS (tableS h), a < 4294967296 := fun a ha => by
    obtain ⟨x, _, rfl⟩ := List.mem_map.1 ha
    exact lt32 h6 (afterN_lt _ _)
  have hmay := may_among hp6 hfr hplt
  have hRW := rows_among (tableS h) set
  obtain ⟨pv, hp1, hp2⟩ := hC.pl
  have hAM := amongW_any ha ca hn hc cn cc _ pv (afterS (tableS h)) (setL (tableS h).length set) W hC.aft.rd hp2.rd (by omega) hA32 hp6 hplt
  have HALL := Lib.hid (fun (c : Nat) (w2 : World) hX hv => allX_any (some ⟨W.heap.size + 1, 0, none⟩) c (amongL (afterS (tableS h)) (setL (tableS h).length set)) w2 X hX hv (among_lt hp6) hmay)
  have HAL : Hid (∀ i (hi : i < (allS (amongL (afterS (tableS h)) (setL (tableS h).length set))).length), (allS (amongL (afterS (tableS h)) (setL (tableS h).length set)))[i].length ≤ 6 ∧ ∀ k ∈ (allS (amongL (afterS (tableS h)) (setL (tableS h).length set)))[i], k < (setL (tableS h).length set).length) := fun i hi => by
    have := allS_lt (List.getElem_mem hi)
    rw [amongL_len] at this
    exact ⟨by omega, this.2⟩
  have hcn := allS_count (A := amongL (afterS (tableS h)) (setL (tableS h).length set)) (by rw [amongL_len]; exact hp6)
  rw [amongL_len] at HALL
  have HP6 := Lib.hid hp6
  clear hmay hfr hplt hA32
  generalize amongL (afterS (tableS h)) (setL (tableS h).length set) = AM at *
  obtain ⟨pl, hpl⟩ : ∃ pl, setL (tableS h).length set = pl := ⟨_, rfl⟩
  have HPL := Lib.hid hpl
  rw [hpl] at hRW hp2 hAM HALL HAL HP6
  have HRW : Hid ((allS AM).map (named pl) = rowsW (tableS h) set) := hRW
  obtain ⟨rows, hrows⟩ : ∃ rows, rowsW (tableS h) set = rows := ⟨_, rfl⟩
  rw [hrows] at HRW hY ⊢
  obtain ⟨pa, pc, rfl⟩ := hp2.rd.len
  rw [nats_len] at hp1 hp2 hAM
  obtain rfl : rows = (allS AM).map (named pl) := HRW.out.symm
  clear HRW hRW hrows
  generalize allS AM = R0 at *
  have c0 := hC.box.cell (i := 0) rfl
  have c1 := hC.box.cell (i := 1) rfl
  have c2 := hC.box.cell (i := 2) rfl
  have d0 := hp1.cell (i := 0) rfl
  have HC := Lib.hid hC
  have HJ := Lib.hid hJ
  have HY := Lib.hid hY
  have HTOP := Lib.hid htop
  have HJ0 := Lib.hid hJ0
  clear hC hJ hJx hY htop hJ0 hp1 hp2
  refine (callsIn_wide (n := 6)).1 ?_
  refine callsIn_of_wp Tryd.func61 rfl trivial ?_ rfl
  simp only [Tryd.ntmps61, List.size_toArray, List.length_cons, List.length_nil, Nat.reduceAdd, Nat.reduceSub, Array.replicate_succ, Array.replicate_zero, List.push_toArray, List.append_toArray, List.nil_append, List.cons_append]
  gi_wp2_with (refine ⟨trivial, ?_⟩; gi_at_call 63; refine (callsIn_wide.2 hAM).mono ?_; rintro e w1 ⟨rfl, hr1, hb1⟩)
  have hX0 : ∀ k, X k → k < W.heap.size := HTOP.out _ _ _ HJ0.out
  have hA1 := HALL.out pl.length w1 (fun k hk => by have := hX0 k hk; have := hb1.size; omega) (rdx_at hr1 (fun hk => by have := hX0 _ hk; omega))
  have HB1 := Lib.hid hb1
  clear hb1 hr1 hAM HALL c0 c1 c2 d0
  gi_wp2_with (refine ⟨trivial, ?_⟩; gi_at_call 62; refine (callsIn_wide.2 hA1).mono ?_; rintro e w2 ⟨v2, vs2, rfl, hr2, ho2, hb2⟩; obtain ⟨a2, cc2, rfl⟩ := hr2.rd.len)
  have hb02 := HB1.out.trans (hb2.mono HB1.out.size)
  have HJ2 := Lib.hid (HJ.out.below HJ0.out hb02)
  have HI2 : Hid (RwI (.slice ha hn hc) (.slice ca cn cc) aa ac (tableS h) set E P (.slice a2 vs2.length cc2) vs2 R0 X w2) := ⟨HC.out.kept (Kept.below X hb02), hr2, ho2⟩
  have HVL : Hid (vs2.length = R0.length) := ho2.1
  clear hr2 ho2 hb2 hA1 HB1
  have HB02 := Lib.hid hb02
  clear hb02
  gi_loopw [17] (fun p wr => ∃ (i : Nat) (X' : Nat → Prop), i ≤ R0.length ∧ p = .int .i64 (i : Int) ∧ Hid (J (((R0.take i).map (named pl))) X' wr) ∧ Hid (RwI (.slice ha hn hc) (.slice ca cn cc) aa ac (tableS h) set E P (.slice a2 vs2.length cc2) vs2 R0 X' wr) ∧ Hid (W.heap.size ≤ wr.heap.size))
    (fun p _ => R0.length - (intOf p).toNat)
  case atStart => exact ⟨0, X, by omega, rfl, HJ2, HI2, HB02.out.size⟩
  case round =>
    clear HJ2 HI2 HB02
    obtain ⟨i, X', hi, rfl, HJi, HIi, HSZ⟩ := hrel
    by_cases hlt : i < R0.length
    · obtain ⟨b, o, pc2, he, hb, hcs⟩ := HIi.out.out.rd.opened (by have := HVL.out; omega)
      have hci := hcs i _ (List.getElem?_eq_getElem (show i < vs2.length by have := HVL.out; omega))
      simp only [Value.slice.injEq] at he
      obtain ⟨rfl, -, rfl⟩ := he
      clear hcs hb
      have hrw := HIi.out.rows.2 i hlt (by have := HVL.out; omega)
      obtain ⟨hr6, hrl⟩ := HAL.out i hlt
      obtain ⟨pv, hq1, hq2⟩ := HIi.out.cap.pl
      rw [HPL.out] at hq2
      have d0 := hq1.cell (i := 0) rfl
      have hAT := at_any pv _ pl R0[i] wr hq2.rd hrw.rd hrl hr6 HP6.out
      obtain ⟨ra, rc, hre⟩ := hrw.rd.len
      obtain ⟨qa, qc, rfl⟩ := hq2.rd.len
      rw [hre] at hci hAT
      have hTk : (((R0.take i).map (named pl)) ++ [named pl R0[i]]) = ((R0.take (i + 1)).map (named pl)) := by rw [List.take_succ_eq_append_getElem hlt, List.map_append]; rfl
      have HTK := Lib.hid hTk
      have hPRE : ((R0.take (i + 1)).map (named pl)) <+: R0.map (named pl) := (List.take_prefix _ _).map _
      have hXi : ∀ k, X' k → k < wr.heap.size := HTOP.out _ _ _ HJi.out
      have HYW : Hid (∀ (w3 : World) (v3 : Value), Below wr.heap.size wr w3 → w3.ownsRow wr.heap.size 3 1 v3 (named pl R0[i]).length (nats (named pl R0[i])) → YieldAt Fence.wide 3 Tryd.prog l #[v3] w3 fun e W' =>
          (e = .returned (.bool true) ∧ ∃ Z, J ((R0.take (i + 1)).map (named pl)) Z W' ∧ Kept X' Z w3 W') ∨ (e = .returned (.bool false) ∧ ∃ Z, Jx ((R0.take (i + 1)).map (named pl)) Z W' ∧ Kept X' Z w3 W')) := fun w3 v3 hb3 ho3 => by
        have := HY.out ((R0.take i).map (named pl)) (named pl R0[i]) #[v3] X' w3 (HJ.out.mono HSZ.out |>.below HJi.out hb3) (by rw [hTk]; exact hPRE) ⟨v3, rfl, RdX.of_row ho3 (fun k hk => hXi k hk), SrcN.of_row ho3, CapV.of_row ho3⟩
        rw [hTk] at this
        exact this
      have HPRE := Lib.hid hPRE
      obtain ⟨nl, hnl⟩ : ∃ z, (named pl R0[i]).length = z := ⟨_, rfl⟩
      rw [hnl] at hAT HYW
      clear hnl
      clear hre hrw hq1 hq2 hr6 hrl hTk hXi hPRE
      generalize R0[i] = ri at *
      have hil : (i : Int) < (vs2.length : Int) := by have := HVL.out; omega
      gi_wp2_with (refine ⟨trivial, ?_⟩; gi_at_call 64; refine (callsIn_wide.2 hAT).mono ?_; rintro e w3 ⟨v3, rfl, ho3, hb3⟩; obtain ⟨a3, c3, rfl⟩ := row_slice ho3; obtain ⟨fn, tmps, assign, body, hy, hR⟩ := HYW.out w3 _ hb3 ho3)
      refine (round_depth hR).mono ?_
      rintro e W4 (⟨rfl, Z, gJ, gk⟩ | ⟨rfl, Z, gJ, gk⟩)
      · have HI4 := Lib.hid ((HIi.out.kept (Kept.below X' hb3)).kept gk)
        have HJ4 := Lib.hid gJ
        have HSZ4 : Hid (W.heap.size ≤ W4.heap.size) := Nat.le_trans HSZ.out (Nat.le_trans hb3.size gk.size)
        clear gJ gk hb3 ho3 hy hR hAT hci
        gi_wp2
        go_roundw
        case rel => exact ⟨i + 1, Z, by omega, by go_num, HJ4, HI4, HSZ4⟩
        case measure => simp [intOf]; omega
      · have HJ4 := Lib.hid gJ
        clear gJ gk hb3 ho3 hy hR hAT hci
        gi_wp2
        refine bodyPost_ret (results_none rfl _ _ _) rfl ?_
        exact ⟨⟨_, rfl⟩, .inr ⟨_, Z, HPRE.out, HJ4.out⟩⟩
    · obtain rfl : i = R0.length := by omega
      have HJe : Hid (J (R0.map (named pl)) X' wr) := by
        have := HJi.out
        rwa [List.take_length] at this
      have hil : ¬ ((R0.length : Int) < (vs2.length : Int)) := by have := HVL.out; omega
      gi_wp2
      go_end0
      exact ⟨⟨_, rfl⟩, .inl ⟨X', HJe.out⟩⟩
set_option maxRecDepth 100000 in
set_option maxHeartbeats 1000000 in
theorem rowsW_any (ha ca aa : Option Addr) (hn hc cn cc ac : Nat) (l : List Tx) (h6 : l.length ≤ 6) (set : Nat) (hs : set < 2 ^ l.length) (w : World) :
    Calls Tryd.prog 54 #[.agg #[.slice ha hn hc, .slice aa l.length ac, .slice ca cn cc], .int .u32 (set : Int)] w fun e w' => ∃ P, e = .returned (.func (.func 61) #[] #[.pointer (some ⟨w.heap.size, 0, none⟩), .pointer (some ⟨P, 0, none⟩)]) ∧ Below w.heap.size w w' ∧
      ∀ X, (∀ k, X k → k < w.heap.size) → RdX X w (.slice aa l.length ac) (u32s (afterS l)) → RwC (.slice ha hn hc) (.slice ca cn cc) aa ac l set w.heap.size P X w' := by
  have hb0 : Below w.heap.size w (w.alloc (.cells #[.slice ha hn hc, .slice aa l.length ac, .slice ca cn cc] 45)) := (Below.refl _ w).alloc (Nat.le_refl _) _
  have hat := At.new w #[.slice ha hn hc, .slice aa l.length ac, .slice ca cn cc] 45
  have hs0 : (w.alloc (.cells #[.slice ha hn hc, .slice aa l.length ac, .slice ca cn cc] 45)).heap.size = w.heap.size + 1 := by simp
  have HPL := Lib.hid (placesW_any set (w.alloc (.cells #[.slice ha hn hc, .slice aa l.length ac, .slice ca cn cc] 45)) (by have := lt32 h6 hs; omega))
  have HSL : Hid (setL 6 set = setL l.length set) := setL_all h6 hs
  have HB0 := Lib.hid hb0
  have HAT := Lib.hid hat
  have HS0 := Lib.hid hs0
  clear hb0 hat hs0 h6 hs
  go_enter Tryd.func54, Tryd.ntmps54
  go_wp2_with fail
  refine HPL.out.mono ?_
  rintro e w2 ⟨v2, rfl, ho2, hb2⟩
  rw [HSL.out] at ho2
  have HO2 := Lib.hid ho2
  have HB2 := Lib.hid hb2
  obtain ⟨a2, c2, rfl⟩ := row_slice ho2
  clear ho2 hb2 HPL
  go_wp2
  go_ret
  have hs2 := HB2.out.size
  have hs0 := HS0.out
  have hb3 : Below w2.heap.size w2 (w2.alloc (.cells #[.slice a2 (setL l.length set).length c2] 24)) := (Below.refl _ w2).alloc (Nat.le_refl _) _
  have hb03 := HB0.out.trans ((HB2.out.trans (hb3.mono hs2)).mono HB0.out.size)
  refine ⟨_, rfl, hb03, fun X hX hr => ⟨HAT.out.below (HB2.out.trans (hb3.mono hs2)) HAT.out.lt, hr.below hb03, ⟨_, At.new w2 _ _, (RdX.of_row HO2.out (fun k hk => by have := hX k hk; omega)).below hb3⟩, fun hk => by have := hX _ hk; omega, fun hk => by have := hX _ hk; omega⟩⟩
end Go.Proofs.YtpjfhdljagkefaaDoor
