/- Merged: WorK, WorL. -/
import Derived.Test.YtpjfhdljagkefaaGreatDoorWorG
import Derived.Test.YtpjfhdljagkefaaGreatDoorWorI
import Derived.Test.YtpjfhdljagkefaaGreatDoorMg17
/- The walks of package world's rows and of the iterator that it makes. -/
namespace Go.Proofs.YtpjfhdljagkefaaGreatDoor.WPlain
end Go.Proofs.YtpjfhdljagkefaaGreatDoor.WPlain
namespace Go.Proofs.YtpjfhdljagkefaaGreatDoor.QPlain
end Go.Proofs.YtpjfhdljagkefaaGreatDoor.QPlain
namespace Go.Proofs.YtpjfhdljagkefaaGreatDoor.RPlain
end Go.Proofs.YtpjfhdljagkefaaGreatDoor.RPlain
namespace Go.Proofs.YtpjfhdljagkefaaGreatDoor
open Go.RowKit Go.Shelf WPlain QPlain RPlain

attribute [local go_sem] Oper.semAt_some

/-- a row, as it is handed on -/
def EncR (r : List Nat) (vs : Array Value) (X : Nat → Prop) (W : World) : Prop := ∃ v, vs = #[v] ∧ RdX X W v (nats r) ∧ SrcN v ∧ CapV v
theorem EncR.less {r : List Nat} {vs : Array Value} {X Y : Nat → Prop} {W : World} (h : EncR r vs X W) (hy : ∀ k, Y k → X k) : EncR r vs Y W := by
  obtain ⟨v, h1, h2, h3⟩ := h
  exact ⟨v, h1, h2.less hy, h3⟩
theorem setL_all {n set : Nat} (h6 : n ≤ 6) (hs : set < 2 ^ n) : setL 6 set = setL n set := by
  unfold setL
  obtain ⟨d, hd⟩ : ∃ d, 6 = n + d := ⟨6 - n, by omega⟩
  rw [hd, List.range_add, List.filter_append]
  have h1 : ((List.range d).map (n + ·)).filter set.testBit = [] := by
    rw [List.filter_eq_nil_iff]
    intro m hm
    obtain ⟨x, _, rfl⟩ := List.mem_map.1 hm
    rw [Nat.testBit_lt_two_pow (Nat.lt_of_lt_of_le hs (Nat.pow_le_pow_right (by decide) (by omega)))]
    simp
  rw [h1, List.append_nil]
/-- what the iterator over a set's rows has captured -/
structure RwC (hv cv : Value) (aa : Option Addr) (ac : Nat) (l : List Tx) (set : Nat) (E P : Nat) (X : Nat → Prop) (W : World) : Prop where
  box : At W E #[hv, .slice aa l.length ac, cv] 48
  aft : RdX X W (.slice aa l.length ac) (u32s (afterS l))
  pl : ∃ pv, At W P #[pv] 24 ∧ RdX X W pv (nats (setL l.length set))
  off : ¬ X E ∧ ¬ X P
theorem RwC.kept {hv cv : Value} {aa : Option Addr} {ac : Nat} {l : List Tx} {set E P : Nat} {X X' : Nat → Prop} {W W' : World} (h : RwC hv cv aa ac l set E P X W) (hk : Kept X X' W W') : RwC hv cv aa ac l set E P X' W' := by
  obtain ⟨h1, h2, ⟨pv, h3, h4⟩, h5, h6⟩ := h
  exact ⟨hk.at h1 h5, hk.rd h2, ⟨pv, hk.at h3 h6, hk.rd h4⟩, hk.not h1.lt h5, hk.not h3.lt h6⟩
theorem RwC.more {hv cv : Value} {aa : Option Addr} {ac : Nat} {l : List Tx} {set E P : Nat} {X Y : Nat → Prop} {W : World} (h : RwC hv cv aa ac l set E P X W) (hy : ∀ k, k < W.heap.size → Y k → X k) : RwC hv cv aa ac l set E P Y W := by
  obtain ⟨h1, h2, ⟨pv, h3, h4⟩, h5, h6⟩ := h
  exact ⟨h1, h2.more hy, ⟨pv, h3, h4.more hy⟩, fun h => h5 (hy _ h1.lt h), fun h => h6 (hy _ h3.lt h)⟩
theorem rdx_at {X : Nat → Prop} {w : World} {b o n c : Nat} {xs : List Value} (h : Rd w (.slice (some ⟨b, o, none⟩) n c) xs) (hb : ¬ X b) : RdX X w (.slice (some ⟨b, o, none⟩) n c) xs := by
  rcases h with h0 | ⟨h0, b', o', c', he, hc⟩
  · exact .inl h0
  · simp only [Value.slice.injEq, Option.some.injEq, Addr.mk.injEq] at he
    obtain ⟨⟨rfl, rfl, -⟩, rfl, rfl⟩ := he
    exact .inr ⟨h0, b, o, c, rfl, hb, hc⟩
/-- what holds between two rows -/
structure RwI (hv cv : Value) (aa : Option Addr) (ac : Nat) (l : List Tx) (set E P : Nat) (v : Value) (vs : List Value) (R0 : List (List Nat)) (X : Nat → Prop) (W : World) : Prop where
  cap : RwC hv cv aa ac l set E P X W
  out : RdX X W v vs
  rows : Rowl X W vs R0
theorem RwI.kept {hv cv : Value} {aa : Option Addr} {ac : Nat} {l : List Tx} {set E P : Nat} {v : Value} {vs : List Value} {R0 : List (List Nat)} {X X' : Nat → Prop} {W W' : World} (h : RwI hv cv aa ac l set E P v vs R0 X W) (hk : Kept X X' W W') : RwI hv cv aa ac l set E P v vs R0 X' W' :=
  ⟨h.cap.kept hk, hk.rd h.out, h.rows.kept hk⟩
theorem allS_count {A : List Nat} (hn : A.length ≤ 6) : (allS A).length ≤ 46656 := by
  have h1 := ext_len A.length (nxt A) A.length []
  have h2 : A.length ^ A.length ≤ 6 ^ A.length := Nat.pow_le_pow_left hn _
  have h3 : 6 ^ A.length ≤ 6 ^ 6 := Nat.pow_le_pow_right (by decide) hn
  unfold allS
  omega
theorem allS_lt {A r : List Nat} (h : r ∈ allS A) : r.length = A.length ∧ ∀ k ∈ r, k < A.length := by
  have := allS_mem.1 h
  exact ⟨this.1, this.2.1⟩
set_option maxRecDepth 100000 in
set_option maxHeartbeats 4000000 in
theorem rowsW1_gives (ha ca aa : Option Addr) (hn hc cn cc ac : Nat) (h : List Ev) (h0 : (checkS h).2 = 0) (set E P : Nat) :
    GivesE EncR Tryz.prog 86 #[.pointer (some ⟨E, 0, none⟩), .pointer (some ⟨P, 0, none⟩)] (RwC (.slice ha hn hc) (.slice ca cn cc) aa ac (tableS h) set E P) [] (rowsW (tableS h) set) (rowsW (tableS h) set) := by
  intro l J Jx X W hC hJ hJx htop hY hJ0
  have h6 := table_six h0
  have hfr := free_after h
  have hal := afterS_len (tableS h)
  have hp6 : (setL (tableS h).length set).length ≤ 6 := setL_six h6
  have hplt : ∀ p ∈ setL (tableS h).length set, p < (afterS (tableS h)).length := fun p hp => by rw [hal]; exact setL_lt hp
  have hA32 : ∀ a ∈ afterS (tableS h), a < 4294967296 := fun a ha => by
    obtain ⟨x, _, rfl⟩ := List.mem_map.1 ha
    exact lt32 h6 (afterN_lt _ _)
  have hmay := may_among hp6 hfr hplt
  have hRW := rows_among (tableS h) set
  obtain ⟨pv, hp1, hp2⟩ := hC.pl
  have hAM := amongW_any ha ca hn hc cn cc _ pv (afterS (tableS h)) (setL (tableS h).length set) W hC.aft.rd hp2.rd (by omega) hA32 hp6 hplt
  have HALL := Lib.hid (fun (c : Nat) (w2 : World) hX hv => allX_any (some ⟨W.heap.size + 1, 0, none⟩) c (amongL (afterS (tableS h)) (setL (tableS h).length set)) w2 X hX hv (among_lt hp6) hmay)
  have HAL : Hid (∀ i (hi : i < (allS (amongL (afterS (tableS h)) (setL (tableS h).length set))).length), (allS (amongL (afterS (tableS h)) (setL (tableS h).length set)))[i].length ≤ 6 ∧ ∀ k ∈ (allS (amongL (afterS (tableS h)) (setL (tableS h).length set)))[i], k < (setL (tableS h).length set).length) := fun i hi => by
    have := allS_lt (List.getElem_mem hi)
    rw [amongL_len] at this
    exact ⟨by omega, this.2⟩
  have hcn := allS_count (A := amongL (afterS (tableS h)) (setL (tableS h).length set)) (by rw [amongL_len]; exact hp6)
  rw [amongL_len] at HALL
  have HP6 := Lib.hid hp6
  clear hmay hfr hplt hA32
  generalize amongL (afterS (tableS h)) (setL (tableS h).length set) = AM at *
  obtain ⟨pl, hpl⟩ : ∃ pl, setL (tableS h).length set = pl := ⟨_, rfl⟩
  have HPL := Lib.hid hpl
  rw [hpl] at hRW hp2 hAM HALL HAL HP6
  have HRW : Hid ((allS AM).map (named pl) = rowsW (tableS h) set) := hRW
  obtain ⟨rows, hrows⟩ : ∃ rows, rowsW (tableS h) set = rows := ⟨_, rfl⟩
  rw [hrows] at HRW hY ⊢
  obtain ⟨pa, pc, rfl⟩ := hp2.rd.len
  rw [nats_len] at hp1 hp2 hAM
  obtain rfl : rows = (allS AM).map (named pl) := HRW.out.symm
  clear HRW hRW hrows
  generalize allS AM = R0 at *
  have c0 := hC.box.cell (i := 0) rfl
  have c1 := hC.box.cell (i := 1) rfl
  have c2 := hC.box.cell (i := 2) rfl
  have d0 := hp1.cell (i := 0) rfl
  have HC := Lib.hid hC
  have HJ := Lib.hid hJ
  have HY := Lib.hid hY
  have HTOP := Lib.hid htop
  have HJ0 := Lib.hid hJ0
  clear hC hJ hJx hY htop hJ0 hp1 hp2
  refine (callsIn_wide (n := 6)).1 ?_
  refine callsIn_of_wp Tryz.func86 rfl trivial ?_ rfl
  simp only [Tryz.ntmps86, List.size_toArray, List.length_cons, List.length_nil, Nat.reduceAdd, Nat.reduceSub, Array.replicate_succ, Array.replicate_zero, List.push_toArray, List.append_toArray, List.nil_append, List.cons_append]
  gi_wp2_with (refine ⟨trivial, ?_⟩; gi_at_call 88; refine (callsIn_wide.2 hAM).mono ?_; rintro e w1 ⟨rfl, hr1, hb1⟩)
  have hX0 : ∀ k, X k → k < W.heap.size := HTOP.out _ _ _ HJ0.out
  have hA1 := HALL.out pl.length w1 (fun k hk => by have := hX0 k hk; have := hb1.size; omega) (rdx_at hr1 (fun hk => by have := hX0 _ hk; omega))
  have HB1 := Lib.hid hb1
  clear hb1 hr1 hAM HALL c0 c1 c2 d0
  gi_wp2_with (refine ⟨trivial, ?_⟩; gi_at_call 87; refine (callsIn_wide.2 hA1).mono ?_; rintro e w2 ⟨v2, vs2, rfl, hr2, ho2, hb2⟩; obtain ⟨a2, cc2, rfl⟩ := hr2.rd.len)
  have hb02 := HB1.out.trans (hb2.mono HB1.out.size)
  have HJ2 := Lib.hid (HJ.out.below HJ0.out hb02)
  have HI2 : Hid (RwI (.slice ha hn hc) (.slice ca cn cc) aa ac (tableS h) set E P (.slice a2 vs2.length cc2) vs2 R0 X w2) := ⟨HC.out.kept (Kept.below X hb02), hr2, ho2⟩
  have HVL : Hid (vs2.length = R0.length) := ho2.1
  clear hr2 ho2 hb2 hA1 HB1
  have HB02 := Lib.hid hb02
  clear hb02
  gi_loopw [17] (fun p wr => ∃ (i : Nat) (X' : Nat → Prop), i ≤ R0.length ∧ p = .int .i64 (i : Int) ∧ Hid (J (((R0.take i).map (named pl))) X' wr) ∧ Hid (RwI (.slice ha hn hc) (.slice ca cn cc) aa ac (tableS h) set E P (.slice a2 vs2.length cc2) vs2 R0 X' wr) ∧ Hid (W.heap.size ≤ wr.heap.size))
    (fun p _ => R0.length - (intOf p).toNat)
  case atStart => exact ⟨0, X, by omega, rfl, HJ2, HI2, HB02.out.size⟩
  case round =>
    clear HJ2 HI2 HB02
    obtain ⟨i, X', hi, rfl, HJi, HIi, HSZ⟩ := hrel
    by_cases hlt : i < R0.length
    · obtain ⟨b, o, pc2, he, hb, hcs⟩ := HIi.out.out.rd.opened (by have := HVL.out; omega)
      have hci := hcs i _ (List.getElem?_eq_getElem (show i < vs2.length by have := HVL.out; omega))
      simp only [Value.slice.injEq] at he
      obtain ⟨rfl, -, rfl⟩ := he
      clear hcs hb
      have hrw := HIi.out.rows.2 i hlt (by have := HVL.out; omega)
      obtain ⟨hr6, hrl⟩ := HAL.out i hlt
      obtain ⟨pv, hq1, hq2⟩ := HIi.out.cap.pl
      rw [HPL.out] at hq2
      have d0 := hq1.cell (i := 0) rfl
      have hAT := at_any pv _ pl R0[i] wr hq2.rd hrw.rd hrl hr6 HP6.out
      obtain ⟨ra, rc, hre⟩ := hrw.rd.len
      obtain ⟨qa, qc, rfl⟩ := hq2.rd.len
      rw [hre] at hci hAT
      have hTk : (((R0.take i).map (named pl)) ++ [named pl R0[i]]) = ((R0.take (i + 1)).map (named pl)) := by rw [List.take_succ_eq_append_getElem hlt, List.map_append]; rfl
      have HTK := Lib.hid hTk
      have hPRE : ((R0.take (i + 1)).map (named pl)) <+: R0.map (named pl) := (List.take_prefix _ _).map _
      have hXi : ∀ k, X' k → k < wr.heap.size := HTOP.out _ _ _ HJi.out
      have HYW : Hid (∀ (w3 : World) (v3 : Value), Below wr.heap.size wr w3 → w3.ownsRow wr.heap.size 3 1 v3 (named pl R0[i]).length (nats (named pl R0[i])) → YieldAt Fence.wide 3 Tryz.prog l #[v3] w3 fun e W' =>
          (e = .returned (.bool true) ∧ ∃ Z, J ((R0.take (i + 1)).map (named pl)) Z W' ∧ Kept X' Z w3 W') ∨ (e = .returned (.bool false) ∧ ∃ Z, Jx ((R0.take (i + 1)).map (named pl)) Z W' ∧ Kept X' Z w3 W')) := fun w3 v3 hb3 ho3 => by
        have := HY.out ((R0.take i).map (named pl)) (named pl R0[i]) #[v3] X' w3 (HJ.out.mono HSZ.out |>.below HJi.out hb3) (by rw [hTk]; exact hPRE) ⟨v3, rfl, RdX.of_row ho3 (fun k hk => hXi k hk), SrcN.of_row ho3, CapV.of_row ho3⟩
        rw [hTk] at this
        exact this
      have HPRE := Lib.hid hPRE
      obtain ⟨nl, hnl⟩ : ∃ z, (named pl R0[i]).length = z := ⟨_, rfl⟩
      rw [hnl] at hAT HYW
      clear hnl
      clear hre hrw hq1 hq2 hr6 hrl hTk hXi hPRE
      generalize R0[i] = ri at *
      have hil : (i : Int) < (vs2.length : Int) := by have := HVL.out; omega
      gi_wp2_with (refine ⟨trivial, ?_⟩; gi_at_call 89; refine (callsIn_wide.2 hAT).mono ?_; rintro e w3 ⟨v3, rfl, ho3, hb3⟩; obtain ⟨a3, c3, rfl⟩ := row_slice ho3; obtain ⟨fn, tmps, assign, body, hy, hR⟩ := HYW.out w3 _ hb3 ho3)
      refine (round_depth hR).mono ?_
      rintro e W4 (⟨rfl, Z, gJ, gk⟩ | ⟨rfl, Z, gJ, gk⟩)
      · have HI4 := Lib.hid ((HIi.out.kept (Kept.below X' hb3)).kept gk)
        have HJ4 := Lib.hid gJ
        have HSZ4 : Hid (W.heap.size ≤ W4.heap.size) := Nat.le_trans HSZ.out (Nat.le_trans hb3.size gk.size)
        clear gJ gk hb3 ho3 hy hR hAT hci
        gi_wp2
        go_roundw
        case rel => exact ⟨i + 1, Z, by omega, by go_num, HJ4, HI4, HSZ4⟩
        case measure => simp [intOf]; omega
      · have HJ4 := Lib.hid gJ
        clear gJ gk hb3 ho3 hy hR hAT hci
        gi_wp2
        refine bodyPost_ret (results_none rfl _ _ _) rfl ?_
        exact ⟨⟨_, rfl⟩, .inr ⟨_, Z, HPRE.out, HJ4.out⟩⟩
    · obtain rfl : i = R0.length := by omega
      have HJe : Hid (J (R0.map (named pl)) X' wr) := by
        have := HJi.out
        rwa [List.take_length] at this
      have hil : ¬ ((R0.length : Int) < (vs2.length : Int)) := by have := HVL.out; omega
      gi_wp2
      go_end0
      exact ⟨⟨_, rfl⟩, .inl ⟨X', HJe.out⟩⟩
set_option maxRecDepth 100000 in
set_option maxHeartbeats 1000000 in
theorem rowsW_any (ha ca aa : Option Addr) (hn hc cn cc ac : Nat) (l : List Tx) (h6 : l.length ≤ 6) (set : Nat) (hs : set < 2 ^ l.length) (w : World) :
    Calls Tryz.prog 65 #[.agg #[.slice ha hn hc, .slice aa l.length ac, .slice ca cn cc], .int .u32 (set : Int)] w fun e w' => ∃ P, e = .returned (.func (.func 86) #[] #[.pointer (some ⟨w.heap.size, 0, none⟩), .pointer (some ⟨P, 0, none⟩)]) ∧ Below w.heap.size w w' ∧
      ∀ X, (∀ k, X k → k < w.heap.size) → RdX X w (.slice aa l.length ac) (u32s (afterS l)) → RwC (.slice ha hn hc) (.slice ca cn cc) aa ac l set w.heap.size P X w' := by
  have hb0 : Below w.heap.size w (w.alloc (.cells #[.slice ha hn hc, .slice aa l.length ac, .slice ca cn cc] 48)) := (Below.refl _ w).alloc (Nat.le_refl _) _
  have hat := At.new w #[.slice ha hn hc, .slice aa l.length ac, .slice ca cn cc] 48
  have hs0 : (w.alloc (.cells #[.slice ha hn hc, .slice aa l.length ac, .slice ca cn cc] 48)).heap.size = w.heap.size + 1 := by simp
  have HPL := Lib.hid (placesW_any set (w.alloc (.cells #[.slice ha hn hc, .slice aa l.length ac, .slice ca cn cc] 48)) (by have := lt32 h6 hs; omega))
  have HSL : Hid (setL 6 set = setL l.length set) := setL_all h6 hs
  have HB0 := Lib.hid hb0
  have HAT := Lib.hid hat
  have HS0 := Lib.hid hs0
  clear hb0 hat hs0 h6 hs
  go_enter Tryz.func65, Tryz.ntmps65
  go_wp2_with fail
  refine HPL.out.mono ?_
  rintro e w2 ⟨v2, rfl, ho2, hb2⟩
  rw [HSL.out] at ho2
  have HO2 := Lib.hid ho2
  have HB2 := Lib.hid hb2
  obtain ⟨a2, c2, rfl⟩ := row_slice ho2
  clear ho2 hb2 HPL
  go_wp2
  go_ret
  have hs2 := HB2.out.size
  have hs0 := HS0.out
  have hb3 : Below w2.heap.size w2 (w2.alloc (.cells #[.slice a2 (setL l.length set).length c2] 24)) := (Below.refl _ w2).alloc (Nat.le_refl _) _
  have hb03 := HB0.out.trans ((HB2.out.trans (hb3.mono hs2)).mono HB0.out.size)
  refine ⟨_, rfl, hb03, fun X hX hr => ⟨HAT.out.below (HB2.out.trans (hb3.mono hs2)) HAT.out.lt, hr.below hb03, ⟨_, At.new w2 _ _, (RdX.of_row HO2.out (fun k hk => by have := hX k hk; omega)).below hb3⟩, fun hk => by have := hX _ hk; omega, fun hk => by have := hX _ hk; omega⟩⟩
end Go.Proofs.YtpjfhdljagkefaaGreatDoor
/- The walks of package world's sets and of the iterator that it makes. -/
namespace Go.Proofs.YtpjfhdljagkefaaGreatDoor.WPlain
end Go.Proofs.YtpjfhdljagkefaaGreatDoor.WPlain
namespace Go.Proofs.YtpjfhdljagkefaaGreatDoor.QPlain
end Go.Proofs.YtpjfhdljagkefaaGreatDoor.QPlain
namespace Go.Proofs.YtpjfhdljagkefaaGreatDoor.RPlain
end Go.Proofs.YtpjfhdljagkefaaGreatDoor.RPlain
namespace Go.Proofs.YtpjfhdljagkefaaGreatDoor
open Go.RowKit Go.Shelf WPlain QPlain RPlain

attribute [local go_sem] Oper.semAt_some

/-- a set, as it is handed on -/
def EncS (set : Nat) (vs : Array Value) (_ : Nat → Prop) (_ : World) : Prop := vs = #[.int .u32 (set : Int)]
/-- what the iterator over the sets has captured -/
structure StC (hv cv : Value) (aa : Option Addr) (ac : Nat) (l : List Tx) (t c U E Tb O : Nat) (X : Nat → Prop) (W : World) : Prop where
  box : At W E #[hv, .slice aa l.length ac, cv] 48
  aft : RdX X W (.slice aa l.length ac) (u32s (afterS l))
  up : At W U #[.int .u32 ((amongN (afterS l) t c : Nat) : Int)] 23
  tx : At W Tb #[.int .i64 (t : Int)] 3
  oth : At W O #[.int .u32 ((othersN c t : Nat) : Int)] 23
  off : ¬ X E ∧ ¬ X U ∧ ¬ X Tb ∧ ¬ X O
theorem StC.kept {hv cv : Value} {aa : Option Addr} {ac : Nat} {l : List Tx} {t c U E Tb O : Nat} {X X' : Nat → Prop} {W W' : World} (h : StC hv cv aa ac l t c U E Tb O X W) (hk : Kept X X' W W') : StC hv cv aa ac l t c U E Tb O X' W' := by
  obtain ⟨h1, h2, h3, h4, h5, h6, h7, h8, h9⟩ := h
  exact ⟨hk.at h1 h6, hk.rd h2, hk.at h3 h7, hk.at h4 h8, hk.at h5 h9, hk.not h1.lt h6, hk.not h3.lt h7, hk.not h4.lt h8, hk.not h5.lt h9⟩
theorem StC.more {hv cv : Value} {aa : Option Addr} {ac : Nat} {l : List Tx} {t c U E Tb O : Nat} {X Y : Nat → Prop} {W : World} (h : StC hv cv aa ac l t c U E Tb O X W) (hy : ∀ k, k < W.heap.size → Y k → X k) : StC hv cv aa ac l t c U E Tb O Y W := by
  obtain ⟨h1, h2, h3, h4, h5, h6, h7, h8, h9⟩ := h
  exact ⟨h1, h2.more hy, h3, h4, h5, fun h => h6 (hy _ h1.lt h), fun h => h7 (hy _ h3.lt h), fun h => h8 (hy _ h4.lt h), fun h => h9 (hy _ h5.lt h)⟩
theorem afterS_32 {l : List Tx} (h6 : l.length ≤ 6) : ∀ a ∈ afterS l, a < 4294967296 := fun a ha => by
  obtain ⟨x, _, rfl⟩ := List.mem_map.1 ha
  exact lt32 h6 (afterN_lt _ _)
theorem range_pre {p : Nat → Bool} {x U : Nat} (h : x ≤ U) : (List.range x).filter p <+: (List.range U).filter p := by
  obtain ⟨d, rfl⟩ := Nat.le.dest h
  rw [List.range_add, List.filter_append]
  exact List.prefix_append _ _
theorem range_yes {p : Nat → Bool} {x : Nat} (h : p x = true) : (List.range (x + 1)).filter p = (List.range x).filter p ++ [x] := by
  rw [List.range_succ, List.filter_append]
  simp [h]
theorem range_no {p : Nat → Bool} {x : Nat} (h : p x = false) : (List.range (x + 1)).filter p = (List.range x).filter p := by
  rw [List.range_succ, List.filter_append]
  simp [h]
set_option maxRecDepth 100000 in
set_option maxHeartbeats 4000000 in
theorem setsW1_gives (ha ca aa : Option Addr) (hn hc cn cc ac : Nat) (l : List Tx) (h6 : l.length ≤ 6) (t c U E Tb O : Nat) (ht : t < l.length) (hcl : c < 2 ^ l.length) :
    GivesE EncS Tryz.prog 83 #[.pointer (some ⟨U, 0, none⟩), .pointer (some ⟨E, 0, none⟩), .pointer (some ⟨Tb, 0, none⟩), .pointer (some ⟨O, 0, none⟩)] (StC (.slice ha hn hc) (.slice ca cn cc) aa ac l t c U E Tb O) [] (setsN (afterS l) t c) (setsN (afterS l) t c) := by
  intro lp J Jx X W hC hJ hJx htop hY hJ0
  have hal := afterS_len l
  have hA32 := afterS_32 h6
  have hc32 := lt32 h6 hcl
  have hc64 := Nat.lt_of_lt_of_le hcl (pow_le_64 h6)
  have ho32 : othersN c t < 4294967296 := Nat.lt_of_le_of_lt (lessN_le _ _) hc32
  have hu64 : amongN (afterS l) t c < 64 := Nat.lt_of_le_of_lt (Nat.le_trans (lessN_le _ _) (lessN_le _ _)) hc64
  have HSB : Hid (∀ x, setB (afterS l) t c x = (decide (lessN x (amongN (afterS l) t c) = 0) && wholeB (afterS l) x t (othersN c t))) := fun x => rfl
  have HSN : Hid (setsN (afterS l) t c = (List.range (amongN (afterS l) t c + 1)).filter (setB (afterS l) t c)) := rfl
  have HISW := Lib.hid (fun (x : Nat) (hx : x < 4294967296) (w1 : World) (hr : Rd w1 (.slice aa l.length ac) (u32s (afterS l))) => isWhole_any ha ca hn hc cn cc _ (afterS l) x t (othersN c t) w1 hr (by omega) hA32 hx ho32 (by omega))
  generalize setsN (afterS l) t c = SS at *
  obtain ⟨pb, hpb⟩ : ∃ pb, setB (afterS l) t c = pb := ⟨_, rfl⟩
  rw [hpb] at HSB HSN
  obtain ⟨un, hun⟩ : ∃ un, amongN (afterS l) t c = un := ⟨_, rfl⟩
  obtain ⟨on, hon⟩ : ∃ on, othersN c t = on := ⟨_, rfl⟩
  rw [hun] at HSB HSN hu64
  rw [hon] at HSB HISW
  have HUN := Lib.hid hun
  have HON := Lib.hid hon
  obtain rfl : SS = (List.range (un + 1)).filter pb := HSN.out
  have c0 := hC.up.cell (i := 0) rfl
  rw [hun] at c0
  have HC := Lib.hid hC
  have HJ := Lib.hid hJ
  have HY := Lib.hid hY
  have HTOP := Lib.hid htop
  have HJ0 : Hid (J ((List.range 0).filter pb) X W) := hJ0
  clear hC hJ hJx hY htop hJ0 hA32 hpb hun hon HSN
  refine (callsIn_wide (n := 6)).1 ?_
  refine callsIn_of_wp Tryz.func83 rfl trivial ?_ rfl
  simp only [Tryz.ntmps83, List.size_toArray, List.length_cons, List.length_nil, Nat.reduceAdd, Nat.reduceSub, Array.replicate_succ, Array.replicate_zero, List.push_toArray, List.append_toArray, List.nil_append, List.cons_append]
  gi_wp2
  gi_loopw [9] (fun p wr => ∃ (x : Nat) (X' : Nat → Prop), x ≤ un + 1 ∧ p = .int .u32 (x : Int) ∧ Hid (J ((List.range x).filter pb) X' wr) ∧ Hid (StC (.slice ha hn hc) (.slice ca cn cc) aa ac l t c U E Tb O X' wr) ∧ Hid (W.heap.size ≤ wr.heap.size))
    (fun p _ => un + 1 - (intOf p).toNat)
  case atStart => exact ⟨0, X, by omega, rfl, HJ0, HC, Nat.le_refl _⟩
  case round =>
    clear HJ0 HC c0
    obtain ⟨x, X', hx, rfl, HJi, HIi, HSZ⟩ := hrel
    by_cases hlt : x < un + 1
    · have c0 := HIi.out.up.cell (i := 0) rfl
      rw [HUN.out] at c0
      have hx32 : x < 4294967296 := by omega
      have hano := u32_andNot_nat x un hx32 (by omega)
      have hln : x &&& (4294967295 - un) = lessN x un := rfl
      rw [hln] at hano
      have HP := Lib.hid (HSB.out x)
      clear hln
      generalize lessN x un = z at *
      by_cases hz : z = 0
      · subst hz
        have e0 := HIi.out.box.cell (i := 0) rfl
        have e1 := HIi.out.box.cell (i := 1) rfl
        have e2 := HIi.out.box.cell (i := 2) rfl
        have t0 := HIi.out.tx.cell (i := 0) rfl
        have o0 := HIi.out.oth.cell (i := 0) rfl
        rw [HON.out] at o0
        have hW := HISW.out x hx32 wr HIi.out.aft.rd
        cases hb : wholeB (afterS l) x t on with
        | false =>
          have HPN := Lib.hid (range_no (p := pb) (x := x) (by rw [HP.out, hb]; rfl))
          rw [hb] at hW
          clear HP hb
          gi_wp2_with (refine ⟨trivial, ?_⟩; gi_at_call 84; refine (callsIn_wide.2 hW).mono ?_; rintro e w3 ⟨rfl, hb3⟩)
          refine ⟨fun _ h => (by cases h), ?_⟩
          gi_wp2
          have HJ3 : Hid (J ((List.range (x + 1)).filter pb) X' w3) := by
            unfold Hid; rw [HPN.out]; exact HJ.out.mono HSZ.out |>.below HJi.out hb3
          have HI3 := Lib.hid (HIi.out.kept (Kept.below X' hb3))
          have HSZ3 : Hid (W.heap.size ≤ w3.heap.size) := Nat.le_trans HSZ.out hb3.size
          go_roundw
          case rel => exact ⟨x + 1, X', by omega, by go_num, HJ3, HI3, HSZ3⟩
          case measure => simp [intOf]; omega
        | true =>
          have HPY := Lib.hid (range_yes (p := pb) (x := x) (by rw [HP.out, hb]; rfl))
          rw [hb] at hW
          clear HP hb
          have HPRE : Hid ((List.range (x + 1)).filter pb <+: (List.range (un + 1)).filter pb) := range_pre (by omega)
          have HYW : Hid (∀ (w3 : World), Below wr.heap.size wr w3 → YieldAt Fence.wide 3 Tryz.prog lp #[.int .u32 (x : Int)] w3 fun e W' =>
              (e = .returned (.bool true) ∧ ∃ Z, J ((List.range (x + 1)).filter pb) Z W' ∧ Kept X' Z w3 W') ∨ (e = .returned (.bool false) ∧ ∃ Z, Jx ((List.range (x + 1)).filter pb) Z W' ∧ Kept X' Z w3 W')) := fun w3 hb3 => by
            have := HY.out ((List.range x).filter pb) x #[.int .u32 (x : Int)] X' w3 (HJ.out.mono HSZ.out |>.below HJi.out hb3) (by rw [← HPY.out]; exact HPRE.out) rfl
            rw [← HPY.out] at this
            exact this
          gi_wp2_with (refine ⟨trivial, ?_⟩; gi_at_call 84; refine (callsIn_wide.2 hW).mono ?_; rintro e w3 ⟨rfl, hb3⟩; obtain ⟨fn, tmps, assign, body, hy, hR⟩ := HYW.out w3 hb3)
          refine (round_depth hR).mono ?_
          rintro e W4 (⟨rfl, Z, gJ, gk⟩ | ⟨rfl, Z, gJ, gk⟩)
          · have HI4 := Lib.hid ((HIi.out.kept (Kept.below X' hb3)).kept gk)
            have HJ4 := Lib.hid gJ
            have HSZ4 : Hid (W.heap.size ≤ W4.heap.size) := Nat.le_trans HSZ.out (Nat.le_trans hb3.size gk.size)
            clear gJ gk hb3 hy hR hW c0 e0 e1 e2 t0 o0
            gi_wp2
            go_roundw
            case rel => exact ⟨x + 1, Z, by omega, by go_num, HJ4, HI4, HSZ4⟩
            case measure => simp [intOf]; omega
          · have HJ4 := Lib.hid gJ
            clear gJ gk hb3 hy hR hW c0 e0 e1 e2 t0 o0
            gi_wp2
            refine bodyPost_ret (results_none rfl _ _ _) rfl ?_
            exact ⟨⟨_, rfl⟩, .inr ⟨_, Z, HPRE.out, HJ4.out⟩⟩
      · have hzb : ((z : Int) == 0) = false := by rw [beq_eq_false_iff_ne]; omega
        have HPN := Lib.hid (range_no (p := pb) (x := x) (by rw [HP.out, decide_eq_false hz]; rfl))
        clear HP
        have HJ3 : Hid (J ((List.range (x + 1)).filter pb) X' wr) := by
          unfold Hid; rw [HPN.out]; exact HJi.out
        gi_wp2
        refine ⟨trivial, ?_⟩
        gi_wp2
        refine ⟨fun _ h => (by cases h), ?_⟩
        gi_wp2
        go_roundw
        case rel => exact ⟨x + 1, X', by omega, by go_num, HJ3, HIi, HSZ⟩
        case measure => simp [intOf]; omega
    · obtain rfl : x = un + 1 := by omega
      have c0 := HIi.out.up.cell (i := 0) rfl
      gi_wp2
      go_end0
      exact ⟨⟨_, rfl⟩, .inl ⟨X', HJi.out⟩⟩
set_option maxRecDepth 100000 in
set_option maxHeartbeats 2000000 in
theorem setsW_any (ha ca aa : Option Addr) (hn hc cn cc ac : Nat) (l : List Tx) (h6 : l.length ≤ 6) (t c : Nat) (ht : t < l.length) (hcl : c < 2 ^ l.length) (w : World) (hr : Rd w (.slice aa l.length ac) (u32s (afterS l))) :
    Calls Tryz.prog 64 #[.agg #[.slice ha hn hc, .slice aa l.length ac, .slice ca cn cc], .int .i64 (t : Int), .int .u32 (c : Int)] w fun e w' => ∃ U, e = .returned (.func (.func 83) #[] #[.pointer (some ⟨U, 0, none⟩), .pointer (some ⟨w.heap.size, 0, none⟩), .pointer (some ⟨w.heap.size + 1, 0, none⟩), .pointer (some ⟨w.heap.size + 2, 0, none⟩)]) ∧ Below w.heap.size w w' ∧
      ∀ X, (∀ k, X k → k < w.heap.size) → RdX X w (.slice aa l.length ac) (u32s (afterS l)) → StC (.slice ha hn hc) (.slice ca cn cc) aa ac l t c U w.heap.size (w.heap.size + 1) (w.heap.size + 2) X w' := by
  have hal := afterS_len l
  have hc32 := lt32 h6 hcl
  have hta : t < (afterS l).length := by omega
  have hA := afterS_32 h6 _ (List.getElem_mem hta)
  obtain ⟨b, o, c', he, -, hcs⟩ := hr.opened (by rw [u32s_len]; omega)
  have hct := hcs t _ (u32s_get hta)
  rw [u32s_len, hal] at he
  simp only [Value.slice.injEq] at he
  obtain ⟨rfl, -, rfl⟩ := he
  clear hcs hr
  have hUN : amongN (afterS l) t c = lessN (othersN c t) (afterS l)[t] := by
    unfold amongN
    rw [List.getD_eq_getElem?_getD, List.getElem?_eq_getElem hta]; rfl
  have ho32 : othersN c t < 4294967296 := Nat.lt_of_le_of_lt (lessN_le _ _) hc32
  have htb := wbit_any t (by omega)
  have hlt4 : 2 ^ t < 4294967296 := Nat.pow_lt_pow_right (a := 2) (m := t) (n := 32) (by decide) (by omega)
  have hano := u32_andNot_nat c (2 ^ t) hc32 hlt4
  have hon : c &&& (4294967295 - 2 ^ t) = othersN c t := rfl
  rw [hon] at hano
  obtain ⟨on, hon2⟩ : ∃ on, othersN c t = on := ⟨_, rfl⟩
  rw [hon2] at hano ho32 hUN
  have hano2 := u32_andNot_nat on (afterS l)[t] ho32 hA
  have hun : on &&& (4294967295 - (afterS l)[t]) = lessN on (afterS l)[t] := rfl
  rw [hun, ← hUN] at hano2
  have HB1 : Hid (∀ v0 : Value, Below w.heap.size w (((w.alloc (.cells #[.slice ha hn hc, .slice (some ⟨b, o, none⟩) l.length ac, .slice ca cn cc] 48)).alloc (.cells #[.int .i64 (t : Int)] 3)).alloc (.cells #[v0] 23))) := fun v0 =>
    (((Below.refl w.heap.size w).alloc (Nat.le_refl _) _).alloc (by simp) _).alloc (by simp; omega) _
  have HS1 : Hid (∀ v0 : Value, (((w.alloc (.cells #[.slice ha hn hc, .slice (some ⟨b, o, none⟩) l.length ac, .slice ca cn cc] 48)).alloc (.cells #[.int .i64 (t : Int)] 3)).alloc (.cells #[v0] 23)).heap.size = w.heap.size + 3) := fun v0 => by simp
  have HA0 : Hid (∀ v0 : Value, At (((w.alloc (.cells #[.slice ha hn hc, .slice (some ⟨b, o, none⟩) l.length ac, .slice ca cn cc] 48)).alloc (.cells #[.int .i64 (t : Int)] 3)).alloc (.cells #[v0] 23)) w.heap.size #[.slice ha hn hc, .slice (some ⟨b, o, none⟩) l.length ac, .slice ca cn cc] 48) := fun v0 => ((At.new w _ _).alloc _).alloc _
  have HA1 : Hid (∀ v0 : Value, At (((w.alloc (.cells #[.slice ha hn hc, .slice (some ⟨b, o, none⟩) l.length ac, .slice ca cn cc] 48)).alloc (.cells #[.int .i64 (t : Int)] 3)).alloc (.cells #[v0] 23)) (w.heap.size + 1) #[.int .i64 (t : Int)] 3) := fun v0 => by
    have h := (At.new (w.alloc (.cells #[.slice ha hn hc, .slice (some ⟨b, o, none⟩) l.length ac, .slice ca cn cc] 48)) #[.int .i64 (t : Int)] 3).alloc (.cells #[v0] 23)
    rwa [World.size_alloc] at h
  have HA2 : Hid (∀ v0 : Value, At (((w.alloc (.cells #[.slice ha hn hc, .slice (some ⟨b, o, none⟩) l.length ac, .slice ca cn cc] 48)).alloc (.cells #[.int .i64 (t : Int)] 3)).alloc (.cells #[v0] 23)) (w.heap.size + 2) #[v0] 23) := fun v0 => by
    have h := At.new ((w.alloc (.cells #[.slice ha hn hc, .slice (some ⟨b, o, none⟩) l.length ac, .slice ca cn cc] 48)).alloc (.cells #[.int .i64 (t : Int)] 3)) #[v0] 23
    rwa [World.size_alloc, World.size_alloc] at h
  have HC0 := Lib.hid hct
  have HON := Lib.hid hon2
  have HUN : Hid (amongN (afterS l) t c = amongN (afterS l) t c) := rfl
  obtain ⟨un, hun2⟩ : ∃ un, amongN (afterS l) t c = un := ⟨_, rfl⟩
  have HUN2 := Lib.hid hun2
  rw [hun2] at hano2
  clear hUN hun2 hon2 hon hun HUN hct
  generalize (afterS l)[t] = at_ at *
  obtain ⟨pt, hpt⟩ : ∃ pt, 2 ^ t = pt := ⟨_, rfl⟩
  rw [hpt] at htb hano hlt4
  clear hpt
  have htn : t < l.length := ht
  obtain ⟨n, hn'⟩ : ∃ n, l.length = n := ⟨_, rfl⟩
  have HN := Lib.hid hn'
  rw [hn'] at HB1 HS1 HA0 HA1 HA2 htn ⊢
  clear hn' hcl h6 hta hal ht
  go_enter Tryz.func64, Tryz.ntmps64
  go_wp2_with (go_at_call 51; refine (htb _).mono ?_; rintro e w3 ⟨rfl, hw3⟩; have hw3 := hw3.symm; subst hw3)
  have b3 := HB1.out (.int .u32 (on : Int))
  have s3 := HS1.out (.int .u32 (on : Int))
  have a0 := HA0.out (.int .u32 (on : Int))
  have a1 := HA1.out (.int .u32 (on : Int))
  have a2 := HA2.out (.int .u32 (on : Int))
  generalize ((w.alloc (.cells #[.slice ha hn hc, .slice (some ⟨b, o, none⟩) n ac, .slice ca cn cc] 48)).alloc (.cells #[.int .i64 (t : Int)] 3)).alloc (.cells #[.int .u32 (on : Int)] 23) = W3 at *
  have HB3 := Lib.hid b3
  have HA0' := Lib.hid a0
  have HA1' := Lib.hid a1
  have HA2' := Lib.hid a2
  have HC3 := Lib.hid (cell_on b3 HC0.out)
  have HB4 : Hid (Below W3.heap.size W3 (W3.drew.alloc (.cells #[.int .u32 0] 23))) := ((Below.refl _ W3).drew).alloc (Nat.le_refl _) _
  have HN4 : Hid (At (W3.drew.alloc (.cells #[.int .u32 0] 23)) W3.heap.size #[.int .u32 0] 23) := At.new W3.drew _ _
  clear b3 a0 a1 a2 HB1 HS1 HA0 HA1 HA2 HC0 htb
  refine wp_region_held_drew (S := fun W => W.cell? ⟨w.heap.size + 2, 0, none⟩ = some (.int .u32 (on : Int)) ∧ W.cell? ⟨w.heap.size, 1, none⟩ = some (.slice (some ⟨b, o, none⟩) n ac) ∧ W.cell? ⟨w.heap.size + 1, 0, none⟩ = some (.int .i64 (t : Int)) ∧ W.cell? ⟨b, o + t, none⟩ = some (.int .u32 (at_ : Int)))
    (by kernel_rfl) ⟨HA2'.out.cell rfl, HA0'.out.cell rfl, HA1'.out.cell rfl, HC3.out⟩ (fun hS => ?_)
  refine wpAnyH_take (i := 0) (v := .int .u32 (on : Int)) rfl (by kernel_rfl) (by kernel_rfl) (by kernel_rfl) (fun _ _ _ h => h) (Or.inl ⟨by rfl, fun W5 hw5 => by obtain ⟨z0, z1, z2, z3⟩ := hw5; go_simp⟩) hS ?_
  simp only [Act.put, List.setIfInBounds_toArray]
  refine wpAnyH_take (i := 1) (v := .pointer (some ⟨w.heap.size, 1, none⟩)) rfl (by kernel_rfl) (by kernel_rfl) (by kernel_rfl) (fun _ _ _ h => h) (Or.inl ⟨by rfl, fun W5 hw5 => by go_simp⟩) hS ?_
  simp only [Act.put]
  refine wpAnyH_take (i := 2) (v := .slice (some ⟨b, o, none⟩) n ac) rfl (by kernel_rfl) (by kernel_rfl) (by kernel_rfl) (fun _ _ _ h => h) (Or.inl ⟨by rfl, fun W5 hw5 => by obtain ⟨z0, z1, z2, z3⟩ := hw5; go_simp⟩) hS ?_
  simp only [Act.put]
  refine wpAnyH_take (i := 3) (v := .int .i64 (t : Int)) rfl (by kernel_rfl) (by kernel_rfl) (by kernel_rfl) (fun _ _ _ h => h) (Or.inl ⟨by rfl, fun W5 hw5 => by obtain ⟨z0, z1, z2, z3⟩ := hw5; go_simp⟩) hS ?_
  simp only [Act.put]
  refine wpAnyH_take (i := 4) (v := .pointer (some ⟨b, o + t, none⟩)) rfl (by kernel_rfl) (by kernel_rfl) (by kernel_rfl) (fun _ _ _ h => h) (Or.inl ⟨by rfl, fun W5 hw5 => by go_simp⟩) hS ?_
  simp only [Act.put]
  refine wpAnyH_take (i := 5) (v := .int .u32 (at_ : Int)) rfl (by kernel_rfl) (by kernel_rfl) (by kernel_rfl) (fun _ _ _ h => h) (Or.inl ⟨by rfl, fun W5 hw5 => by obtain ⟨z0, z1, z2, z3⟩ := hw5; go_simp⟩) hS ?_
  simp only [Act.put]
  refine wpAnyH_take (i := 6) (v := .int .u32 (un : Int)) rfl (by kernel_rfl) (by kernel_rfl) (by kernel_rfl) (fun _ _ _ h => h) (Or.inl ⟨by rfl, fun W5 hw5 => by go_simp⟩) hS ?_
  simp only [Act.put]
  have hS4 : (W3.drew.alloc (.cells #[.int .u32 0] 23)).cell? ⟨w.heap.size + 2, 0, none⟩ = some (.int .u32 (on : Int)) ∧ (W3.drew.alloc (.cells #[.int .u32 0] 23)).cell? ⟨w.heap.size, 1, none⟩ = some (.slice (some ⟨b, o, none⟩) n ac) ∧ (W3.drew.alloc (.cells #[.int .u32 0] 23)).cell? ⟨w.heap.size + 1, 0, none⟩ = some (.int .i64 (t : Int)) ∧ (W3.drew.alloc (.cells #[.int .u32 0] 23)).cell? ⟨b, o + t, none⟩ = some (.int .u32 (at_ : Int)) :=
    ⟨cell_on HB4.out (HA2'.out.cell rfl), cell_on HB4.out (HA0'.out.cell rfl), cell_on HB4.out (HA1'.out.cell rfl), cell_on HB4.out HC3.out⟩
  have HB5 : Hid (Below W3.heap.size W3 (W3.alloc (.cells #[.int .u32 (un : Int)] 23)).drew) := ((Below.refl _ W3).alloc (Nat.le_refl _) _).drew
  have HU5 : Hid (At (W3.alloc (.cells #[.int .u32 (un : Int)] 23)).drew W3.heap.size #[.int .u32 (un : Int)] 23) := (At.new W3 _ _).drew
  have hS5 : (W3.alloc (.cells #[.int .u32 (un : Int)] 23)).drew.cell? ⟨w.heap.size + 2, 0, none⟩ = some (.int .u32 (on : Int)) ∧ (W3.alloc (.cells #[.int .u32 (un : Int)] 23)).drew.cell? ⟨w.heap.size, 1, none⟩ = some (.slice (some ⟨b, o, none⟩) n ac) ∧ (W3.alloc (.cells #[.int .u32 (un : Int)] 23)).drew.cell? ⟨w.heap.size + 1, 0, none⟩ = some (.int .i64 (t : Int)) ∧ (W3.alloc (.cells #[.int .u32 (un : Int)] 23)).drew.cell? ⟨b, o + t, none⟩ = some (.int .u32 (at_ : Int)) :=
    ⟨cell_on HB5.out (HA2'.out.cell rfl), cell_on HB5.out (HA0'.out.cell rfl), cell_on HB5.out (HA1'.out.cell rfl), cell_on HB5.out HC3.out⟩
  have hcn := HN4.out.cell (i := 0) rfl
  have hfn := HN4.out.free 0
  refine wpAnyH_ready (rs := [7]) (by kernel_rfl) (by simp) (AllReadyH.cons rfl (fun K5 hK5 => ?_) AllReadyH.nil)
  go_simp
  refine hK5.out _ _ hS4 (fun hS => ?_)
  clear hK5 K5
  refine wpAnyH_ready (rs := [8]) (by kernel_rfl) (by simp) (AllReadyH.cons rfl (fun K5 hK5 => ?_) AllReadyH.nil)
  go_simp
  refine hK5.out _ _ hS5 (fun _ => wpAnyH_done (by kernel_rfl) ?_ _)
  clear hK5 K5
  have HF : Hid (Below w.heap.size w (W3.alloc (.cells #[.int .u32 (un : Int)] 23)).drew) := HB3.out.trans (HB5.out.mono HB3.out.size)
  have HE5 := Lib.hid (HA0'.out.below HB5.out HA0'.out.lt)
  have HT5 := Lib.hid (HA1'.out.below HB5.out HA1'.out.lt)
  have HO5 := Lib.hid (HA2'.out.below HB5.out HA2'.out.lt)
  clear hS hS4 hS5 hcn hfn
  generalize (W3.alloc (.cells #[.int .u32 (un : Int)] 23)).drew = W5 at *
  go_wp2
  go_ret
  refine ⟨_, rfl, HF.out, fun X hX hr => ⟨?_, ?_, ?_, HT5.out, ?_, fun hk => by have := hX _ hk; omega, fun hk => by have := hX _ hk; omega, fun hk => by have := hX _ hk; omega, fun hk => by have := hX _ hk; omega⟩⟩
  · rw [HN.out]; exact HE5.out
  · rw [HN.out]; exact hr.below HF.out
  · rw [HUN2.out, ← s3]; exact HU5.out
  · rw [HON.out]; exact HO5.out
end Go.Proofs.YtpjfhdljagkefaaGreatDoor
