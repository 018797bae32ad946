/- The walk of package world's trace.world: what is found of one choice. -/
import Derived.Test.YtpjfhdljagkefaaGreatDoorMg20
import Derived.Test.YtpjfhdljagkefaaGreatDoorMg4
namespace Go.Proofs.YtpjfhdljagkefaaGreatDoor.WPlain
end Go.Proofs.YtpjfhdljagkefaaGreatDoor.WPlain
namespace Go.Proofs.YtpjfhdljagkefaaGreatDoor.QPlain
end Go.Proofs.YtpjfhdljagkefaaGreatDoor.QPlain
namespace Go.Proofs.YtpjfhdljagkefaaGreatDoor.RPlain
end Go.Proofs.YtpjfhdljagkefaaGreatDoor.RPlain
namespace Go.Proofs.YtpjfhdljagkefaaGreatDoor
open Go.RowKit WPlain QPlain RPlain

/-- findings of the call's own, whose rows lie apart from what is told -/
def FOwnS (S : Nat → Prop) (B : Nat) (w : World) (v : Value) (l : List Fd) : Prop := ∃ ps : List (Fd × Value), ps.map (·.1) = l ∧ w.ownsRow B 26 4 v ps.length (ps.flatMap fdC) ∧ ∀ p ∈ ps, RdX (fun k => S k ∨ v.ownBlock = some k) w p.2 (ints p.1.r) ∧ SrcN p.2 ∧ CapV p.2
theorem FOwnS.nil0 (S : Nat → Prop) (B : Nat) (w : World) : FOwnS S B w (.slice none 0 0) [] := ⟨[], rfl, World.ownsRow_nil _ _ _ _, fun _ h => by cases h⟩
theorem FOwnS.fds {S : Nat → Prop} {B : Nat} {w : World} {v : Value} {l : List Fd} (h : FOwnS S B w v l) : Fds w v l := by
  obtain ⟨ps, rfl, hr, ho⟩ := h
  exact ⟨ps, rfl, Rws.of_row fdC_len hr, fun p hp => (ho p hp).1.rd⟩
theorem FOwnS.top {S : Nat → Prop} {B : Nat} {w : World} {v : Value} {l : List Fd} (h : FOwnS S B w v l) {k : Nat} (hk : v.ownBlock = some k) : B ≤ k ∧ k < w.heap.size := by
  obtain ⟨ps, he, hr, hq⟩ := h
  exact hr.lt k hk
theorem FOwnS.later {S : Nat → Prop} {B : Nat} {w w' : World} {v : Value} {l : List Fd} (h : FOwnS S B w v l) (hb : Below w.heap.size w w') : FOwnS S B w' v l := by
  obtain ⟨ps, he, hr, hq⟩ := h
  refine ⟨ps, he, ⟨hr.1, ?_⟩, fun p hp => ⟨(hq p hp).1.below hb, (hq p hp).2⟩⟩
  rcases hr.2 with hn | ⟨g, cap, cur, rfl, hB, hg, rest⟩
  · exact .inl hn
  · refine .inr ⟨g, cap, cur, rfl, hB, ?_, rest⟩
    rw [hb.block g (Array.getElem?_eq_some_iff.1 hg).1]
    exact hg
theorem FOwnS.low {S : Nat → Prop} {B B' : Nat} {w : World} {v : Value} {l : List Fd} (h : FOwnS S B w v l) (hb : B' ≤ B) : FOwnS S B' w v l := by
  obtain ⟨ps, he, hr, ho⟩ := h
  refine ⟨ps, he, ⟨hr.1, ?_⟩, ho⟩
  rcases hr.2 with hn | ⟨g, cap, cur, rfl, hB, rest⟩
  · exact .inl hn
  · exact .inr ⟨g, cap, cur, rfl, by omega, rest⟩
theorem FOwnS.only {S s : Nat → Prop} {B : Nat} {w w' : World} {v : Value} {l : List Fd} (h : FOwnS S B w v l) (ho : Only s w w') (hs : ∀ k, s k → S k) (hv : ∀ k, v.ownBlock = some k → ¬ s k) : FOwnS S B w' v l := by
  obtain ⟨ps, he, hr, hq⟩ := h
  exact ⟨ps, he, own_only hr ho hv, fun p hp => ⟨(hq p hp).1.only ho (fun k hk => .inl (hs k hk)), (hq p hp).2⟩⟩
theorem FOwnS.less {S T : Nat → Prop} {B : Nat} {w : World} {v : Value} {l : List Fd} (h : FOwnS S B w v l) (hs : ∀ k, T k → S k) : FOwnS T B w v l := by
  obtain ⟨ps, he, hr, hq⟩ := h
  exact ⟨ps, he, hr, fun p hp => ⟨(hq p hp).1.less (fun k hk => hk.imp_left (hs k)), (hq p hp).2⟩⟩
/-- one more of them -/
theorem FOwnS.add {S : Nat → Prop} {B : Nat} {w w' : World} {v v' u : Value} {ps : List (Fd × Value)} {f : Fd} (hq : ∀ p ∈ ps, RdX (fun k => S k ∨ v.ownBlock = some k) w p.2 (ints p.1.r) ∧ SrcN p.2 ∧ CapV p.2) (hu : RdX (fun k => S k ∨ v.ownBlock = some k) w u (ints f.r) ∧ SrcN u ∧ CapV u)
    (hr : w'.ownsRow B 26 4 v' (ps.length + 1) (ps.flatMap fdC ++ fdC (f, u))) (hg : w.grownBy w' v.ownBlock) (hl : Lies w v v') : FOwnS S B w' v' (ps.map (·.1) ++ [f]) := by
  have hkeep : ∀ (x : Value) (xs : List Value), RdX (fun k => S k ∨ v.ownBlock = some k) w x xs → RdX (fun k => S k ∨ v'.ownBlock = some k) w' x xs := by
    intro x xs hx
    rcases hx with h0 | ⟨hp, b, o, c, rfl, hb, hc⟩
    · exact .inl h0
    · have hlt : b < w.heap.size := World.block_lt_of_cell? (a := ⟨b, o + 0, none⟩) w (hc 0 _ (List.getElem?_eq_getElem hp))
      refine .inr ⟨hp, b, o, c, rfl, ?_, fun i y hy => ?_⟩
      · rintro (hk | hk)
        · exact hb (.inl hk)
        · rcases hl with he | hh
          · rw [he] at hk; exact hb (.inr hk)
          · have := hh _ hk
            omega
      · exact hg.cell (hc i y hy) (fun h => hb (.inr h.symm))
  refine ⟨ps ++ [(f, u)], by simp, ?_, fun p hp => ?_⟩
  · rw [List.length_append, List.length_singleton, List.flatMap_append, List.flatMap_cons, List.flatMap_nil, List.append_nil]
    exact hr
  · rcases List.mem_append.1 hp with hp | hp
    · exact ⟨hkeep _ _ (hq p hp).1, (hq p hp).2⟩
    · rw [List.mem_singleton.1 hp]
      exact ⟨hkeep _ _ hu.1, hu.2⟩
/-- a finding as it lies -/
def toFd (x : Nat × List Nat × Nat) : Fd := ⟨0, (x.1 : Nat), x.2.1.map fun y : Nat => (y : Int), (x.2.2 : Nat)⟩
theorem toFd_row (x : Nat × List Nat × Nat) : ints (toFd x).r = nats x.2.1 := by simp [toFd, ints, nats]
/-- what is found, as a value, and as it lies -/
def wldV (v c : Nat) (rv ov : Value) (s : Nat) : Value := .agg #[.int .i64 (v : Int), .int .u32 (c : Int), rv, ov, .int .i64 (s : Int)]
def wldA (v c : Nat) (rv ov : Value) (s : Nat) : Array Value := #[.int .i64 (v : Int), .int .u32 (c : Int), rv, ov, .int .i64 (s : Int)]
theorem infoFd : (Tryz.prog.info? 26).map (fun i => (i.zero, i.size, i.bytes)) = some (some (.agg #[.int .i64 0, .int .u32 0, .slice none 0 0, .int .i64 0]), 4, 48) := by kernel_rfl
theorem wld_only (w : World) (N : Nat) (x0 x1 x2 x3 x4 : Value) : Only (fun k => k = N) w (((((w.setCell ⟨N, 0, none⟩ x0).setCell ⟨N, 1, none⟩ x1).setCell ⟨N, 2, none⟩ x2).setCell ⟨N, 3, none⟩ x3).setCell ⟨N, 4, none⟩ x4) :=
  (((((Only.refl (fun k => k = N) w).setCell (p := ⟨N, 0, none⟩) (fun _ => rfl) x0).setCell (p := ⟨N, 1, none⟩) (fun _ => rfl) x1).setCell (p := ⟨N, 2, none⟩) (fun _ => rfl) x2).setCell (p := ⟨N, 3, none⟩) (fun _ => rfl) x3).setCell (p := ⟨N, 4, none⟩) (fun _ => rfl) x4
theorem wld_set {w : World} {N v c s : Nat} {rv ov : Value} (h : At w N (wldA v c rv ov s) 40) (x0 x1 x2 x3 x4 : Value) :
    At (((((w.setCell ⟨N, 0, none⟩ x0).setCell ⟨N, 1, none⟩ x1).setCell ⟨N, 2, none⟩ x2).setCell ⟨N, 3, none⟩ x3).setCell ⟨N, 4, none⟩ x4) N #[x0, x1, x2, x3, x4] 40 :=
  ((((h.set 0 x0).set 1 x1).set 2 x2).set 3 x3).set 4 x4
set_option maxRecDepth 100000 in
set_option maxHeartbeats 8000000 in
theorem worldW_any (ha aa ca : Option Addr) (hc ac cn cc : Nat) (h : List Ev) (c B : Nat) (w : World) (hE : TrE w (.slice ha h.length hc) (.slice aa (tableS h).length ac) h) (hcl : c < 2 ^ (tableS h).length) (hB : B ≤ 1000000)
    (S : Nat → Prop) (hS : ∀ k, S k → k < w.heap.size) (hr : RdX S w (.slice aa (tableS h).length ac) (u32s (afterS (tableS h)))) :
    Calls Tryz.prog 28 #[.agg #[.slice ha h.length hc, .slice aa (tableS h).length ac, .slice ca cn cc], .int .u32 (c : Int), .int .i64 (B : Int)] w fun e w' => ∃ rv ov, e = .returned (.tuple #[wldV (choiceW B (tableS h) c 0).1 (if (choiceW B (tableS h) c 0).1 = 0 then c else 0) rv ov (choiceW B (tableS h) c 0).2.2.2, .int .i64 0]) ∧
      RdX S w' rv (nats (choiceW B (tableS h) c 0).2.1) ∧ CapV rv ∧ FOwnS S w.heap.size w' ov ((choiceW B (tableS h) c 0).2.2.1.map toFd) ∧ Below w.heap.size w w' := by
  obtain ⟨w1, hw1⟩ : ∃ w1, (w.alloc (.cells #[.slice ha h.length hc, .slice aa (tableS h).length ac, .slice ca cn cc] 48)).alloc (.cells #[.int .i64 0, .int .u32 0, .slice none 0 0, .slice none 0 0, .int .i64 0] 40) = w1 := ⟨_, rfl⟩
  have HB1 : Hid (Below w.heap.size w w1) := by
    rw [← hw1]
    exact ((Below.refl _ w).alloc (Nat.le_refl _) _).alloc (by simp) _
  obtain ⟨N, hN⟩ : ∃ N, w.heap.size = N := ⟨_, rfl⟩
  have HE1 : Hid (At w1 N #[.slice ha h.length hc, .slice aa (tableS h).length ac, .slice ca cn cc] 48) := by
    rw [← hw1, ← hN]
    exact (At.new w _ _).alloc _
  have HA1 : Hid (At w1 (N + 1) (wldA 0 0 (.slice none 0 0) (.slice none 0 0) 0) 40) := by
    rw [← hw1, ← hN]
    have := At.new (w.alloc (.cells #[.slice ha h.length hc, .slice aa (tableS h).length ac, .slice ca cn cc] 48)) (wldA 0 0 (.slice none 0 0) (.slice none 0 0) 0) 40
    rwa [World.size_alloc] at this
  have hN1 : N + 1 < w1.heap.size := HA1.out.lt
  have h6 := table_six hE.ok
  have hc32 := lt32 h6 hcl
  have hse : srchE h (B : Int) = 0 := by unfold srchE; rw [if_pos hE.ok, if_neg (by omega)]
  have hre : rowE h c c (B : Int) = 0 := by unfold rowE; rw [if_pos hse, Nat.or_self, if_pos hcl]
  have hrf : rowF h c c (B : Int) = searchG B (tableS h) (fun _ => c) [c] 0 := by unfold rowF; rw [if_pos hre, Int.toNat_natCast]
  have HROW := Lib.hid (rowX_any _ h c c (B : Int) w1 (hE.later HB1.out).kinds (hE.later HB1.out).evs hE.len hc32 hc32)
  rw [hre, hrf] at HROW
  obtain ⟨hv3, -, hv5, -, -, -, -, -⟩ := search_tells (B := B) (l := tableS h) (W := fun _ => c) (self_table h) [c] 0 (Nat.zero_le _)
  have hst := choiceW_step (B := B) (l := tableS h) (c := c) (Nat.zero_le B)
  rw [Nat.sub_zero, Nat.zero_add] at hst
  obtain ⟨X, hX⟩ : ∃ X, choiceW B (tableS h) c 0 = X := ⟨_, rfl⟩
  rw [hX] at hst ⊢
  obtain ⟨cx, hcx⟩ : ∃ z, (if X.1 = 0 then c else 0) = z := ⟨_, rfl⟩
  rw [hcx]
  have HCX := Lib.hid hcx
  clear hcx
  obtain ⟨x, hx⟩ : ∃ x, searchG B (tableS h) (fun _ => c) [c] 0 = x := ⟨_, rfl⟩
  rw [hx] at hst HROW hv3 hv5
  have HX := Lib.hid hst
  unfold fndV at HROW
  have HSEE := Lib.hid (fun (t : Nat) (ht : t < (tableS h).length) (s : Nat) (W : World) (hb : Below w.heap.size w W) (T : Nat → Prop) (hT : ∀ k, T k → k < W.heap.size) h2 => seenW_any ha ca aa hc cn cc ac h t c (B - s) W (hE.later hb) ht hcl (by omega) T hT h2)
  have HR := Lib.hid hr
  have HS := Lib.hid hS
  clear hX hx hst hse hre hrf hE hr hS
  go_enter Tryz.func28, Tryz.ntmps28
  have e0 : w1.cell? ⟨N, 0, none⟩ = some (.slice ha h.length hc) := HE1.out.cell rfl
  go_wp2_with fail
  refine HROW.out.mono ?_
  rintro e w2 ⟨rv, rfl, hr2, hcv2, hb2⟩
  obtain ⟨ra, rc, rfl⟩ := hr2.rd.len
  obtain ⟨M, hM⟩ : ∃ M, w2.heap.size = M := ⟨_, rfl⟩
  obtain ⟨w3, hw3⟩ : ∃ w3, w2.alloc (.cells #[.int .i64 (x.1 : Int), .int .u32 (x.2.1 : Int), .slice ra (nats x.2.2.1).length rc, .int .i64 (x.2.2.2 : Int)] 26) = w3 := ⟨_, rfl⟩
  have HB3 : Hid (Below w1.heap.size w1 w3) := by
    rw [← hw3]
    exact hb2.trans (((Below.refl w2.heap.size w2).alloc (Nat.le_refl _) _).mono hb2.size)
  have HF3 : Hid (At w3 M #[.int .i64 (x.1 : Int), .int .u32 (x.2.1 : Int), .slice ra (nats x.2.2.1).length rc, .int .i64 (x.2.2.2 : Int)] 26) := by
    rw [← hw3, ← hM]
    exact At.new w2 _ _
  have HR3 : Hid (RdX (fun k => k < w1.heap.size) w3 (.slice ra (nats x.2.2.1).length rc) (nats x.2.2.1)) := by
    rw [← hw3]
    exact hr2.below ((Below.refl w2.heap.size w2).alloc (Nat.le_refl _) _)
  have hM3 : w3.heap.size = M + 1 := by rw [← hw3, ← hM]; simp
  have hM1 : w1.heap.size ≤ M := by rw [← hM]; exact hb2.size
  have HCV := Lib.hid hcv2
  obtain ⟨rn, hrn⟩ : ∃ z, (nats x.2.2.1).length = z := ⟨_, rfl⟩
  rw [hrn] at hw3 HF3 HR3 HCV ⊢
  have HRN := Lib.hid hrn
  have q0 : w3.cell? ⟨M, 0, none⟩ = some (.int .i64 (x.1 : Int)) := HF3.out.cell rfl
  have q3 : w3.cell? ⟨M, 3, none⟩ = some (.int .i64 (x.2.2.2 : Int)) := HF3.out.cell rfl
  have ha3 := HA1.out.below HB3.out hN1
  have HA3 := Lib.hid ha3
  have he3 := HE1.out.below HB3.out (by omega)
  have HE3 := Lib.hid he3
  clear hr2 hcv2 hb2 HROW hrn e0 ha3 he3
  have HB03 : Hid (Below N w w3) := by
    have := HB1.out.trans (HB3.out.mono HB1.out.size)
    rwa [hN] at this
  by_cases hv : x.1 = 0
  · have hXe := HX.out
    rw [if_neg (show ¬ x.1 ≠ 0 by omega)] at hXe
    have HXE := Lib.hid hXe
    clear hXe
    have hvz : (x.1 : Int) = 0 := by omega
    rw [hvz] at hw3 HF3 q0
    have HLN := Lib.hid h6
    obtain ⟨TT, hTT⟩ : ∃ TT, ownG B (tableS h) c (List.range (tableS h).length) x.2.2.2 = TT := ⟨_, rfl⟩
    have HT0 : Hid (joinO [] (ownG B (tableS h) c ((List.range (tableS h).length).drop 0) x.2.2.2) = TT) := by
      unfold Hid
      rw [List.drop_zero, joinO_nil]
      exact hTT
    unfold Hid at HXE
    rw [hTT] at HXE
    have HXE2 := Lib.hid HXE
    have HO0 : Hid (FOwnS (fun k => S k ∨ k = N + 1) (M + 1) w3 (.slice none 0 0) (([] : List (Nat × List Nat × Nat)).map toFd)) := FOwnS.nil0 _ _ _
    clear HXE hTT
    have e1 : w3.cell? ⟨N, 1, none⟩ = some (.slice aa (tableS h).length ac) := HE3.out.cell rfl
    have hX5 : x.2.2.2 ≤ B := hv5
    have HNX : Hid (∀ i (hi : i < (tableS h).length) s, s ≤ B → c.testBit i = false → ownG B (tableS h) c ((List.range (tableS h).length).drop i) s = if (oneS (B - s) (tableS h) i c 0).1 ≠ 0 then ((oneS (B - s) (tableS h) i c 0).1, [], s + (oneS (B - s) (tableS h) i c 0).2.2.2)
      else joinO [((oneS (B - s) (tableS h) i c 0).2.1, (oneS (B - s) (tableS h) i c 0).2.2.1, (oneS (B - s) (tableS h) i c 0).2.2.2)] (ownG B (tableS h) c ((List.range (tableS h).length).drop (i + 1)) (s + (oneS (B - s) (tableS h) i c 0).2.2.2))) := fun i hi s hs hb => by
      rw [List.drop_eq_getElem_cons (by rw [List.length_range]; exact hi), List.getElem_range]
      exact ownW_join hs hb _
    have HSK : Hid (∀ i (hi : i < (tableS h).length) s, c.testBit i = true → ownG B (tableS h) c ((List.range (tableS h).length).drop i) s = ownG B (tableS h) c ((List.range (tableS h).length).drop (i + 1)) s) := fun i hi s hb => by
      rw [List.drop_eq_getElem_cons (by rw [List.length_range]; exact hi), List.getElem_range]
      exact ownW_skip hb _
    have HEND : Hid (∀ s, ownG B (tableS h) c ((List.range (tableS h).length).drop (tableS h).length) s = (0, [], s)) := fun s => by
      rw [List.drop_eq_nil_of_le (by rw [List.length_range]; exact Nat.le_refl _)]
      rfl
    have HB33 : Hid (Below (M + 1) w3 w3) := Below.refl _ _
    have HN13 : N + 1 < M + 1 := by omega
    clear HB1 HE1 HA1
    go_wp2_with fail
    go_loopw [10, 11, 39] (fun y ov z wr => ∃ (i s : Nat) (acc : List (Nat × List Nat × Nat)), i ≤ (tableS h).length ∧ z = .int .i64 (i : Int) ∧ y = .int .i64 (s : Int) ∧ s ≤ B ∧ acc.length ≤ i ∧ Hid (joinO acc (ownG B (tableS h) c ((List.range (tableS h).length).drop i) s) = TT) ∧ Hid (FOwnS (fun k => S k ∨ k = N + 1) (M + 1) wr ov (acc.map toFd)) ∧ Hid (Below (M + 1) w3 wr))
      (fun _ _ z _ => (tableS h).length - (intOf z).toNat)
    case atStart => exact ⟨0, x.2.2.2, [], by omega, rfl, rfl, hX5, Nat.le_refl _, HT0, HO0, HB33⟩
    case round =>
      clear HT0 HO0 HB33 q0 q3 e1
      obtain ⟨i, s, acc, hi, rfl, rfl, hs, hac, HT, HO, HB⟩ := hrel
      have HBW : Hid (Below N w wr) := HB03.out.trans (HB.out.mono (by omega))
      by_cases hlt : i < (tableS h).length
      · have hkb := wbit_any i (by omega)
        have hlt3 : 2 ^ i < 4294967296 := Nat.pow_lt_pow_right (a := 2) (m := i) (n := 32) (by decide) (by omega)
        have hand := u32_and_nat c (2 ^ i) hc32 hlt3
        have hap := and_pow2 c i
        have hpos : 0 < 2 ^ i := Nat.two_pow_pos i
        obtain ⟨pw, hpw⟩ : ∃ pw, 2 ^ i = pw := ⟨_, rfl⟩
        rw [hpw] at hkb hlt3 hand hap hpos
        clear hpw
        cases hb : c.testBit i with
        | true =>
          rw [hb, if_pos rfl] at hap
          rw [hap] at hand
          have tq : ((pw : Int) != 0) = true := by simp; omega
          have HT2 : Hid (joinO acc (ownG B (tableS h) c ((List.range (tableS h).length).drop (i + 1)) s) = TT) := by
            unfold Hid; rw [← HSK.out i hlt s hb]; exact HT.out
          clear hap hb HT
          go_wp2_with (go_at_call 51; refine (hkb _).mono ?_; rintro e w4 ⟨rfl, rfl⟩)
          go_roundw
          case rel => exact ⟨i + 1, s, acc, by omega, by go_num, rfl, hs, by omega, HT2, HO, HB⟩
          case measure => simp [intOf]; omega
        | false =>
          rw [hb, if_neg (by decide)] at hap
          rw [hap] at hand
          have hnx := HNX.out i hlt s hs hb
          have HTT := HT.out
          rw [hnx] at HTT
          have HTT2 := Lib.hid HTT
          obtain ⟨hb1, hb2⟩ := one_bounds (B := B - s) (l := tableS h) (t := i) (c := c)
          obtain ⟨oa, oc, rfl⟩ := HO.out.fds.len
          have hsee := HSEE.out i hlt s wr (by rw [hN]; exact HBW.out) (fun k => (S k ∨ k = N + 1) ∨ (Value.slice oa (acc.map toFd).length oc).ownBlock = some k)
            (fun k hk => by
              rcases hk with (hk | hk) | hk
              · have := HS.out k hk; have := HBW.out.size; omega
              · have := HBW.out.size; have := HB.out.size; omega
              · exact (HO.out.top hk).2)
            ((HR.out.more (Y := fun k => (S k ∨ k = N + 1) ∨ (Value.slice oa (acc.map toFd).length oc).ownBlock = some k) (fun k hk hz => by
              rcases hz with (hz | hz) | hz
              · exact hz
              · omega
              · have := (HO.out.top hz).1; omega)).below (by rw [hN]; exact HBW.out))
          rw [Int.ofNat_sub hs] at hsee
          obtain ⟨o1, ho1⟩ : ∃ o1, oneS (B - s) (tableS h) i c 0 = o1 := ⟨_, rfl⟩
          rw [ho1] at hsee HTT2 hb1 hb2
          unfold fndV at hsee
          have he4 := HE3.out.below HB.out (by omega)
          have e0 : wr.cell? ⟨N, 0, none⟩ = some (.slice ha h.length hc) := he4.cell rfl
          have e1 : wr.cell? ⟨N, 1, none⟩ = some (.slice aa (tableS h).length ac) := he4.cell rfl
          have e2 : wr.cell? ⟨N, 2, none⟩ = some (.slice ca cn cc) := he4.cell rfl
          have hacl : (acc.map toFd).length = acc.length := List.length_map _
          have HSE := Lib.hid hsee
          clear hap hb HT hnx HTT ho1 he4 hsee hacl
          go_wp2_with (first | (go_at_call 51; refine (hkb _).mono ?_; rintro e w4 ⟨rfl, hw4⟩; have hw4 := hw4.symm; subst hw4) | fail)
          refine HSE.out.mono ?_
          rintro e w4 ⟨rv4, rfl, hr4, hcv4, hsn4, hb4⟩
          clear e0 e1 e2
          obtain ⟨ra4, rc4, rfl⟩ := hr4.rd.len
          obtain ⟨M5, hM5⟩ : ∃ M5, w4.heap.size = M5 := ⟨_, rfl⟩
          obtain ⟨rn4, hrn4⟩ : ∃ z, (nats o1.2.2.1).length = z := ⟨_, rfl⟩
          obtain ⟨w5, hw5⟩ : ∃ w5, w4.alloc (.cells #[.int .i64 (o1.1 : Int), .int .u32 (o1.2.1 : Int), .slice ra4 rn4 rc4, .int .i64 (o1.2.2.2 : Int)] 26) = w5 := ⟨_, rfl⟩
          rw [hrn4] at hr4 hcv4 hsn4 ⊢
          have hb5 : Below w4.heap.size w4 w5 := by
            rw [← hw5]
            exact (Below.refl w4.heap.size w4).alloc (Nat.le_refl _) _
          have HF5 : Hid (At w5 M5 #[.int .i64 (o1.1 : Int), .int .u32 (o1.2.1 : Int), .slice ra4 rn4 rc4, .int .i64 (o1.2.2.2 : Int)] 26) := by
            rw [← hw5, ← hM5]
            exact At.new w4 _ _
          have hbr5 : Below wr.heap.size wr w5 := hb4.trans (hb5.mono hb4.size)
          have hwrs : M + 1 ≤ wr.heap.size := by rw [← hM3]; exact HB.out.size
          have hM5s : wr.heap.size ≤ M5 := by rw [← hM5]; exact hb4.size
          have HB5 : Hid (Below (M + 1) w3 w5) := HB.out.trans (hbr5.mono hwrs)
          have HR5 := Lib.hid (hr4.below hb5)
          have HCV5 := Lib.hid hcv4
          have HSN5 := Lib.hid hsn4
          have HO5 := Lib.hid (HO.out.later hbr5)
          have HRN4 := Lib.hid hrn4
          have q0 : w5.cell? ⟨M5, 0, none⟩ = some (.int .i64 (o1.1 : Int)) := HF5.out.cell rfl
          have q1 : w5.cell? ⟨M5, 1, none⟩ = some (.int .u32 (o1.2.1 : Int)) := HF5.out.cell rfl
          have q2 : w5.cell? ⟨M5, 2, none⟩ = some (.slice ra4 rn4 rc4) := HF5.out.cell rfl
          have q3 : w5.cell? ⟨M5, 3, none⟩ = some (.int .i64 (o1.2.2.2 : Int)) := HF5.out.cell rfl
          clear hr4 hcv4 hsn4 hb4 hb5 hbr5 HSE HO HB hrn4
          have hsb : s + o1.2.2.2 ≤ B := by omega
          by_cases hv1 : o1.1 = 0
          · have HT2 := HTT2.out
            rw [if_neg (show ¬ o1.1 ≠ 0 by omega), joinO_join] at HT2
            have HT3 := Lib.hid HT2
            have hvz1 : (o1.1 : Int) = 0 := by omega
            rw [hvz1] at hw5 HF5 q0
            clear HT2 HTT2
            obtain ⟨j0, hj0, hy0, hy1', hy2'⟩ := info_parts infoFd
            obtain ⟨ps, hpe, hpr, hpq⟩ := HO5.out
            have hpl : ps.length = acc.length := by rw [← List.length_map (f := fun p : Fd × Value => p.1), hpe, List.length_map]
            have hol : (acc.map toFd).length = ps.length := by rw [List.length_map, hpl]
            rw [hol] at hpr hpq HR5
            rw [← hpl]
            have HPE := Lib.hid hpe
            have hal := At.new w5 #[.int .i64 0, .int .u32 (o1.2.1 : Int), .slice ra4 rn4 rc4, .int .i64 (o1.2.2.2 : Int)] 26
            have hba : Below w5.heap.size w5 (w5.alloc (.cells #[.int .i64 0, .int .u32 (o1.2.1 : Int), .slice ra4 rn4 rc4, .int .i64 (o1.2.2.2 : Int)] 26)) := (Below.refl _ w5).alloc (Nat.le_refl _) _
            have HPQ : Hid (∀ p ∈ ps, RdX (fun k => (S k ∨ k = N + 1) ∨ (Value.slice oa ps.length oc).ownBlock = some k) (w5.alloc (.cells #[.int .i64 0, .int .u32 (o1.2.1 : Int), .slice ra4 rn4 rc4, .int .i64 (o1.2.2.2 : Int)] 26)) p.2 (ints p.1.r) ∧ SrcN p.2 ∧ CapV p.2) := fun p hp => ⟨(hpq p hp).1.below hba, (hpq p hp).2⟩
            have hro : RdX (fun k => (S k ∨ k = N + 1) ∨ (Value.slice oa ps.length oc).ownBlock = some k) (w5.alloc (.cells #[.int .i64 0, .int .u32 (o1.2.1 : Int), .slice ra4 rn4 rc4, .int .i64 (o1.2.2.2 : Int)] 26)) (.slice ra4 rn4 rc4) (ints (toFd (o1.2.1, o1.2.2.1, o1.2.2.2)).r) := by
              rw [toFd_row]
              exact HR5.out.below hba
            have HRO := Lib.hid hro
            have HPR := Lib.hid hpr
            have HAL := Lib.hid hal
            have hw5s : M + 1 ≤ w5.heap.size := by rw [← hM3]; exact HB5.out.size
            have hpn : ps.length ≤ 6 := by omega
            have HBA := Lib.hid hba
            have HONE : Hid (∀ u ∈ fdC (toFd (o1.2.1, o1.2.2.1, o1.2.2.2), .slice ra4 rn4 rc4), u.oneCell' = true) := by
              intro u hu
              simp only [fdC, List.mem_cons, List.not_mem_nil, or_false] at hu
              rcases hu with rfl | rfl | rfl | rfl <;> rfl
            have hal2 : (acc ++ [(o1.2.1, o1.2.2.1, o1.2.2.2)]).map toFd = ps.map (·.1) ++ [toFd (o1.2.1, o1.2.2.1, o1.2.2.2)] := by rw [List.map_append, HPE.out]; rfl
            have HAL2 := Lib.hid hal2
            clear hpe hpr hpq hol hal hba hro hal2 HO5 hpl
            go_wp2_with (at_builtin; refine wpList_append_apart _ rfl _ _ 38 rfl (M + 1) 26 j0 _ 4 48 Tryz.underlying38 hj0 hy0 hy1' hy2' rfl (by decide) (.slice oa ps.length oc) ps.length (ps.flatMap fdC) rfl (HPR.out.alloc _) ⟨w5.heap.size, 0, none⟩ 1 1 (fdC (toFd (o1.2.1, o1.2.2.1, o1.2.2.2), .slice ra4 rn4 rc4)) rfl rfl (cells_at HAL.out) HONE.out (by unfold maxLen; omega) (by omega) (by simp; omega) ?_)
            intro v6 w6 ho6 hg6 hl6
            have hadd := FOwnS.add (S := fun k => S k ∨ k = N + 1) (B := M + 1) HPQ.out ⟨HRO.out, HSN5.out, HCV5.out⟩ ho6 hg6 hl6
            have HB6 : Hid (Below (M + 1) w3 w6) := (HB5.out.trans (HBA.out.mono hw5s)).grown hg6 (by have := HB5.out.size; simp; omega) (fun k hk => (HPR.out.lt k hk).1)
            rw [← HAL2.out] at hadd
            have HADD := Lib.hid hadd
            obtain ⟨va6, vc6, rfl⟩ := row_slice ho6
            clear ho6 hg6 hl6 hadd q0 q1 q2 q3
            go_wp2
            go_roundw
            case rel => exact ⟨i + 1, s + o1.2.2.2, acc ++ [(o1.2.1, o1.2.2.1, o1.2.2.2)], by omega, by go_num, by go_num, hsb, by rw [List.length_append, List.length_singleton]; omega, HT3, HADD, HB6⟩
            case measure => simp [intOf]; omega
          · have HT2 := HTT2.out
            rw [if_pos hv1] at HT2
            have HT3 := Lib.hid HT2
            have tv1 : ((o1.1 : Int) != 0) = true := by simp; omega
            clear HT2 HTT2
            have HA5 := Lib.hid (HA3.out.below HB5.out (by omega))
            have r0 : w5.cell? ⟨N + 1, 0, none⟩ = some (.int .i64 0) := HA5.out.cell rfl
            have r1 : w5.cell? ⟨N + 1, 1, none⟩ = some (.int .u32 0) := HA5.out.cell rfl
            have r2 : w5.cell? ⟨N + 1, 2, none⟩ = some (.slice none 0 0) := HA5.out.cell rfl
            have r3 : w5.cell? ⟨N + 1, 3, none⟩ = some (.slice none 0 0) := HA5.out.cell rfl
            have r4 : w5.cell? ⟨N + 1, 4, none⟩ = some (.int .i64 0) := HA5.out.cell rfl
            have f0 := HA5.out.free 0
            have f1 := HA5.out.free 1
            have f2 := HA5.out.free 2
            have f3 := HA5.out.free 3
            have f4 := HA5.out.free 4
            go_wp2_with fail
            have HA6 := Lib.hid (wld_set HA5.out (.int .i64 (o1.1 : Int)) (.int .u32 0) (.slice none 0 0) (.slice none 0 0) (.int .i64 ((s : Int) + (o1.2.2.2 : Int))))
            have HO6 := Lib.hid (wld_only w5 (N + 1) (.int .i64 (o1.1 : Int)) (.int .u32 0) (.slice none 0 0) (.slice none 0 0) (.int .i64 ((s : Int) + (o1.2.2.2 : Int))))
            generalize (((((w5.setCell ⟨N + 1, 0, none⟩ (.int .i64 (o1.1 : Int))).setCell ⟨N + 1, 1, none⟩ (.int .u32 0)).setCell ⟨N + 1, 2, none⟩ (.slice none 0 0)).setCell ⟨N + 1, 3, none⟩ (.slice none 0 0)).setCell ⟨N + 1, 4, none⟩ (.int .i64 ((s : Int) + (o1.2.2.2 : Int)))) = w6 at *
            clear r0 r1 r2 r3 r4 f0 f1 f2 f3 f4
            have r0 : w6.cell? ⟨N + 1, 0, none⟩ = some (.int .i64 (o1.1 : Int)) := HA6.out.cell rfl
            have r1 : w6.cell? ⟨N + 1, 1, none⟩ = some (.int .u32 0) := HA6.out.cell rfl
            have r2 : w6.cell? ⟨N + 1, 2, none⟩ = some (.slice none 0 0) := HA6.out.cell rfl
            have r3 : w6.cell? ⟨N + 1, 3, none⟩ = some (.slice none 0 0) := HA6.out.cell rfl
            have r4 : w6.cell? ⟨N + 1, 4, none⟩ = some (.int .i64 ((s : Int) + (o1.2.2.2 : Int))) := HA6.out.cell rfl
            have HB6 : Hid (Below N w w6) := (HB03.out.trans (HB5.out.mono (by omega))).trans (HO6.out.below (by have := HB5.out.size; omega) (fun k _ hk => by omega))
            try rw [Exit.noGoto_ret]
            refine bodyPost_ret (v := .tuple #[wldV o1.1 0 (.slice none 0 0) (.slice none 0 0) (s + o1.2.2.2), .int .i64 0]) (by simp [results, Tryz.results28, go_sem, r0, r1, r2, r3, r4]; rfl) rfl ?_
            have hTT := HT3.out
            unfold joinO at hTT
            rw [if_pos hv1] at hTT
            have hXe := HXE2.out
            rw [← hTT, if_pos hv1] at hXe
            have hcx := HCX.out
            rw [hXe, if_neg hv1] at hcx
            rw [hXe, ← hcx, hN]
            exact ⟨_, _, rfl, .inl ⟨rfl, _, _, rfl⟩, capV_nil, FOwnS.nil0 _ _ _, HB6.out⟩
      · obtain rfl : i = (tableS h).length := by omega
        obtain ⟨oa, oc, rfl⟩ := HO.out.fds.len
        obtain ⟨onn, honn⟩ : ∃ z, (acc.map toFd).length = z := ⟨_, rfl⟩
        rw [honn] at HO ⊢
        clear honn
        have HAW := Lib.hid (HA3.out.below HB.out (by omega))
        have m2 : wr.cell? ⟨M, 2, none⟩ = some (.slice ra rn rc) := (HF3.out.below HB.out (by omega)).cell rfl
        have r0 : wr.cell? ⟨N + 1, 0, none⟩ = some (.int .i64 0) := HAW.out.cell rfl
        have r1 : wr.cell? ⟨N + 1, 1, none⟩ = some (.int .u32 0) := HAW.out.cell rfl
        have r2 : wr.cell? ⟨N + 1, 2, none⟩ = some (.slice none 0 0) := HAW.out.cell rfl
        have r3 : wr.cell? ⟨N + 1, 3, none⟩ = some (.slice none 0 0) := HAW.out.cell rfl
        have r4 : wr.cell? ⟨N + 1, 4, none⟩ = some (.int .i64 0) := HAW.out.cell rfl
        have f0 := HAW.out.free 0
        have f1 := HAW.out.free 1
        have f2 := HAW.out.free 2
        have f3 := HAW.out.free 3
        have f4 := HAW.out.free 4
        go_wp2_with fail
        have HA6 := Lib.hid (wld_set HAW.out (.int .i64 0) (.int .u32 (c : Int)) (.slice ra rn rc) (.slice oa onn oc) (.int .i64 (s : Int)))
        have HO6 := Lib.hid (wld_only wr (N + 1) (.int .i64 0) (.int .u32 (c : Int)) (.slice ra rn rc) (.slice oa onn oc) (.int .i64 (s : Int)))
        generalize (((((wr.setCell ⟨N + 1, 0, none⟩ (.int .i64 0)).setCell ⟨N + 1, 1, none⟩ (.int .u32 (c : Int))).setCell ⟨N + 1, 2, none⟩ (.slice ra rn rc)).setCell ⟨N + 1, 3, none⟩ (.slice oa onn oc)).setCell ⟨N + 1, 4, none⟩ (.int .i64 (s : Int))) = w6 at *
        clear r0 r1 r2 r3 r4 f0 f1 f2 f3 f4
        have r0 : w6.cell? ⟨N + 1, 0, none⟩ = some (.int .i64 0) := HA6.out.cell rfl
        have r1 : w6.cell? ⟨N + 1, 1, none⟩ = some (.int .u32 (c : Int)) := HA6.out.cell rfl
        have r2 : w6.cell? ⟨N + 1, 2, none⟩ = some (.slice ra rn rc) := HA6.out.cell rfl
        have r3 : w6.cell? ⟨N + 1, 3, none⟩ = some (.slice oa onn oc) := HA6.out.cell rfl
        have r4 : w6.cell? ⟨N + 1, 4, none⟩ = some (.int .i64 (s : Int)) := HA6.out.cell rfl
        have HB6 : Hid (Below N w w6) := HBW.out.trans (HO6.out.below (by have := HB.out.size; omega) (fun k _ hk => by omega))
        have HR6 := Lib.hid (((HR3.out.below (by rw [hM3]; exact HB.out)).only HO6.out (fun k hk => by show k < _; omega)).less (Y := S) (fun k hk => by show k < _; have := HS.out k hk; omega))
        have HO7 := Lib.hid (((HO.out.only HO6.out (fun k hk => .inr hk) (fun k hk => by have := (HO.out.top hk).1; omega)).less (T := S) (fun k hk => .inl hk)).low (show N ≤ M + 1 by omega))
        try rw [Exit.noGoto_ret]
        refine bodyPost_ret (v := .tuple #[wldV 0 c (.slice ra rn rc) (.slice oa onn oc) s, .int .i64 0]) (by simp [results, Tryz.results28, go_sem, r0, r1, r2, r3, r4]; rfl) rfl ?_
        have hTT := HT.out
        rw [HEND.out] at hTT
        unfold joinO at hTT
        rw [if_neg (fun h => h rfl), List.append_nil] at hTT
        have hXe := HXE2.out
        rw [← hTT, if_neg (fun h => h rfl)] at hXe
        have hcx := HCX.out
        rw [hXe, if_pos rfl] at hcx
        rw [hXe, ← hcx, hN]
        exact ⟨_, _, rfl, HR6.out, HCV.out, HO7.out, HB6.out⟩
  · have hXe := HX.out
    rw [if_pos hv] at hXe
    have tv : ((x.1 : Int) != 0) = true := by simp; omega
    have r0 : w3.cell? ⟨N + 1, 0, none⟩ = some (.int .i64 0) := HA3.out.cell rfl
    have r1 : w3.cell? ⟨N + 1, 1, none⟩ = some (.int .u32 0) := HA3.out.cell rfl
    have r2 : w3.cell? ⟨N + 1, 2, none⟩ = some (.slice none 0 0) := HA3.out.cell rfl
    have r3 : w3.cell? ⟨N + 1, 3, none⟩ = some (.slice none 0 0) := HA3.out.cell rfl
    have r4 : w3.cell? ⟨N + 1, 4, none⟩ = some (.int .i64 0) := HA3.out.cell rfl
    have f0 := HA3.out.free 0
    have f1 := HA3.out.free 1
    have f2 := HA3.out.free 2
    have f3 := HA3.out.free 3
    have f4 := HA3.out.free 4
    have HXE := Lib.hid hXe
    clear hXe
    go_wp2
    have HA4 := Lib.hid (wld_set HA3.out (.int .i64 (x.1 : Int)) (.int .u32 0) (.slice none 0 0) (.slice none 0 0) (.int .i64 (x.2.2.2 : Int)))
    have HO4 := Lib.hid (wld_only w3 (N + 1) (.int .i64 (x.1 : Int)) (.int .u32 0) (.slice none 0 0) (.slice none 0 0) (.int .i64 (x.2.2.2 : Int)))
    generalize (((((w3.setCell ⟨N + 1, 0, none⟩ (.int .i64 (x.1 : Int))).setCell ⟨N + 1, 1, none⟩ (.int .u32 0)).setCell ⟨N + 1, 2, none⟩ (.slice none 0 0)).setCell ⟨N + 1, 3, none⟩ (.slice none 0 0)).setCell ⟨N + 1, 4, none⟩ (.int .i64 (x.2.2.2 : Int))) = w4 at *
    have HB4 : Hid (Below N w w4) := HB03.out.trans (HO4.out.below (by omega) (fun k _ hk => by omega))
    clear r0 r1 r2 r3 r4 f0 f1 f2 f3 f4
    have r0 : w4.cell? ⟨N + 1, 0, none⟩ = some (.int .i64 (x.1 : Int)) := HA4.out.cell rfl
    have r1 : w4.cell? ⟨N + 1, 1, none⟩ = some (.int .u32 0) := HA4.out.cell rfl
    have r2 : w4.cell? ⟨N + 1, 2, none⟩ = some (.slice none 0 0) := HA4.out.cell rfl
    have r3 : w4.cell? ⟨N + 1, 3, none⟩ = some (.slice none 0 0) := HA4.out.cell rfl
    have r4 : w4.cell? ⟨N + 1, 4, none⟩ = some (.int .i64 (x.2.2.2 : Int)) := HA4.out.cell rfl
    refine bodyPost_ret (v := .tuple #[wldV x.1 0 (.slice none 0 0) (.slice none 0 0) x.2.2.2, .int .i64 0]) (by simp [results, Tryz.results28, go_sem, r0, r1, r2, r3, r4]; rfl) rfl ?_
    have hcx := HCX.out
    have hXe := HXE.out
    rw [hXe, if_neg hv] at hcx
    rw [hXe, ← hcx, hN]
    exact ⟨_, _, rfl, .inl ⟨rfl, _, _, rfl⟩, capV_nil, FOwnS.nil0 _ _ _, HB4.out⟩
end Go.Proofs.YtpjfhdljagkefaaGreatDoor
