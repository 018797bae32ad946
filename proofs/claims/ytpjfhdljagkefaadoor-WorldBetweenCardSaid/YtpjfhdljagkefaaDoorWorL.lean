/- The walks of package world's sets and of the iterator that it makes. -/
import Derived.Test.YtpjfhdljagkefaaDoorWorK
namespace Go.Proofs.YtpjfhdljagkefaaDoor.WPlain
end Go.Proofs.YtpjfhdljagkefaaDoor.WPlain
namespace Go.Proofs.YtpjfhdljagkefaaDoor.QPlain
end Go.Proofs.YtpjfhdljagkefaaDoor.QPlain
namespace Go.Proofs.YtpjfhdljagkefaaDoor.RPlain
end Go.Proofs.YtpjfhdljagkefaaDoor.RPlain
namespace Go.Proofs.YtpjfhdljagkefaaDoor
open Go.RowKit Go.Shelf WPlain QPlain RPlain

attribute [local go_sem] Oper.semAt_some

/-- a set, as it is handed on -/
def EncS (set : Nat) (vs : Array Value) (_ : Nat → Prop) (_ : World) : Prop := vs = #[.int .u32 (set : Int)]
/-- what the iterator over the sets has captured -/
structure StC (hv cv : Value) (aa : Option Addr) (ac : Nat) (l : List Tx) (t c U E Tb O : Nat) (X : Nat → Prop) (W : World) : Prop where
  box : At W E #[hv, .slice aa l.length ac, cv] 45
  aft : RdX X W (.slice aa l.length ac) (u32s (afterS l))
  up : At W U #[.int .u32 ((amongN (afterS l) t c : Nat) : Int)] 23
  tx : At W Tb #[.int .i64 (t : Int)] 3
  oth : At W O #[.int .u32 ((othersN c t : Nat) : Int)] 23
  off : ¬ X E ∧ ¬ X U ∧ ¬ X Tb ∧ ¬ X O
theorem StC.kept {hv cv : Value} {aa : Option Addr} {ac : Nat} {l : List Tx} {t c U E Tb O : Nat} {X X' : Nat → Prop} {W W' : World} (h : StC hv cv aa ac l t c U E Tb O X W) (hk : Kept X X' W W') : StC hv cv aa ac l t c U E Tb O X' W' := by
  obtain ⟨h1, h2, h3, h4, h5, h6, h7, h8, h9⟩ := h
  exact ⟨hk.at h1 h6, hk.rd h2, hk.at h3 h7, hk.at h4 h8, hk.at h5 h9, hk.not h1.lt h6, hk.not h3.lt h7, hk.not h4.lt h8, hk.not h5.lt h9⟩
theorem StC.more {hv cv : Value} {aa : Option Addr} {ac : Nat} {l : List Tx} {t c U E Tb O : Nat} {X Y : Nat → Prop} {W : World} (h : StC hv cv aa ac l t c U E Tb O X W) (hy : ∀ k, k < W.heap.size → Y k → X k) : StC hv cv aa ac l t c U E Tb O Y W := by
  obtain ⟨h1, h2, h3, h4, h5, h6, h7, h8, h9⟩ := h
  exact ⟨h1, h2.more hy, h3, h4, h5, fun h => h6 (hy _ h1.lt h), fun h => h7 (hy _ h3.lt h), fun h => h8 (hy _ h4.lt h), fun h => h9 (hy _ h5.lt h)⟩
theorem afterS_32 {l : List Tx} (h6 : l.length ≤ 6) : ∀ a ∈ afterS l, a < 4294967296 := fun a ha => by
  obtain ⟨x, _, rfl⟩ := List.mem_map.1 ha
  exact lt32 h6 (afterN_lt _ _)
theorem range_pre {p : Nat → Bool} {x U : Nat} (h : x ≤ U) : (List.range x).filter p <+: (List.range U).filter p := by
  obtain ⟨d, rfl⟩ := Nat.le.dest h
  rw [List.range_add, List.filter_append]
  exact List.prefix_append _ _
theorem range_yes {p : Nat → Bool} {x : Nat} (h : p x = true) : (List.range (x + 1)).filter p = (List.range x).filter p ++ [x] := by
  rw [List.range_succ, List.filter_append]
  simp [h]
theorem range_no {p : Nat → Bool} {x : Nat} (h : p x = false) : (List.range (x + 1)).filter p = (List.range x).filter p := by
  rw [List.range_succ, List.filter_append]
  simp [h]
set_option maxRecDepth 100000 in
set_option maxHeartbeats 4000000 in
theorem setsW1_gives (ha ca aa : Option Addr) (hn hc cn cc ac : Nat) (l : List Tx) (h6 : l.length ≤ 6) (t c U E Tb O : Nat) (ht : t < l.length) (hcl : c < 2 ^ l.length) :
    GivesE EncS Tryd.prog 58 #[.pointer (some ⟨U, 0, none⟩), .pointer (some ⟨E, 0, none⟩), .pointer (some ⟨Tb, 0, none⟩), .pointer (some ⟨O, 0, none⟩)] (StC (.slice ha hn hc) (.slice ca cn cc) aa ac l t c U E Tb O) [] (setsN (afterS l) t c) (setsN (afterS l) t c) := by
  intro lp J Jx X W hC hJ hJx htop hY hJ0
  have hal := afterS_len l
  have hA32 := afterS_32 h6
  have hc32 := lt32 h6 hcl
  have hc64 := Nat.lt_of_lt_of_le hcl (pow_le_64 h6)
  have ho32 : othersN c t < 4294967296 := Nat.lt_of_le_of_lt (lessN_le _ _) hc32
  have hu64 : amongN (afterS l) t c < 64 := Nat.lt_of_le_of_lt (Nat.le_trans (lessN_le _ _) (lessN_le _ _)) hc64
  have HSB : Hid (∀ x, setB (afterS l) t c x = (decide (lessN x (amongN (afterS l) t c) = 0) && wholeB (afterS l) x t (othersN c t))) := fun x => rfl
  have HSN : Hid (setsN (afterS l) t c = (List.range (amongN (afterS l) t c + 1)).filter (setB (afterS l) t c)) := rfl
  have HISW := Lib.hid (fun (x : Nat) (hx : x < 4294967296) (w1 : World) (hr : Rd w1 (.slice aa l.length ac) (u32s (afterS l))) => isWhole_any ha ca hn hc cn cc _ (afterS l) x t (othersN c t) w1 hr (by omega) hA32 hx ho32 (by omega))
  generalize setsN (afterS l) t c = SS at *
  obtain ⟨pb, hpb⟩ : ∃ pb, setB (afterS l) t c = pb := ⟨_, rfl⟩
  rw [hpb] at HSB HSN
  obtain ⟨un, hun⟩ : ∃ un, amongN (afterS l) t c = un := ⟨_, rfl⟩
  obtain ⟨on, hon⟩ : ∃ on, othersN c t = on := ⟨_, rfl⟩
  rw [hun] at HSB HSN hu64
  rw [hon] at HSB HISW
  have HUN := Lib.hid hun
  have HON := Lib.hid hon
  obtain rfl : SS = (List.range (un + 1)).filter pb := HSN.out
  have c0 := hC.up.cell (i := 0) rfl
  rw [hun] at c0
  have HC := Lib.hid hC
  have HJ := Lib.hid hJ
  have HY := Lib.hid hY
  have HTOP := Lib.hid htop
  have HJ0 : Hid (J ((List.range 0).filter pb) X W) := hJ0
  clear hC hJ hJx hY htop hJ0 hA32 hpb hun hon HSN
  refine (callsIn_wide (n := 6)).1 ?_
  refine callsIn_of_wp Tryd.func58 rfl trivial ?_ rfl
  simp only [Tryd.ntmps58, List.size_toArray, List.length_cons, List.length_nil, Nat.reduceAdd, Nat.reduceSub, Array.replicate_succ, Array.replicate_zero, List.push_toArray, List.append_toArray, List.nil_append, List.cons_append]
  gi_wp2
  gi_loopw [9] (fun p wr => ∃ (x : Nat) (X' : Nat → Prop), x ≤ un + 1 ∧ p = .int .u32 (x : Int) ∧ Hid (J ((List.range x).filter pb) X' wr) ∧ Hid (StC (.slice ha hn hc) (.slice ca cn cc) aa ac l t c U E Tb O X' wr) ∧ Hid (W.heap.size ≤ wr.heap.size))
    (fun p _ => un + 1 - (intOf p).toNat)
  case atStart => exact ⟨0, X, by omega, rfl, HJ0, HC, Nat.le_refl _⟩
  case round =>
    clear HJ0 HC c0
    obtain ⟨x, X', hx, rfl, HJi, HIi, HSZ⟩ := hrel
    by_cases hlt : x < un + 1
    · have c0 := HIi.out.up.cell (i := 0) rfl
      rw [HUN.out] at c0
      have hx32 : x < 4294967296 := by omega
      have hano := u32_andNot_nat x un hx32 (by omega)
      have hln : x &&& (4294967295 - un) = lessN x un := rfl
      rw [hln] at hano
      have HP := Lib.hid (HSB.out x)
      clear hln
      generalize lessN x un = z at *
      by_cases hz : z = 0
      · subst hz
        have e0 := HIi.out.box.cell (i := 0) rfl
        have e1 := HIi.out.box.cell (i := 1) rfl
        have e2 := HIi.out.box.cell (i := 2) rfl
        have t0 := HIi.out.tx.cell (i := 0) rfl
        have o0 := HIi.out.oth.cell (i := 0) rfl
        rw [HON.out] at o0
        have hW := HISW.out x hx32 wr HIi.out.aft.rd
        cases hb : wholeB (afterS l) x t on with
        | false =>
          have HPN := Lib.hid (range_no (p := pb) (x := x) (by rw [HP.out, hb]; rfl))
          rw [hb] at hW
          clear HP hb
          gi_wp2_with (refine ⟨trivial, ?_⟩; gi_at_call 59; refine (callsIn_wide.2 hW).mono ?_; rintro e w3 ⟨rfl, hb3⟩)
          refine ⟨fun _ h => (by cases h), ?_⟩
          gi_wp2
          have HJ3 : Hid (J ((List.range (x + 1)).filter pb) X' w3) := by
            unfold Hid; rw [HPN.out]; exact HJ.out.mono HSZ.out |>.below HJi.out hb3
          have HI3 := Lib.hid (HIi.out.kept (Kept.below X' hb3))
          have HSZ3 : Hid (W.heap.size ≤ w3.heap.size) := Nat.le_trans HSZ.out hb3.size
          go_roundw
          case rel => exact ⟨x + 1, X', by omega, by go_num, HJ3, HI3, HSZ3⟩
          case measure => simp [intOf]; omega
        | true =>
          have HPY := Lib.hid (range_yes (p := pb) (x := x) (by rw [HP.out, hb]; rfl))
          rw [hb] at hW
          clear HP hb
          have HPRE : Hid ((List.range (x + 1)).filter pb <+: (List.range (un + 1)).filter pb) := range_pre (by omega)
          have HYW : Hid (∀ (w3 : World), Below wr.heap.size wr w3 → YieldAt Fence.wide 3 Tryd.prog lp #[.int .u32 (x : Int)] w3 fun e W' =>
              (e = .returned (.bool true) ∧ ∃ Z, J ((List.range (x + 1)).filter pb) Z W' ∧ Kept X' Z w3 W') ∨ (e = .returned (.bool false) ∧ ∃ Z, Jx ((List.range (x + 1)).filter pb) Z W' ∧ Kept X' Z w3 W')) := fun w3 hb3 => by
            have := HY.out ((List.range x).filter pb) x #[.int .u32 (x : Int)] X' w3 (HJ.out.mono HSZ.out |>.below HJi.out hb3) (by rw [← HPY.out]; exact HPRE.out) rfl
            rw [← HPY.out] at this
            exact this
          gi_wp2_with (refine ⟨trivial, ?_⟩; gi_at_call 59; refine (callsIn_wide.2 hW).mono ?_; rintro e w3 ⟨rfl, hb3⟩; obtain ⟨fn, tmps, assign, body, hy, hR⟩ := HYW.out w3 hb3)
          refine (round_depth hR).mono ?_
          rintro e W4 (⟨rfl, Z, gJ, gk⟩ | ⟨rfl, Z, gJ, gk⟩)
          · have HI4 := Lib.hid ((HIi.out.kept (Kept.below X' hb3)).kept gk)
            have HJ4 := Lib.hid gJ
            have HSZ4 : Hid (W.heap.size ≤ W4.heap.size) := Nat.le_trans HSZ.out (Nat.le_trans hb3.size gk.size)
            clear gJ gk hb3 hy hR hW c0 e0 e1 e2 t0 o0
            gi_wp2
            go_roundw
            case rel => exact ⟨x + 1, Z, by omega, by go_num, HJ4, HI4, HSZ4⟩
            case measure => simp [intOf]; omega
          · have HJ4 := Lib.hid gJ
            clear gJ gk hb3 hy hR hW c0 e0 e1 e2 t0 o0
            gi_wp2
            refine bodyPost_ret (results_none rfl _ _ _) rfl ?_
            exact ⟨⟨_, rfl⟩, .inr ⟨_, Z, HPRE.out, HJ4.out⟩⟩
      · have hzb : ((z : Int) == 0) = false := by rw [beq_eq_false_iff_ne]; omega
        have HPN := Lib.hid (range_no (p := pb) (x := x) (by rw [HP.out, decide_eq_false hz]; rfl))
        clear HP
        have HJ3 : Hid (J ((List.range (x + 1)).filter pb) X' wr) := by
          unfold Hid; rw [HPN.out]; exact HJi.out
        gi_wp2
        refine ⟨trivial, ?_⟩
        gi_wp2
        refine ⟨fun _ h => (by cases h), ?_⟩
        gi_wp2
        go_roundw
        case rel => exact ⟨x + 1, X', by omega, by go_num, HJ3, HIi, HSZ⟩
        case measure => simp [intOf]; omega
    · obtain rfl : x = un + 1 := by omega
      have c0 := HIi.out.up.cell (i := 0) rfl
      gi_wp2
      go_end0
      exact ⟨⟨_, rfl⟩, .inl ⟨X', HJi.out⟩⟩
set_option maxRecDepth 100000 in
set_option maxHeartbeats 2000000 in
theorem setsW_any (ha ca aa : Option Addr) (hn hc cn cc ac : Nat) (l : List Tx) (h6 : l.length ≤ 6) (t c : Nat) (ht : t < l.length) (hcl : c < 2 ^ l.length) (w : World) (hr : Rd w (.slice aa l.length ac) (u32s (afterS l))) :
    Calls Tryd.prog 53 #[.agg #[.slice ha hn hc, .slice aa l.length ac, .slice ca cn cc], .int .i64 (t : Int), .int .u32 (c : Int)] w fun e w' => ∃ U, e = .returned (.func (.func 58) #[] #[.pointer (some ⟨U, 0, none⟩), .pointer (some ⟨w.heap.size, 0, none⟩), .pointer (some ⟨w.heap.size + 1, 0, none⟩), .pointer (some ⟨w.heap.size + 2, 0, none⟩)]) ∧ Below w.heap.size w w' ∧
      ∀ X, (∀ k, X k → k < w.heap.size) → RdX X w (.slice aa l.length ac) (u32s (afterS l)) → StC (.slice ha hn hc) (.slice ca cn cc) aa ac l t c U w.heap.size (w.heap.size + 1) (w.heap.size + 2) X w' := by
  have hal := afterS_len l
  have hc32 := lt32 h6 hcl
  have hta : t < (afterS l).length := by omega
  have hA := afterS_32 h6 _ (List.getElem_mem hta)
  obtain ⟨b, o, c', he, -, hcs⟩ := hr.opened (by rw [u32s_len]; omega)
  have hct := hcs t _ (u32s_get hta)
  rw [u32s_len, hal] at he
  simp only [Value.slice.injEq] at he
  obtain ⟨rfl, -, rfl⟩ := he
  clear hcs hr
  have hUN : amongN (afterS l) t c = lessN (othersN c t) (afterS l)[t] := by
    unfold amongN
    rw [List.getD_eq_getElem?_getD, List.getElem?_eq_getElem hta]; rfl
  have ho32 : othersN c t < 4294967296 := Nat.lt_of_le_of_lt (lessN_le _ _) hc32
  have htb := wbit_any t (by omega)
  have hlt4 : 2 ^ t < 4294967296 := Nat.pow_lt_pow_right (a := 2) (m := t) (n := 32) (by decide) (by omega)
  have hano := u32_andNot_nat c (2 ^ t) hc32 hlt4
  have hon : c &&& (4294967295 - 2 ^ t) = othersN c t := rfl
  rw [hon] at hano
  obtain ⟨on, hon2⟩ : ∃ on, othersN c t = on := ⟨_, rfl⟩
  rw [hon2] at hano ho32 hUN
  have hano2 := u32_andNot_nat on (afterS l)[t] ho32 hA
  have hun : on &&& (4294967295 - (afterS l)[t]) = lessN on (afterS l)[t] := rfl
  rw [hun, ← hUN] at hano2
  have HB1 : Hid (∀ v0 : Value, Below w.heap.size w (((w.alloc (.cells #[.slice ha hn hc, .slice (some ⟨b, o, none⟩) l.length ac, .slice ca cn cc] 45)).alloc (.cells #[.int .i64 (t : Int)] 3)).alloc (.cells #[v0] 23))) := fun v0 =>
    (((Below.refl w.heap.size w).alloc (Nat.le_refl _) _).alloc (by simp) _).alloc (by simp; omega) _
  have HS1 : Hid (∀ v0 : Value, (((w.alloc (.cells #[.slice ha hn hc, .slice (some ⟨b, o, none⟩) l.length ac, .slice ca cn cc] 45)).alloc (.cells #[.int .i64 (t : Int)] 3)).alloc (.cells #[v0] 23)).heap.size = w.heap.size + 3) := fun v0 => by simp
  have HA0 : Hid (∀ v0 : Value, At (((w.alloc (.cells #[.slice ha hn hc, .slice (some ⟨b, o, none⟩) l.length ac, .slice ca cn cc] 45)).alloc (.cells #[.int .i64 (t : Int)] 3)).alloc (.cells #[v0] 23)) w.heap.size #[.slice ha hn hc, .slice (some ⟨b, o, none⟩) l.length ac, .slice ca cn cc] 45) := fun v0 => ((At.new w _ _).alloc _).alloc _
  have HA1 : Hid (∀ v0 : Value, At (((w.alloc (.cells #[.slice ha hn hc, .slice (some ⟨b, o, none⟩) l.length ac, .slice ca cn cc] 45)).alloc (.cells #[.int .i64 (t : Int)] 3)).alloc (.cells #[v0] 23)) (w.heap.size + 1) #[.int .i64 (t : Int)] 3) := fun v0 => by
    have h := (At.new (w.alloc (.cells #[.slice ha hn hc, .slice (some ⟨b, o, none⟩) l.length ac, .slice ca cn cc] 45)) #[.int .i64 (t : Int)] 3).alloc (.cells #[v0] 23)
    rwa [World.size_alloc] at h
  have HA2 : Hid (∀ v0 : Value, At (((w.alloc (.cells #[.slice ha hn hc, .slice (some ⟨b, o, none⟩) l.length ac, .slice ca cn cc] 45)).alloc (.cells #[.int .i64 (t : Int)] 3)).alloc (.cells #[v0] 23)) (w.heap.size + 2) #[v0] 23) := fun v0 => by
    have h := At.new ((w.alloc (.cells #[.slice ha hn hc, .slice (some ⟨b, o, none⟩) l.length ac, .slice ca cn cc] 45)).alloc (.cells #[.int .i64 (t : Int)] 3)) #[v0] 23
    rwa [World.size_alloc, World.size_alloc] at h
  have HC0 := Lib.hid hct
  have HON := Lib.hid hon2
  have HUN : Hid (amongN (afterS l) t c = amongN (afterS l) t c) := rfl
  obtain ⟨un, hun2⟩ : ∃ un, amongN (afterS l) t c = un := ⟨_, rfl⟩
  have HUN2 := Lib.hid hun2
  rw [hun2] at hano2
  clear hUN hun2 hon2 hon hun HUN hct
  generalize (afterS l)[t] = at_ at *
  obtain ⟨pt, hpt⟩ : ∃ pt, 2 ^ t = pt := ⟨_, rfl⟩
  rw [hpt] at htb hano hlt4
  clear hpt
  have htn : t < l.length := ht
  obtain ⟨n, hn'⟩ : ∃ n, l.length = n := ⟨_, rfl⟩
  have HN := Lib.hid hn'
  rw [hn'] at HB1 HS1 HA0 HA1 HA2 htn ⊢
  clear hn' hcl h6 hta hal ht
  go_enter Tryd.func53, Tryd.ntmps53
  go_wp2_with (go_at_call 26; refine (htb _).mono ?_; rintro e w3 ⟨rfl, hw3⟩; have hw3 := hw3.symm; subst hw3)
  have b3 := HB1.out (.int .u32 (on : Int))
  have s3 := HS1.out (.int .u32 (on : Int))
  have a0 := HA0.out (.int .u32 (on : Int))
  have a1 := HA1.out (.int .u32 (on : Int))
  have a2 := HA2.out (.int .u32 (on : Int))
  generalize ((w.alloc (.cells #[.slice ha hn hc, .slice (some ⟨b, o, none⟩) n ac, .slice ca cn cc] 45)).alloc (.cells #[.int .i64 (t : Int)] 3)).alloc (.cells #[.int .u32 (on : Int)] 23) = W3 at *
  have HB3 := Lib.hid b3
  have HA0' := Lib.hid a0
  have HA1' := Lib.hid a1
  have HA2' := Lib.hid a2
  have HC3 := Lib.hid (cell_on b3 HC0.out)
  have HB4 : Hid (Below W3.heap.size W3 (W3.drew.alloc (.cells #[.int .u32 0] 23))) := ((Below.refl _ W3).drew).alloc (Nat.le_refl _) _
  have HN4 : Hid (At (W3.drew.alloc (.cells #[.int .u32 0] 23)) W3.heap.size #[.int .u32 0] 23) := At.new W3.drew _ _
  clear b3 a0 a1 a2 HB1 HS1 HA0 HA1 HA2 HC0 htb
  refine wp_region_held_drew (S := fun W => W.cell? ⟨w.heap.size + 2, 0, none⟩ = some (.int .u32 (on : Int)) ∧ W.cell? ⟨w.heap.size, 1, none⟩ = some (.slice (some ⟨b, o, none⟩) n ac) ∧ W.cell? ⟨w.heap.size + 1, 0, none⟩ = some (.int .i64 (t : Int)) ∧ W.cell? ⟨b, o + t, none⟩ = some (.int .u32 (at_ : Int)))
    (by kernel_rfl) ⟨HA2'.out.cell rfl, HA0'.out.cell rfl, HA1'.out.cell rfl, HC3.out⟩ (fun hS => ?_)
  refine wpAnyH_take (i := 0) (v := .int .u32 (on : Int)) rfl (by kernel_rfl) (by kernel_rfl) (by kernel_rfl) (fun _ _ _ h => h) (Or.inl ⟨by rfl, fun W5 hw5 => by obtain ⟨z0, z1, z2, z3⟩ := hw5; go_simp⟩) hS ?_
  simp only [Act.put, List.setIfInBounds_toArray]
  refine wpAnyH_take (i := 1) (v := .pointer (some ⟨w.heap.size, 1, none⟩)) rfl (by kernel_rfl) (by kernel_rfl) (by kernel_rfl) (fun _ _ _ h => h) (Or.inl ⟨by rfl, fun W5 hw5 => by go_simp⟩) hS ?_
  simp only [Act.put]
  refine wpAnyH_take (i := 2) (v := .slice (some ⟨b, o, none⟩) n ac) rfl (by kernel_rfl) (by kernel_rfl) (by kernel_rfl) (fun _ _ _ h => h) (Or.inl ⟨by rfl, fun W5 hw5 => by obtain ⟨z0, z1, z2, z3⟩ := hw5; go_simp⟩) hS ?_
  simp only [Act.put]
  refine wpAnyH_take (i := 3) (v := .int .i64 (t : Int)) rfl (by kernel_rfl) (by kernel_rfl) (by kernel_rfl) (fun _ _ _ h => h) (Or.inl ⟨by rfl, fun W5 hw5 => by obtain ⟨z0, z1, z2, z3⟩ := hw5; go_simp⟩) hS ?_
  simp only [Act.put]
  refine wpAnyH_take (i := 4) (v := .pointer (some ⟨b, o + t, none⟩)) rfl (by kernel_rfl) (by kernel_rfl) (by kernel_rfl) (fun _ _ _ h => h) (Or.inl ⟨by rfl, fun W5 hw5 => by go_simp⟩) hS ?_
  simp only [Act.put]
  refine wpAnyH_take (i := 5) (v := .int .u32 (at_ : Int)) rfl (by kernel_rfl) (by kernel_rfl) (by kernel_rfl) (fun _ _ _ h => h) (Or.inl ⟨by rfl, fun W5 hw5 => by obtain ⟨z0, z1, z2, z3⟩ := hw5; go_simp⟩) hS ?_
  simp only [Act.put]
  refine wpAnyH_take (i := 6) (v := .int .u32 (un : Int)) rfl (by kernel_rfl) (by kernel_rfl) (by kernel_rfl) (fun _ _ _ h => h) (Or.inl ⟨by rfl, fun W5 hw5 => by go_simp⟩) hS ?_
  simp only [Act.put]
  have hS4 : (W3.drew.alloc (.cells #[.int .u32 0] 23)).cell? ⟨w.heap.size + 2, 0, none⟩ = some (.int .u32 (on : Int)) ∧ (W3.drew.alloc (.cells #[.int .u32 0] 23)).cell? ⟨w.heap.size, 1, none⟩ = some (.slice (some ⟨b, o, none⟩) n ac) ∧ (W3.drew.alloc (.cells #[.int .u32 0] 23)).cell? ⟨w.heap.size + 1, 0, none⟩ = some (.int .i64 (t : Int)) ∧ (W3.drew.alloc (.cells #[.int .u32 0] 23)).cell? ⟨b, o + t, none⟩ = some (.int .u32 (at_ : Int)) :=
    ⟨cell_on HB4.out (HA2'.out.cell rfl), cell_on HB4.out (HA0'.out.cell rfl), cell_on HB4.out (HA1'.out.cell rfl), cell_on HB4.out HC3.out⟩
  have HB5 : Hid (Below W3.heap.size W3 (W3.alloc (.cells #[.int .u32 (un : Int)] 23)).drew) := ((Below.refl _ W3).alloc (Nat.le_refl _) _).drew
  have HU5 : Hid (At (W3.alloc (.cells #[.int .u32 (un : Int)] 23)).drew W3.heap.size #[.int .u32 (un : Int)] 23) := (At.new W3 _ _).drew
  have hS5 : (W3.alloc (.cells #[.int .u32 (un : Int)] 23)).drew.cell? ⟨w.heap.size + 2, 0, none⟩ = some (.int .u32 (on : Int)) ∧ (W3.alloc (.cells #[.int .u32 (un : Int)] 23)).drew.cell? ⟨w.heap.size, 1, none⟩ = some (.slice (some ⟨b, o, none⟩) n ac) ∧ (W3.alloc (.cells #[.int .u32 (un : Int)] 23)).drew.cell? ⟨w.heap.size + 1, 0, none⟩ = some (.int .i64 (t : Int)) ∧ (W3.alloc (.cells #[.int .u32 (un : Int)] 23)).drew.cell? ⟨b, o + t, none⟩ = some (.int .u32 (at_ : Int)) :=
    ⟨cell_on HB5.out (HA2'.out.cell rfl), cell_on HB5.out (HA0'.out.cell rfl), cell_on HB5.out (HA1'.out.cell rfl), cell_on HB5.out HC3.out⟩
  have hcn := HN4.out.cell (i := 0) rfl
  have hfn := HN4.out.free 0
  refine wpAnyH_ready (rs := [7]) (by kernel_rfl) (by simp) (AllReadyH.cons rfl (fun K5 hK5 => ?_) AllReadyH.nil)
  go_simp
  refine hK5.out _ _ hS4 (fun hS => ?_)
  clear hK5 K5
  refine wpAnyH_ready (rs := [8]) (by kernel_rfl) (by simp) (AllReadyH.cons rfl (fun K5 hK5 => ?_) AllReadyH.nil)
  go_simp
  refine hK5.out _ _ hS5 (fun _ => wpAnyH_done (by kernel_rfl) ?_ _)
  clear hK5 K5
  have HF : Hid (Below w.heap.size w (W3.alloc (.cells #[.int .u32 (un : Int)] 23)).drew) := HB3.out.trans (HB5.out.mono HB3.out.size)
  have HE5 := Lib.hid (HA0'.out.below HB5.out HA0'.out.lt)
  have HT5 := Lib.hid (HA1'.out.below HB5.out HA1'.out.lt)
  have HO5 := Lib.hid (HA2'.out.below HB5.out HA2'.out.lt)
  clear hS hS4 hS5 hcn hfn
  generalize (W3.alloc (.cells #[.int .u32 (un : Int)] 23)).drew = W5 at *
  go_wp2
  go_ret
  refine ⟨_, rfl, HF.out, fun X hX hr => ⟨?_, ?_, ?_, HT5.out, ?_, fun hk => by have := hX _ hk; omega, fun hk => by have := hX _ hk; omega, fun hk => by have := hX _ hk; omega, fun hk => by have := hX _ hk; omega⟩⟩
  · rw [HN.out]; exact HE5.out
  · rw [HN.out]; exact hr.below HF.out
  · rw [HUN2.out, ← s3]; exact HU5.out
  · rw [HON.out]; exact HO5.out
end Go.Proofs.YtpjfhdljagkefaaDoor
