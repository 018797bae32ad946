/- The walks of the reference's Same, of isSame, of slices.EqualFunc with it, and of Like. (Written by gen_tabK.py.) -/
import Derived.Test.YtpbkieeheepelaaDoorTabI
namespace Go.Proofs.YtpbkieeheepelaaDoor.WPlain
end Go.Proofs.YtpbkieeheepelaaDoor.WPlain
namespace Go.Proofs.YtpbkieeheepelaaDoor.RPlain
end Go.Proofs.YtpbkieeheepelaaDoor.RPlain
namespace Go.Proofs.YtpbkieeheepelaaDoor
open Go.RowKit WPlain RPlain

theorem Opv.drewN {w : World} {v : Value} {l : List Rwo} (h : Opv w v l) (n : Nat) : Opv (w.drewN n) v l := h
theorem Txs.drewN {w : World} {v : Value} {l : List Tx} (h : Txs w v l) (n : Nat) : Txs (w.drewN n) v l := h
theorem quiet_at {P : Program} {f : FuncId} {args : Array Value} {w : World} {n x : Nat} {v : Value}
    (h : Calls P f args (w.drewN (n + x)) fun e w' => e = .returned v ∧ ∃ z, w' = (w.drewN (n + x)).drewN z) : Calls P f args (w.drewN (n + x)) fun e w'' => e = .returned v ∧ ∃ m, w'' = w.drewN (n + m) :=
  h.mono fun _ _ ⟨he, z, hz⟩ => ⟨he, x + z, by rw [hz, World.drewN_drewN, Nat.add_assoc]⟩
theorem tx_ne {X Y : Tx} (h : X.n ≠ Y.n ∨ X.f ≠ Y.f ∨ X.l ≠ Y.l ∨ X.s ≠ Y.s ∨ X.o ≠ Y.o) : X ≠ Y := by
  rintro rfl
  simp at h
theorem tx_eq {X Y : Tx} (hn : X.n = Y.n) (hf : X.f = Y.f) (hl : X.l = Y.l) (hs : X.s = Y.s) (ho : X.o = Y.o) : X = Y := by
  cases X; cases Y; simp_all
theorem Txs.opened {w : World} {v : Value} {l : List Tx} (h : Txs w v l) (h0 : 0 < l.length) : ∃ b o c, v = .slice (some ⟨b, o, none⟩) l.length c := by
  obtain ⟨ps, rfl, hr, _⟩ := h
  rcases hr with ⟨rfl, _⟩ | ⟨_, b, o, c, rfl, _⟩
  · simp at h0
  · exact ⟨b, o, c, by simp⟩
set_option maxRecDepth 100000 in
set_option maxHeartbeats 4000000 in
theorem refSame_any (v1 v2 : Value) (h1 h2 : List Tx) (w : World) (hv1 : Txs w v1 h1) (hv2 : Txs w v2 h2) (hl1 : h1.length ≤ 65536) (ho1 : ∀ X ∈ h1, X.o.length ≤ 65536) (ho2 : ∀ X ∈ h2, X.o.length ≤ 65536) :
    Calls Tryd.prog 10 #[v1, v2] w fun e w' => e = .returned (.bool (decide (h1 = h2))) ∧ ∃ n, w' = w.drewN n := by
  by_cases hlen : h1.length = h2.length
  · by_cases h0 : 0 < h1.length
    · obtain ⟨b1, o1, c1, rfl⟩ := hv1.opened h0
      obtain ⟨b2, o2, c2, rfl⟩ := hv2.opened (by omega)
      have HC1 := Lib.hid hv1
      have HC2 := Lib.hid hv2
      have HO1 := Lib.hid ho1
      have HO2 := Lib.hid ho2
      clear hv1 hv2 ho1 ho2
      obtain ⟨r, hr⟩ : ∃ r, r = decide (h1 = h2) := ⟨_, rfl⟩
      rw [← hr]
      have HR := Lib.hid hr
      have HL := Lib.hid hlen
      clear hr
      rw [← hlen]
      clear hlen
      go_enter Tryd.func10, Tryd.ntmps10
      go_wp2
      go_loopw [13] (fun x wr => ∃ k n : Nat, k ≤ h1.length ∧ x = .int .i64 k ∧ Hid (h1.take k = h2.take k) ∧ wr = w.drewN n) (fun x _ => h1.length - (intOf x).toNat)
      case atStart => exact ⟨0, 0, by omega, rfl, rfl, rfl⟩
      case round =>
        obtain ⟨k, n, hk, rfl, HT, rfl⟩ := hrel
        by_cases hlt : k < h1.length
        · have hlt2 : k < h2.length := by rw [← HL.out]; exact hlt
          obtain ⟨u1, x0, x1, x2, x3, x4, q1⟩ := HC1.out.get k hlt
          obtain ⟨u2, y0, y1, y2, y3, y4, q2⟩ := HC2.out.get k hlt2
          have k1 : (k : Int) < (h1.length : Int) := by omega
          have s1 : h1.take (k + 1) = h1.take k ++ [h1[k]] := List.take_succ_eq_append_getElem hlt
          have s2 : h2.take (k + 1) = h2.take k ++ [h2[k]] := List.take_succ_eq_append_getElem hlt2
          have HOS : Hid (∀ m, Calls Tryd.prog 16 #[u1, u2] (w.drewN m) fun e w' => e = .returned (.bool (decide (h1[k].o = h2[k].o))) ∧ ∃ z, w' = (w.drewN m).drewN z) :=
            fun m => opsSame_any u1 u2 _ _ _ (q1.drewN m) (q2.drewN m) (HO1.out _ (List.getElem_mem _)) (HO2.out _ (List.getElem_mem _))
          have hdif : h1[k] ≠ h2[k] → r = false := by
            intro he
            rw [HR.out]
            refine decide_eq_false fun h => he ?_
            subst h
            rfl
          have hsam : h1[k] = h2[k] → h1.take (k + 1) = h2.take (k + 1) := by
            intro he
            rw [s1, s2, HT.out, he]
          clear s1 s2 q1 q2
          generalize h1[k] = X at *
          generalize h2[k] = Y at *
          by_cases hn : X.n ≠ Y.n
          · have tn : (X.n != Y.n) = true := by simpa using hn
            have HNE := Lib.hid (tx_ne (X := X) (Y := Y) (.inl hn))
            have HF : Hid (r = false) := hdif HNE.out
            clear  hn
            clear hdif HNE
            go_wp2
            go_quiet ((go_at_call 16; exact quiet_at (HOS.out _)))
            go_wp2
            go_ret
            exact ⟨by rw [HF.out]; rfl, _, World.drewN_drewN _ _ _⟩
          · have gn : X.n = Y.n := Classical.not_not.1 hn
            rw [gn] at x0
            by_cases hf : X.f ≠ Y.f
            · have tf : (X.f != Y.f) = true := by simpa using hf
              have HNE := Lib.hid (tx_ne (X := X) (Y := Y) (.inr (.inl hf)))
              have HF : Hid (r = false) := hdif HNE.out
              clear gn hf
              clear hdif HNE
              go_wp2
              go_quiet ((go_at_call 16; exact quiet_at (HOS.out _)))
              go_wp2
              go_ret
              exact ⟨by rw [HF.out]; rfl, _, World.drewN_drewN _ _ _⟩
            · have gf : X.f = Y.f := Classical.not_not.1 hf
              rw [gf] at x1
              by_cases hl : X.l ≠ Y.l
              · have tl : (X.l != Y.l) = true := by simpa using hl
                have HNE := Lib.hid (tx_ne (X := X) (Y := Y) (.inr (.inr (.inl hl))))
                have HF : Hid (r = false) := hdif HNE.out
                clear gn gf hl
                clear hdif HNE
                go_wp2
                go_quiet ((go_at_call 16; exact quiet_at (HOS.out _)))
                go_wp2
                go_ret
                exact ⟨by rw [HF.out]; rfl, _, World.drewN_drewN _ _ _⟩
              · have gl : X.l = Y.l := Classical.not_not.1 hl
                rw [gl] at x2
                by_cases hs : X.s ≠ Y.s
                · have ts : (X.s != Y.s) = true := by simpa using hs
                  have HNE := Lib.hid (tx_ne (X := X) (Y := Y) (.inr (.inr (.inr (.inl hs)))))
                  have HF : Hid (r = false) := hdif HNE.out
                  clear gn gf gl hs
                  clear hdif HNE
                  go_wp2
                  go_quiet ((go_at_call 16; exact quiet_at (HOS.out _)))
                  go_wp2
                  go_ret
                  exact ⟨by rw [HF.out]; rfl, _, World.drewN_drewN _ _ _⟩
                · have gs : X.s = Y.s := Classical.not_not.1 hs
                  rw [gs] at x3
                  by_cases ho : X.o ≠ Y.o
                  · have tO : decide (X.o = Y.o) = false := decide_eq_false ho
                    have HNE := Lib.hid (tx_ne (X := X) (Y := Y) (.inr (.inr (.inr (.inr ho)))))
                    rw [tO] at HOS
                    clear tO
                    have HF : Hid (r = false) := hdif HNE.out
                    clear gn gf gl gs ho
                    clear hdif HNE
                    go_wp2
                    go_quiet ((go_at_call 16; exact quiet_at (HOS.out _)))
                    go_wp2
                    go_ret
                    exact ⟨by rw [HF.out]; rfl, _, World.drewN_drewN _ _ _⟩
                  · have tO : decide (X.o = Y.o) = true := decide_eq_true (Classical.not_not.1 ho)
                    have HEQ := Lib.hid (tx_eq gn gf gl gs (Classical.not_not.1 ho))
                    rw [tO] at HOS
                    have HT2 := Lib.hid (hsam HEQ.out)
                    clear gn gf gl gs ho tO hdif hsam HEQ
                    go_wp2
                    go_quiet ((go_at_call 16; exact quiet_at (HOS.out _)))
                    go_wp2
                    go_roundw
                    case rel => exact ⟨k + 1, _, by omega, by go_num, HT2, rfl⟩
                    case measure => simp [intOf]; omega
        · obtain rfl : k = h1.length := by omega
          have HF : Hid (r = true) := by
            unfold Hid
            rw [HR.out]
            have h := HT.out
            rw [List.take_length, HL.out, List.take_length] at h
            exact decide_eq_true h
          go_wp2
          go_ret
          exact ⟨by rw [HF.out]; rfl, n, rfl⟩
    · obtain rfl : h1 = [] := List.length_eq_zero_iff.1 (by omega)
      obtain rfl : h2 = [] := List.length_eq_zero_iff.1 (by simp at hlen; omega)
      obtain ⟨a1, c1, rfl⟩ := hv1.len
      obtain ⟨a2, c2, rfl⟩ := hv2.len
      clear hv1 hv2
      go_enter Tryd.func10, Tryd.ntmps10
      go_wp2
      refine wp_loop_rounds 1 ?_
      rw [rounds_succ]
      go_wp2
      go_ret
      exact ⟨rfl, 0, rfl⟩
  · obtain ⟨a1, c1, rfl⟩ := hv1.len
    obtain ⟨a2, c2, rfl⟩ := hv2.len
    clear hv1 hv2
    have ht : ((h1.length : Int) != (h2.length : Int)) = true := by simp; omega
    rw [decide_eq_false (fun h => hlen (by rw [h]))]
    clear hlen
    go_enter Tryd.func10, Tryd.ntmps10
    go_wp2
    go_ret
    exact ⟨rfl, 0, rfl⟩
theorem below_drN {B : Nat} {w w' : World} (h : Below B w w') (n : Nat) : Below B w (w'.drewN n) := ⟨h.os, h.tape, h.output, h.size, h.block⟩
set_option maxRecDepth 100000 in
set_option maxHeartbeats 4000000 in
theorem isSame_any (X Y : Tx) (u1 u2 : Value) (w : World) (hq1 : Opv w u1 X.o) (hq2 : Opv w u2 Y.o) (ho1 : X.o.length ≤ 65536) (ho2 : Y.o.length ≤ 65536) :
    Calls Tryd.prog 31 #[.agg #[.int .i64 X.n, .int .i64 X.f, .int .i64 X.l, .int .i64 X.s, u1], .agg #[.int .i64 Y.n, .int .i64 Y.f, .int .i64 Y.l, .int .i64 Y.s, u2]] w fun e w' => e = .returned (.bool (decide (X = Y))) ∧ Below w.heap.size w w' := by
  have HB : Hid (Below w.heap.size w ((w.alloc (.cells #[.int .i64 X.n, .int .i64 X.f, .int .i64 X.l, .int .i64 X.s, u1] 39)).alloc (.cells #[.int .i64 Y.n, .int .i64 Y.f, .int .i64 Y.l, .int .i64 Y.s, u2] 39))) := ((Below.refl _ _).alloc (Nat.le_refl _) _).alloc (by simp) _
  have HA := (At.new w #[.int .i64 X.n, .int .i64 X.f, .int .i64 X.l, .int .i64 X.s, u1] 39).alloc (.cells #[.int .i64 Y.n, .int .i64 Y.f, .int .i64 Y.l, .int .i64 Y.s, u2] 39)
  have HE := At.new (w.alloc (.cells #[.int .i64 X.n, .int .i64 X.f, .int .i64 X.l, .int .i64 X.s, u1] 39)) #[.int .i64 Y.n, .int .i64 Y.f, .int .i64 Y.l, .int .i64 Y.s, u2] 39
  simp only [World.size_alloc] at HE
  have HOS : Hid (Calls Tryd.prog 39 #[u1, u2] ((w.alloc (.cells #[.int .i64 X.n, .int .i64 X.f, .int .i64 X.l, .int .i64 X.s, u1] 39)).alloc (.cells #[.int .i64 Y.n, .int .i64 Y.f, .int .i64 Y.l, .int .i64 Y.s, u2] 39)) fun e w' => e = .returned (.bool (decide (X.o = Y.o))) ∧ ∃ z, w' = World.drewN ((w.alloc (.cells #[.int .i64 X.n, .int .i64 X.f, .int .i64 X.l, .int .i64 X.s, u1] 39)).alloc (.cells #[.int .i64 Y.n, .int .i64 Y.f, .int .i64 Y.l, .int .i64 Y.s, u2] 39)) z) :=
    opsEqual_any u1 u2 _ _ _ (hq1.below HB.out (Nat.le_refl _)) (hq2.below HB.out (Nat.le_refl _)) ho1 ho2
  have x0 := HA.cell (i := 0) (v := .int .i64 X.n) rfl
  have x1 := HA.cell (i := 1) (v := .int .i64 X.f) rfl
  have x2 := HA.cell (i := 2) (v := .int .i64 X.l) rfl
  have x3 := HA.cell (i := 3) (v := .int .i64 X.s) rfl
  have x4 := HA.cell (i := 4) (v := u1) rfl
  have y0 := HE.cell (i := 0) (v := .int .i64 Y.n) rfl
  have y1 := HE.cell (i := 1) (v := .int .i64 Y.f) rfl
  have y2 := HE.cell (i := 2) (v := .int .i64 Y.l) rfl
  have y3 := HE.cell (i := 3) (v := .int .i64 Y.s) rfl
  have y4 := HE.cell (i := 4) (v := u2) rfl
  clear hq1 hq2 HA HE
  by_cases hn : X.n ≠ Y.n
  · have tn : (X.n != Y.n) = true := by simpa using hn
    have HNE := Lib.hid (tx_ne (X := X) (Y := Y) (.inl hn))
    have t2 : (X.n == Y.n) = false := by simpa using hn
    rw [decide_eq_false HNE.out]
    clear  hn HNE
    go_enter Tryd.func31, Tryd.ntmps31
    go_wp2
    go_ret
    exact ⟨rfl, HB.out⟩
  · have gn : X.n = Y.n := Classical.not_not.1 hn
    have tn : (X.n == Y.n) = true := by simpa using gn
    by_cases hf : X.f ≠ Y.f
    · have tf : (X.f != Y.f) = true := by simpa using hf
      have HNE := Lib.hid (tx_ne (X := X) (Y := Y) (.inr (.inl hf)))
      have t2 : (X.f == Y.f) = false := by simpa using hf
      rw [decide_eq_false HNE.out]
      clear gn hf HNE
      go_enter Tryd.func31, Tryd.ntmps31
      go_wp2
      go_ret
      exact ⟨rfl, HB.out⟩
    · have gf : X.f = Y.f := Classical.not_not.1 hf
      have tf : (X.f == Y.f) = true := by simpa using gf
      by_cases hl : X.l ≠ Y.l
      · have tl : (X.l != Y.l) = true := by simpa using hl
        have HNE := Lib.hid (tx_ne (X := X) (Y := Y) (.inr (.inr (.inl hl))))
        have t2 : (X.l == Y.l) = false := by simpa using hl
        rw [decide_eq_false HNE.out]
        clear gn gf hl HNE
        go_enter Tryd.func31, Tryd.ntmps31
        go_wp2
        go_ret
        exact ⟨rfl, HB.out⟩
      · have gl : X.l = Y.l := Classical.not_not.1 hl
        have tl : (X.l == Y.l) = true := by simpa using gl
        by_cases hs : X.s ≠ Y.s
        · have ts : (X.s != Y.s) = true := by simpa using hs
          have HNE := Lib.hid (tx_ne (X := X) (Y := Y) (.inr (.inr (.inr (.inl hs)))))
          have t2 : (X.s == Y.s) = false := by simpa using hs
          rw [decide_eq_false HNE.out]
          clear gn gf gl hs HNE
          go_enter Tryd.func31, Tryd.ntmps31
          go_wp2
          go_ret
          exact ⟨rfl, HB.out⟩
        · have gs : X.s = Y.s := Classical.not_not.1 hs
          have ts : (X.s == Y.s) = true := by simpa using gs
          by_cases ho : X.o ≠ Y.o
          · have tO : decide (X.o = Y.o) = false := decide_eq_false ho
            have HNE := Lib.hid (tx_ne (X := X) (Y := Y) (.inr (.inr (.inr (.inr ho)))))
            rw [decide_eq_false HNE.out]
            rw [tO] at HOS
            clear gn gf gl gs ho tO HNE
            go_enter Tryd.func31, Tryd.ntmps31
            go_wp2_with fail
            refine HOS.out.mono ?_
            rintro e w3 ⟨rfl, z, rfl⟩
            go_wp2
            go_ret
            exact ⟨rfl, below_drN HB.out z⟩
          · have tO : decide (X.o = Y.o) = true := decide_eq_true (Classical.not_not.1 ho)
            have HEQ := Lib.hid (tx_eq gn gf gl gs (Classical.not_not.1 ho))
            rw [decide_eq_true HEQ.out]
            rw [tO] at HOS
            clear gn gf gl gs ho tO HEQ
            go_enter Tryd.func31, Tryd.ntmps31
            go_wp2_with fail
            refine HOS.out.mono ?_
            rintro e w3 ⟨rfl, z, rfl⟩
            go_wp2
            go_ret
            exact ⟨rfl, below_drN HB.out z⟩
end Go.Proofs.YtpbkieeheepelaaDoor
