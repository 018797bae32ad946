/- The walks of the reader's readEvents, and of package binary's Parse. -/
import Derived.Test.YtgdijlmfpboecaaDoorBinG
namespace Go.Proofs.YtgdijlmfpboecaaDoor.WPlain
end Go.Proofs.YtgdijlmfpboecaaDoor.WPlain
namespace Go.Proofs.YtgdijlmfpboecaaDoor.VPlain
end Go.Proofs.YtgdijlmfpboecaaDoor.VPlain
namespace Go.Proofs.YtgdijlmfpboecaaDoor
open Go.RowKit WPlain VPlain BPlain

theorem eventsS_zero (L : List Nat) (i : Nat) (h : List Ev) : eventsS L 0 i h = (h, i, if i < L.length then 2 else 0) := rfl
theorem eventsS_bad {L : List Nat} {n i : Nat} {h : List Ev} (h0 : (eventS L i h).2.2 ≠ 0) : eventsS L (n + 1) i h = eventS L i h := by rw [eventsS, if_pos h0]
theorem eventsS_more {L : List Nat} {n i : Nat} {h : List Ev} (h0 : (eventS L i h).2.2 = 0) : eventsS L (n + 1) i h = eventsS L n (eventS L i h).2.1 (eventS L i h).1 := by rw [eventsS, if_neg (fun hh => hh h0)]

/-- readEvents' end -/
def Got (B g : Nat) (a : Option Addr) (c : Nat) (L : List Nat) (z : List Ev × Nat × Nat) (w : World) (e : Ending) (w' : World) : Prop :=
  e = .returned (.int .i64 (z.2.2 : Nat)) ∧ (∃ v', Rdg B w' g z.2.1 v' a c L z.1) ∧ Below B w w'

set_option maxRecDepth 100000 in
set_option maxHeartbeats 1000000 in
theorem readEvents_any {B : Nat} {w : World} {g : Nat} {v : Value} {a : Option Addr} {c : Nat} {L : List Nat} (r : Rdg B w g 0 v a c L []) :
    Calls Tryd.prog 8 #[.pointer (some ⟨g, 0, none⟩)] w (Got B g a c L (readS L) w) := by
  have hU := rup_any r 60 5 (by omega)
  have hmost := @upS_most L 0 60 5
  unfold readS
  obtain ⟨p, hp⟩ : ∃ p, upS L 0 60 5 = p := ⟨_, rfl⟩
  obtain ⟨cnt, i1, er⟩ := p
  rw [hp] at hU hmost
  rw [hp]
  dsimp only at hmost ⊢
  have HU := Lib.hid hU
  have R := Lib.hid r
  clear hU hp r
  by_cases h0 : er = 0
  · subst h0
    have h60 := hmost rfl (by decide)
    clear hmost
    rw [if_neg (fun hh => hh rfl)]
    obtain ⟨Z, hZ⟩ : ∃ Z, eventsS L cnt i1 [] = Z := ⟨_, rfl⟩
    rw [hZ]
    have HZ := Lib.hid hZ
    clear hZ
    go_enter Tryd.func8, Tryd.ntmps8
    go_wp2_with fail
    refine HU.out.mono ?_
    rintro e w1 ⟨rfl, r1, ho1⟩
    have R1 := Lib.hid r1
    have HB1 := Lib.hid (R.out.lowB ho1)
    clear r1 ho1
    go_wp2_with fail
    go_loopw [15] (fun x wr => ∃ (m i : Nat) (v : Value) (h : List Ev), m ≤ cnt ∧ x = .int .u64 m ∧ Hid (Rdg B wr g i v a c L h) ∧ h.length ≤ m ∧ Hid (eventsS L (cnt - m) i h = Z) ∧ Hid (Below B w wr)) (fun x _ => cnt - (intOf x).toNat)
    case atStart => exact ⟨0, i1, v, [], Nat.zero_le _, rfl, R1, Nat.le_refl _, HZ, HB1⟩
    case round =>
      clear R R1 HB1 HZ HU
      obtain ⟨m, i, v, h, hm, rfl, R, hl, HZ, HB⟩ := hrel
      by_cases hlt : m < cnt
      · have hE := event_any R.out (show h.length < 60 by omega)
        have hz := HZ.out
        rw [show cnt - m = (cnt - (m + 1)) + 1 from by omega] at hz
        have hlen := eventS_len L i h
        by_cases he : (eventS L i h).2.2 = 0
        · rw [eventsS_more he] at hz
          obtain ⟨q, hq⟩ : ∃ q, eventS L i h = q := ⟨_, rfl⟩
          obtain ⟨h', j, e0⟩ := q
          rw [hq] at hE hz he hlen
          dsimp only at hE hz he hlen
          subst he
          have HE := Lib.hid hE
          have HZ2 := Lib.hid hz
          clear hE hz hq HZ
          go_wp2_with fail
          refine HE.out.mono ?_
          rintro e w2 ⟨rfl, ⟨v2, r2⟩, hb2⟩
          have R2 := Lib.hid r2
          have HB2 := Lib.hid (HB.out.trans hb2)
          clear r2 hb2
          go_wp2
          go_roundw
          case rel => exact ⟨m + 1, j, v2, h', by omega, by go_num, R2, by omega, HZ2, HB2⟩
          case measure => simp [intOf]; omega
        · rw [eventsS_bad he] at hz
          obtain ⟨q, hq⟩ : ∃ q, eventS L i h = q := ⟨_, rfl⟩
          obtain ⟨h', j, e0⟩ := q
          rw [hq] at hE hz he
          dsimp only at hE he
          subst hz
          have hne : ((e0 : Int) != 0) = true := by simp; omega
          have HE := Lib.hid hE
          clear hE hq HZ hlen
          go_wp2_with fail
          refine HE.out.mono ?_
          rintro e w2 ⟨rfl, r2, hb2⟩
          go_wp2
          go_ret
          exact ⟨rfl, r2, HB.out.trans hb2⟩
      · obtain rfl : m = cnt := by omega
        have hz := HZ.out
        rw [Nat.sub_self, eventsS_zero] at hz
        have HE := Lib.hid (end_any g i v a c L.length wr R.out.at_)
        obtain ⟨z, hzz⟩ : ∃ z, (if i < L.length then 2 else 0 : Nat) = z := ⟨_, rfl⟩
        rw [hzz] at HE hz
        subst hz
        clear hzz HZ
        go_wp2_with fail
        refine HE.out.mono ?_
        rintro e w2 ⟨rfl, nd, rfl⟩
        go_wp2
        go_ret
        exact ⟨rfl, ⟨_, R.out.call (below_drewN (Below.refl _ _) nd)⟩, below_drewN HB.out nd⟩
  · rw [if_pos h0]
    have hne : ((er : Int) != 0) = true := by simp; omega
    clear hmost
    go_enter Tryd.func8, Tryd.ntmps8
    go_wp2_with fail
    refine HU.out.mono ?_
    rintro e w1 ⟨rfl, r1, ho1⟩
    go_wp2
    go_ret
    exact ⟨rfl, ⟨_, r1⟩, R.out.lowB ho1⟩
/-- Parse's answer -/
def Told (z : List Ev × Nat × Nat) (w : World) (e : Ending) (w' : World) : Prop :=
  ∃ v, e = .returned (.tuple #[v, .int .i64 (z.2.1 : Nat), .int .i64 (z.2.2 : Nat)]) ∧ Evs w' v z.1 ∧ Src v ∧ z.1.length ≤ 60 ∧ Below w.heap.size w w'
set_option maxRecDepth 100000 in
set_option maxHeartbeats 1000000 in
theorem parseB_any (a : Option Addr) (c : Nat) (L : List Nat) (w : World) (hv : Rd w (.slice a L.length c) (bs L)) (hfit : L.length ≤ c) (hcap : c ≤ 9223372036854775807) (hsm : L.length ≤ 65536) (hb : ∀ x ∈ L, x < 256) (hn : a = none → c = 0) (hK : HasK w) :
    Calls Tryd.prog 4 #[.slice a L.length c] w (Told (parseB L) w) := by
  have hbw := (Below.refl w.heap.size w).alloc (Nat.le_refl _) (.cells #[.int .i64 0, .slice none 0 0, .slice a L.length c] 36)
  have hR : Rdg w.heap.size (w.alloc (.cells #[.int .i64 0, .slice none 0 0, .slice a L.length c] 36)) w.heap.size 0 (.slice none 0 0) a c L [] :=
    ⟨At.new w _ _, (Bin.of_rd hv hfit hcap hsm hb hn (Nat.le_refl _)).below hbw, Nat.le_refl _, hK.later hbw (Nat.le_refl _), hK.lt, hbw.size, World.ownsRow_nil _ _ _ _, Nat.zero_le _, Nat.zero_le _⟩
  have HE := Lib.hid (readEvents_any hR)
  have HBW := Lib.hid hbw
  unfold parseB
  obtain ⟨z, hz⟩ : ∃ z, readS L = z := ⟨_, rfl⟩
  obtain ⟨h, i, er⟩ := z
  rw [hz] at HE
  rw [hz]
  clear hR hbw hz hv hK
  by_cases h0 : er = 0
  · subst h0
    rw [if_neg (fun hh => hh rfl)]
    go_enter Tryd.func4, Tryd.ntmps4
    go_wp2_with fail
    generalize w.alloc (.cells #[.int .i64 0, .slice none 0 0, .slice a L.length c] 36) = w1 at *
    refine HE.out.mono ?_
    rintro e w2 ⟨rfl, ⟨v2, r2⟩, hb2⟩
    obtain ⟨ta, tc, rfl⟩ := row_slice r2.own
    have hg1 := r2.at_.cell (i := 1) (v := .slice ta h.length tc) rfl
    have R2 := Lib.hid r2
    have HB2 := Lib.hid (HBW.out.trans hb2)
    clear r2 hb2
    go_wp2
    go_ret3
    exact ⟨_, rfl, R2.out.evs, R2.out.src, R2.out.few, HB2.out⟩
  · rw [if_pos h0]
    have hne : ((er : Int) != 0) = true := by simp; omega
    go_enter Tryd.func4, Tryd.ntmps4
    go_wp2_with fail
    generalize w.alloc (.cells #[.int .i64 0, .slice none 0 0, .slice a L.length c] 36) = w1 at *
    refine HE.out.mono ?_
    rintro e w2 ⟨rfl, ⟨v2, r2⟩, hb2⟩
    have hg0 := r2.at_.cell (i := 0) (v := .int .i64 (i : Int)) rfl
    have HB2 := Lib.hid (HBW.out.trans hb2)
    clear r2 hb2
    go_wp2_with fail
    go_quiet (fail)
    go_wp2
    go_ret3
    exact ⟨_, rfl, Evs.nil _ _ _, .inl rfl, Nat.zero_le _, below_drewN HB2.out _⟩
end Go.Proofs.YtgdijlmfpboecaaDoor
