/- The walks of the reference's state and asked. -/
import Derived.Test.YtkliahdgciajjaaDoorTabD
import Derived.Test.YtkliahdgciajjaaDoorPrpJ
namespace Go.Proofs.YtkliahdgciajjaaDoor.WPlain
end Go.Proofs.YtkliahdgciajjaaDoor.WPlain
namespace Go.Proofs.YtkliahdgciajjaaDoor.QPlain
end Go.Proofs.YtkliahdgciajjaaDoor.QPlain
namespace Go.Proofs.YtkliahdgciajjaaDoor.RPlain
end Go.Proofs.YtkliahdgciajjaaDoor.RPlain
namespace Go.Proofs.YtkliahdgciajjaaDoor
open Go.RowKit WPlain QPlain RPlain

theorem state_any (k : Int) (w : World) : Calls Tryd.prog 19 #[.int .i64 k] w fun e w' => e = .returned (.int .i64 (stateS k)) ∧ w = w' := by
  unfold stateS
  by_cases h7 : k = 7
  · subst h7
    go_enter Tryd.func19, Tryd.ntmps19
    go_wp2
    go_ret
    exact ⟨rfl, rfl⟩
  · by_cases h9 : k = 9
    · subst h9
      go_enter Tryd.func19, Tryd.ntmps19
      go_wp2
      go_ret
      exact ⟨rfl, rfl⟩
    · by_cases h6 : k = 6
      · subst h6
        go_enter Tryd.func19, Tryd.ntmps19
        go_wp2
        go_ret
        exact ⟨rfl, rfl⟩
      · rw [if_neg h7, if_neg h9, if_neg h6]
        have t7 : ((k : Int) == 7) = false := by simp [h7]
        have t9 : ((k : Int) == 9) = false := by simp [h9]
        have t6 : ((k : Int) == 6) = false := by simp [h6]
        clear h7 h9 h6
        go_enter Tryd.func19, Tryd.ntmps19
        go_wp2
        go_ret
        exact ⟨rfl, rfl⟩
/-- the cells of an event -/
def evA (e : Ev) : Array Value := #[.int .i64 e.k, .int .i64 e.t, .int .i64 e.v, .int .i64 e.x]
theorem asked_take {h : List Ev} {k : Nat} (hk : k < h.length) (t : Int) : askedOf (h.take (k + 1)) t = if h[k].t = t then h[k] else askedOf (h.take k) t := by
  rw [← askedOf_snoc, List.take_succ_eq_append_getElem hk]
set_option maxRecDepth 100000 in
set_option maxHeartbeats 2000000 in
theorem asked_any (v : Value) (h : List Ev) (i : Nat) (t : Int) (w : World) (hv : Evs w v h) (hl : h.length ≤ 65536) (hi : i ≤ h.length) (hcap : ∀ a n c, v = .slice a n c → n ≤ c) :
    Calls Tryd.prog 29 #[v, .int .i64 (i : Int), .int .i64 t] w fun e w' => e = .returned (.agg (evA (askedOf (h.take i) t))) ∧ Below w.heap.size w w' := by
  obtain ⟨a, c, rfl⟩ := hv.len
  have hcp : h.length ≤ c := hcap _ _ _ rfl
  have HV := Lib.hid (evs_cutP hv i hi)
  have hgl : (h.take i).length = i := by rw [List.length_take]; omega
  generalize h.take i = g at *
  subst hgl
  clear hv hcap
  have HA0 : Hid (At ((w.alloc (.cells #[.int .i64 0, .int .i64 0, .int .i64 0, .int .i64 0] 53)).alloc (.cells #[.int .i64 0, .int .i64 0, .int .i64 0, .int .i64 0] 53)) w.heap.size #[.int .i64 0, .int .i64 0, .int .i64 0, .int .i64 0] 53) := (At.new w _ _).alloc _
  have HA1 : Hid (At ((w.alloc (.cells #[.int .i64 0, .int .i64 0, .int .i64 0, .int .i64 0] 53)).alloc (.cells #[.int .i64 0, .int .i64 0, .int .i64 0, .int .i64 0] 53)) (w.heap.size + 1) (evA (askedOf [] t)) 53) := by
    have h1 := At.new (w.alloc (.cells #[.int .i64 0, .int .i64 0, .int .i64 0, .int .i64 0] 53)) #[.int .i64 0, .int .i64 0, .int .i64 0, .int .i64 0] 53
    simp only [World.size_alloc] at h1
    exact h1
  have HB0 : Hid (Below w.heap.size w ((w.alloc (.cells #[.int .i64 0, .int .i64 0, .int .i64 0, .int .i64 0] 53)).alloc (.cells #[.int .i64 0, .int .i64 0, .int .i64 0, .int .i64 0] 53))) := ((Below.refl _ _).alloc (Nat.le_refl _) _).alloc (by simp) _
  have hk0 : (0 : Int) ≤ (g.length : Int) := by omega
  have hkc : (g.length : Int) ≤ (c : Int) := by omega
  go_enter Tryd.func29, Tryd.ntmps29
  go_wp2_with fail
  generalize (w.alloc (.cells #[.int .i64 0, .int .i64 0, .int .i64 0, .int .i64 0] 53)).alloc (.cells #[.int .i64 0, .int .i64 0, .int .i64 0, .int .i64 0] 53) = w1 at *
  go_loopw [15] (fun x wr => ∃ k : Nat, k ≤ g.length ∧ x = .int .i64 k ∧ Hid (At wr w.heap.size #[.int .i64 0, .int .i64 0, .int .i64 0, .int .i64 0] 53) ∧ Hid (At wr (w.heap.size + 1) (evA (askedOf (g.take k) t)) 53) ∧ Hid (Below w.heap.size w wr)) (fun x _ => g.length - (intOf x).toNat)
  case atStart => exact ⟨0, by omega, rfl, HA0, HA1, HB0⟩
  case round =>
    clear HA0 HA1 HB0
    obtain ⟨k, hk, rfl, HA0, HA1, HB⟩ := hrel
    have hl1 := HA1.out.lt
    by_cases hlt : k < g.length
    · have HT := Lib.hid (asked_take hlt t)
      have hv2 := HV.out.below HB.out (Nat.le_refl _)
      rcases hv2 with ⟨e0, _⟩ | ⟨l0, b, o, c', he, hbl, hc⟩
      · rw [e0] at hlt; simp at hlt
      · obtain ⟨rfl, rfl⟩ : a = some ⟨b, o, none⟩ ∧ c = c' := by simpa using he
        clear he
        obtain ⟨c0, c1, c2, c3⟩ := hc k hlt
        clear hc
        generalize g[k] = ev at *
        generalize askedOf (g.take k) t = aq at *
        have HE := At.new wr #[.int .i64 ev.k, .int .i64 ev.t, .int .i64 ev.v, .int .i64 ev.x] 53
        have e0 := HE.cell (i := 0) (v := .int .i64 ev.k) rfl
        have e1 := HE.cell (i := 1) (v := .int .i64 ev.t) rfl
        have e2 := HE.cell (i := 2) (v := .int .i64 ev.v) rfl
        have e3 := HE.cell (i := 3) (v := .int .i64 ev.x) rfl
        have HA01 := Lib.hid (HA0.out.alloc (.cells #[.int .i64 ev.k, .int .i64 ev.t, .int .i64 ev.v, .int .i64 ev.x] 53))
        have HA11 := Lib.hid (HA1.out.alloc (.cells #[.int .i64 ev.k, .int .i64 ev.t, .int .i64 ev.v, .int .i64 ev.x] 53))
        have HB1 := Lib.hid (HB.out.alloc HB.out.size (.cells #[.int .i64 ev.k, .int .i64 ev.t, .int .i64 ev.v, .int .i64 ev.x] 53))
        clear HE HA0 HA1 HB
        by_cases het : ev.t = t
        · have HA : Hid (askedOf (g.take (k + 1)) t = ev) := by unfold Hid; rw [HT.out, if_pos het]
          have tq : ((ev.t : Int) == t) = true := by simp [het]
          have f0 := HA11.out.free 0
          have f1 := HA11.out.free 1
          have f2 := HA11.out.free 2
          have f3 := HA11.out.free 3
          have d0 := HA11.out.cell (i := 0) (v := .int .i64 aq.k) rfl
          have d1 := HA11.out.cell (i := 1) (v := .int .i64 aq.t) rfl
          have d2 := HA11.out.cell (i := 2) (v := .int .i64 aq.v) rfl
          have d3 := HA11.out.cell (i := 3) (v := .int .i64 aq.x) rfl
          have HST : Hid (∀ W, At W (w.heap.size + 1) (evA aq) 53 → At (((((W.setCell ⟨w.heap.size + 1, 0, none⟩ (.int .i64 ev.k)).setCell ⟨w.heap.size + 1, 1, none⟩ (.int .i64 ev.t)).setCell ⟨w.heap.size + 1, 2, none⟩ (.int .i64 ev.v)).setCell ⟨w.heap.size + 1, 3, none⟩ (.int .i64 ev.x))) (w.heap.size + 1) (evA ev) 53) := fun W hW => (((hW.set 0 (.int .i64 ev.k)).set 1 (.int .i64 ev.t)).set 2 (.int .i64 ev.v)).set 3 (.int .i64 ev.x)
          clear het HT
          go_upto_region 6 with fail
          generalize wr.alloc (.cells #[.int .i64 ev.k, .int .i64 ev.t, .int .i64 ev.v, .int .i64 ev.x] 53) = w2 at *
          generalize wr.heap.size = N at *
          go_wp2_with fail
          go_roundw
          case rel =>
            exact ⟨k + 1, by omega, by go_num, (((HA01.out.other (a := ⟨w.heap.size + 1, 0, none⟩) (by simp) _).other (a := ⟨w.heap.size + 1, 1, none⟩) (by simp) _).other (a := ⟨w.heap.size + 1, 2, none⟩) (by simp) _).other (a := ⟨w.heap.size + 1, 3, none⟩) (by simp) _, by rw [HA.out]; exact HST.out _ HA11.out, (((HB1.out.setCell (p := ⟨w.heap.size + 1, 0, none⟩) (by simp) _).setCell (p := ⟨w.heap.size + 1, 1, none⟩) (by simp) _).setCell (p := ⟨w.heap.size + 1, 2, none⟩) (by simp) _).setCell (p := ⟨w.heap.size + 1, 3, none⟩) (by simp) _⟩
          case measure => simp [intOf]; omega
        · have HA : Hid (askedOf (g.take (k + 1)) t = aq) := by unfold Hid; rw [HT.out, if_neg het]
          have tq : ((ev.t : Int) == t) = false := by simp [het]
          clear het HT
          go_wp2
          go_roundw
          case rel => exact ⟨k + 1, by omega, by go_num, HA01, by rw [HA.out]; exact HA11, HB1⟩
          case measure => simp [intOf]; omega
    · obtain rfl : k = g.length := by omega
      rw [List.take_length] at HA1
      obtain ⟨aq, haq⟩ : ∃ aq, askedOf g t = aq := ⟨_, rfl⟩
      rw [haq] at HA1
      have HAQ := Lib.hid haq
      clear haq
      have d0 := HA1.out.cell (i := 0) (v := .int .i64 aq.k) rfl
      have d1 := HA1.out.cell (i := 1) (v := .int .i64 aq.t) rfl
      have d2 := HA1.out.cell (i := 2) (v := .int .i64 aq.v) rfl
      have d3 := HA1.out.cell (i := 3) (v := .int .i64 aq.x) rfl
      have f0 := HA0.out.free 0
      have f1 := HA0.out.free 1
      have f2 := HA0.out.free 2
      have f3 := HA0.out.free 3
      have c0 := HA0.out.cell (i := 0) (v := .int .i64 0) rfl
      have c1 := HA0.out.cell (i := 1) (v := .int .i64 0) rfl
      have c2 := HA0.out.cell (i := 2) (v := .int .i64 0) rfl
      have c3 := HA0.out.cell (i := 3) (v := .int .i64 0) rfl
      have HBF : Hid (Below w.heap.size w ((((wr.setCell ⟨w.heap.size, 0, none⟩ (.int .i64 aq.k)).setCell ⟨w.heap.size, 1, none⟩ (.int .i64 aq.t)).setCell ⟨w.heap.size, 2, none⟩ (.int .i64 aq.v)).setCell ⟨w.heap.size, 3, none⟩ (.int .i64 aq.x))) := (((HB.out.setCell (p := ⟨w.heap.size, 0, none⟩) (Nat.le_refl _) _).setCell (p := ⟨w.heap.size, 1, none⟩) (Nat.le_refl _) _).setCell (p := ⟨w.heap.size, 2, none⟩) (Nat.le_refl _) _).setCell (p := ⟨w.heap.size, 3, none⟩) (Nat.le_refl _) _
      go_wp2_with fail
      exact bodyPost_ret (v := .agg (evA aq)) (by simp [results, Tryd.results29, go_sem, evA, c0, c1, c2, c3]) rfl ⟨by rw [HAQ.out], HBF.out⟩
end Go.Proofs.YtkliahdgciajjaaDoor
