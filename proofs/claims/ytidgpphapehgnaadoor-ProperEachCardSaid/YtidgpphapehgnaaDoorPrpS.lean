/- The walk of ProperEach. -/
import Derived.Test.YtidgpphapehgnaaDoorPrpR
import Derived.Test.YtidgpphapehgnaaDoorPrpK
import Derived.Test.YtidgpphapehgnaaDoorBinC
namespace Go.Proofs.YtidgpphapehgnaaDoor.WPlain
end Go.Proofs.YtidgpphapehgnaaDoor.WPlain
namespace Go.Proofs.YtidgpphapehgnaaDoor.QPlain
end Go.Proofs.YtidgpphapehgnaaDoor.QPlain
namespace Go.Proofs.YtidgpphapehgnaaDoor
open Go.RowKit WPlain QPlain

/-- are those of a transaction well formed? -/
def okE (h : List Ev) (x : Ev) : Bool := decide ((checkS (ofT h x.t)).2 = 0)
theorem okE_more {h : List Ev} {k : Nat} (hk : k < h.length) : (h.take (k + 1)).all (okE h) = ((h.take k).all (okE h) && okE h h[k]) := by
  rw [List.take_succ_eq_append_getElem hk, List.all_append]
  simp
theorem srcE {a : Option Addr} {n c : Nat} (h : a = none → c = 0) (hn : n ≤ c) : Src (.slice a n c) := by
  cases a with
  | none => have := h rfl; exact .inl (by rw [this, show n = 0 from by omega])
  | some p => exact .inr ⟨_, _, _, rfl⟩
set_option maxRecDepth 100000 in
set_option maxHeartbeats 2000000 in
theorem each_walk (a : Option Addr) (n m c : Nat) (h : List Ev) (w : World) (hK : HasK w) (hn : n ≤ c) (hz : a = none → c = 0) (HAE : Hid ((min (n : Int) 65).toNat = m)) (hmn : m ≤ n) (hv : Evs w (.slice a m c) h) (h1 : h.length = m) (hm1 : m ≤ 65) :
    Calls Tryd.prog 6 #[.slice a n c] w fun e w' => e = .returned (.bool true) ∧ Below w.heap.size w w' := by
  have HK := Lib.hid hK
  have HCH := Lib.hid (check_any _ h w hK hv (by omega))
  have HV := Lib.hid hv
  have HS := Lib.hid (srcE (n := m) hz (by omega))
  clear hK hv hz
  cases hr : right h with
  | false =>
    have hc : checkS h = (0, 1) := by unfold checkS; rw [hr]; rfl
    rw [hc] at HCH
    clear hc hr
    go_enter Tryd.func6, Tryd.ntmps6
    go_wp2_with fail
    rw [HAE.out]
    refine HCH.out.mono ?_
    rintro e w1 ⟨rfl, hb1⟩
    have HB1 := Lib.hid hb1
    clear hb1
    go_wp2_with fail
    refine (alive_any _ (HK.out.later HB1.out (Nat.le_refl _))).mono ?_
    rintro e w3 ⟨rfl, hb3⟩
    go_wp2
    go_ret
    exact ⟨rfl, HB1.out.trans (hb3.mono HB1.out.size)⟩
  | true =>
    have h60 : h.length ≤ 60 := (right_evs hr).1
    have HEA : Hid (h.all (okE h) = decide ((checkS h).2 = 0)) := each_ok hr
    have HRT : Hid (∀ t, (checkS (ofT h t)).2 = 0 → (checkS (ofT h t)).1 = (ofT h t).length) := fun t => (checkS_ok (right_ofT hr t)).2
    have h2 : (checkS h).2 ≠ 1 := by unfold checkS; rw [if_pos hr]; split <;> simp
    obtain ⟨er, her⟩ : ∃ er, (checkS h).2 = er := ⟨_, rfl⟩
    rw [her] at HCH HEA h2
    have te : ((er : Int) == 1) = false := by simp; omega
    clear hr h2 her
    generalize (checkS h).1 = ii at *
    go_enter Tryd.func6, Tryd.ntmps6
    go_wp2_with fail
    rw [HAE.out]
    refine HCH.out.mono ?_
    rintro e w1 ⟨rfl, hb1⟩
    have HB1 := Lib.hid hb1
    clear hb1 HCH
    go_wp2_with fail
    go_loopw [5, 26] (fun y x wr => ∃ k : Nat, k ≤ m ∧ x = .int .i64 k ∧ y = .bool ((h.take k).all (okE h)) ∧ Hid (Below w.heap.size w wr)) (fun _ x _ => m - (intOf x).toNat)
    case atStart => exact ⟨0, by omega, rfl, rfl, HB1⟩
    case round =>
      clear HB1 te
      obtain ⟨k, hk, rfl, rfl, HB⟩ := hrel
      by_cases hlt : k < m
      · have hlh : k < h.length := by omega
        have HM := Lib.hid (okE_more hlh)
        have hv2 := HV.out.below HB.out (Nat.le_refl _)
        rcases hv2 with ⟨e0, _⟩ | ⟨l0, b, o, c', he, hbl, hcs⟩
        · rw [e0] at hlh; simp at hlh
        · obtain ⟨⟨rfl, -⟩, rfl⟩ : (a = some ⟨b, o, none⟩ ∧ m = h.length) ∧ c = c' := by
            simp only [Value.slice.injEq] at he
            exact ⟨⟨he.1, he.2.1⟩, he.2.2⟩
          clear he
          obtain ⟨c0, c1, c2, c3⟩ := hcs k hlh
          clear hcs
          generalize h[k] = ev at *
          generalize hA : (h.take k).all (okE h) = ok at *
          clear hA
          have hbA := (Below.refl wr.heap.size wr).alloc (Nat.le_refl _) (.cells #[.int .i64 ev.k, .int .i64 ev.t, .int .i64 ev.v, .int .i64 ev.x] 37)
          have HB2 := Lib.hid (HB.out.trans (hbA.mono HB.out.size))
          have HE := Lib.hid (At.new wr #[.int .i64 ev.k, .int .i64 ev.t, .int .i64 ev.v, .int .i64 ev.x] 37)
          have HCN := Lib.hid (clone_any _ h _ (HV.out.below HB2.out (Nat.le_refl _)) HS.out h60)
          have HSZ : Hid (wr.heap.size < (wr.alloc (.cells #[.int .i64 ev.k, .int .i64 ev.t, .int .i64 ev.v, .int .i64 ev.x] 37)).heap.size) := by unfold Hid; simp
          clear hbA HB
          go_upto_region 9 with fail
          generalize wr.alloc (.cells #[.int .i64 ev.k, .int .i64 ev.t, .int .i64 ev.v, .int .i64 ev.x] 37) = w2 at *
          generalize wr.heap.size = N at *
          clear c0 c1 c2 c3
          go_wp2_with fail
          refine HCN.out.mono ?_
          rintro e w3 ⟨v3, rfl, hrow3, hb3⟩
          rcases hrow3.2 with ⟨_, h0⟩ | ⟨g, cap, cur, rfl, -, -, hcap, -, -, -⟩
          · omega
          · have HE3 := Lib.hid (HE.out.below hb3 HE.out.lt)
            have HDL := Lib.hid (delete_any w2.heap.size g cap N h ev.t w3 hrow3 (by omega) hcap HSZ.out hb3.size (HE3.out.cell (i := 1) rfl))
            have HB3 := Lib.hid (HB2.out.trans (hb3.mono HB2.out.size))
            have HSZ3 : Hid (w.heap.size ≤ w2.heap.size) := HB2.out.size
            rw [h1] at HDL
            clear hrow3 hb3 hcap HCN HB2 HE HE3 HSZ
            rw [h1]
            go_wp2_with fail
            refine HDL.out.mono ?_
            rintro e w4 ⟨hb4, rfl, hv4⟩
            have HB4 := Lib.hid (HB3.out.trans (hb4.mono HSZ3.out))
            have hle : (ofT h ev.t).length ≤ h.length := List.length_filter_le ..
            have HC4 := Lib.hid (check_any _ (ofT h ev.t) w4 (HK.out.later HB4.out (Nat.le_refl _)) hv4 (by omega))
            have HR4 := Lib.hid (HRT.out ev.t)
            have HM4 : Hid ((h.take (k + 1)).all (okE h) = (ok && decide ((checkS (ofT h ev.t)).2 = 0))) := HM.out
            clear hb4 hv4 hle HDL HB3 HSZ3 HM
            generalize (ofT h ev.t).length = ln at *
            generalize checkS (ofT h ev.t) = C at *
            obtain ⟨n1, f⟩ := C
            dsimp only at HC4 HR4 HM4
            by_cases hf : f = 0
            · have hn1 := HR4.out hf
              subst hf hn1
              have HM5 : Hid ((h.take (k + 1)).all (okE h) = ok) := by unfold Hid; rw [HM4.out]; simp
              clear HR4 HM4
              go_wp2_with fail
              refine HC4.out.mono ?_
              rintro e w5 ⟨rfl, hb5⟩
              have HB5 := Lib.hid (HB4.out.trans (hb5.mono HB4.out.size))
              go_wp2
              go_roundw
              case rel => exact ⟨k + 1, by omega, by go_num, by rw [HM5.out], HB5⟩
              case measure => simp [intOf]; omega
            · have tf : ((f : Int) != 0) = true := by simp; omega
              have HM5 : Hid ((h.take (k + 1)).all (okE h) = false) := by unfold Hid; rw [HM4.out]; simp [hf]
              clear HR4 HM4 hf
              go_wp2_with fail
              refine HC4.out.mono ?_
              rintro e w5 ⟨rfl, hb5⟩
              have HB5 := Lib.hid (HB4.out.trans (hb5.mono HB4.out.size))
              go_wp2
              go_roundw
              case rel => exact ⟨k + 1, by omega, by go_num, by rw [HM5.out], HB5⟩
              case measure => simp [intOf]; omega
      · obtain rfl : k = m := by omega
        have HT : Hid ((h.take k).all (okE h) = decide (er = 0)) := by
          unfold Hid
          rw [← HEA.out, ← h1, List.take_length]
        have HAL := Lib.hid (alive_any _ (HK.out.later HB.out (Nat.le_refl _)))
        rw [HT.out]
        clear HT HEA
        by_cases h0 : er = 0
        · subst h0
          go_wp2_with fail
          refine HAL.out.mono ?_
          rintro e w3 ⟨rfl, hb3⟩
          go_wp2
          go_ret
          exact ⟨rfl, HB.out.trans (hb3.mono HB.out.size)⟩
        · have t0 : ((er : Int) == 0) = false := by simp; omega
          have t1 : decide (er = 0) = false := decide_eq_false h0
          rw [t1]
          clear t1
          go_wp2_with fail
          refine HAL.out.mono ?_
          rintro e w3 ⟨rfl, hb3⟩
          go_wp2
          go_ret
          exact ⟨rfl, HB.out.trans (hb3.mono HB.out.size)⟩
theorem each_any (a : Option Addr) (n c : Nat) (h : List Ev) (w : World) (hK : HasK w) (hn : n ≤ c) (hz : a = none → c = 0) (hv : Evs w (.slice a (min (n : Int) 65).toNat c) h) :
    Calls Tryd.prog 6 #[.slice a n c] w fun e w' => e = .returned (.bool true) ∧ Below w.heap.size w w' := by
  obtain ⟨m, hm⟩ : ∃ m, (min (n : Int) 65).toNat = m := ⟨_, rfl⟩
  rw [hm] at hv
  exact each_walk a n m c h w hK hn hz hm (by omega) hv hv.length.symm (by omega)
end Go.Proofs.YtidgpphapehgnaaDoor
