/- The walk of slices.insertionSortCmpFunc at events. -/
import Derived.Test.YtnggadcoepieaaaDoorMg12
namespace Go.Proofs.YtnggadcoepieaaaDoor.WPlain
end Go.Proofs.YtnggadcoepieaaaDoor.WPlain
namespace Go.Proofs.YtnggadcoepieaaaDoor.QPlain
end Go.Proofs.YtnggadcoepieaaaDoor.QPlain
namespace Go.Proofs.YtnggadcoepieaaaDoor.RPlain
end Go.Proofs.YtnggadcoepieaaaDoor.RPlain
namespace Go.Proofs.YtnggadcoepieaaaDoor
open Go.RowKit WPlain QPlain RPlain

theorem app_ev (x s : List Ev) (e : Ev) (r : List Ev) : x ++ s ++ e :: r = x ++ (s ++ e :: r) := by simp
theorem ins_done {p s r q y : List Ev} {e : Ev} (hs : Srt p) (hp : p = s ++ r) (hr : ∀ c ∈ r, e.t < c.t) (hc : ∀ c ∈ s, c.t ≤ e.t) (ha : Alk y (p ++ e :: q)) : Srt (s ++ e :: r) ∧ Alk y ((s ++ e :: r) ++ q) := by
  subst hp
  obtain ⟨h1, h2, h3⟩ := srt_app.1 hs
  refine ⟨srt_app.2 ⟨h1, srt_cons.2 ⟨fun c h => Int.le_of_lt (hr c h), h2⟩, ?_⟩, ha.trans ?_⟩
  · intro c hcs d hd
    rcases List.mem_cons.1 hd with rfl | hd
    · exact hc c hcs
    · exact h3 c hcs d hd
  · have h4 : Alk (r ++ [e]) ([e] ++ r) := alk_swap fun c h d hd => by rw [List.mem_singleton.1 hd]; have := hr c h; omega
    have := ((Alk.refl s).app h4).app (Alk.refl q)
    simpa using this
theorem ins_stop {s' r p : List Ev} {c e : Ev} (hs : Srt p) (hp : p = (s' ++ [c]) ++ r) (h : ¬ e.t < c.t) : ∀ d ∈ s' ++ [c], d.t ≤ e.t := by
  subst hp
  intro d hd
  rcases List.mem_append.1 hd with hd | hd
  · have := (srt_app.1 (srt_app.1 hs).1).2.2 d hd c (List.mem_singleton_self c)
    omega
  · rw [List.mem_singleton.1 hd]; omega
set_option maxRecDepth 100000 in
set_option maxHeartbeats 4000000 in
theorem insert_any (B g cap n a b : Nat) (x y z : List Ev) (w : World) (HR : Hid (Row B g cap n w (x ++ (y ++ z)))) (hx : x.length = a) (hy : a + y.length = b) (hl : n ≤ 65536) (hB : B ≤ w.heap.size) :
    Calls Tryd.prog 47 #[.slice (some ⟨g, 0, none⟩) n cap, .int .i64 a, .int .i64 b, ordV] w fun e w' =>
      e = .returned (.tuple #[]) ∧ Below B w w' ∧ ∃ y', Srt y' ∧ Alk y y' ∧ Row B g cap n w' (x ++ (y' ++ z)) := by
  have HB0 := Lib.hid (Below.refl B w)
  have hbn : b ≤ n := by have := HR.out.1; simp at this; omega
  have HB := Lib.hid hB
  have H0 : Hid (∃ p q, y = p ++ q ∧ Srt p ∧ (y = [] ∨ p.length = 1)) := by
    rcases y with _ | ⟨e, r⟩
    · exact ⟨[], [], rfl, srt_nil, .inl rfl⟩
    · exact ⟨[e], r, rfl, srt_one e, .inr rfl⟩
  unfold ordV
  clear hB
  go_enter Tryd.func47, Tryd.ntmps47
  go_wp2
  go_loopw [8] (fun u wr => ∃ (i : Nat) (p q : List Ev), u = .int .i64 i ∧ a < i ∧ i ≤ b + 1 ∧ Hid (Srt p) ∧ Hid (Alk y (p ++ q)) ∧ Hid (y = [] ∨ a + p.length = i) ∧ Hid (Row B g cap n wr (x ++ (p ++ q ++ z))) ∧ Hid (Below B w wr)) (fun u _ => b + 1 - (intOf u).toNat)
  case atStart =>
    obtain ⟨p, q, h1, h2, h3⟩ := H0.out
    refine ⟨a + 1, p, q, by go_num, by omega, by omega, h2, by rw [← h1]; exact Alk.refl _, by rcases h3 with h3 | h3; exact .inl h3; exact .inr (by omega), by rw [← h1]; exact HR, HB0⟩
  case round =>
    clear HR HB0 H0
    obtain ⟨i, p, q, rfl, hai, hib, HS, HA, HP, HR, HBw⟩ := hrel
    by_cases hlt : i < b
    · have hpl : a + p.length = i := by
        rcases HP.out with h | h
        · rw [h] at hy; simp at hy; omega
        · exact h
      obtain ⟨e, q1, rfl⟩ : ∃ e q1, q = e :: q1 := by
        rcases q with _ | ⟨e, q1⟩
        · have := HA.out.len; simp at this; omega
        · exact ⟨e, q1, rfl⟩
      have HPL := Lib.hid hpl
      clear HP hpl
      obtain ⟨w9, hw9⟩ : ∃ w9 : World, w9 = wr := ⟨wr, rfl⟩
      subst hw9
      go_wp2_with fail
      go_loopw [9] (fun v w2 => ∃ (s r : List Ev) (j : Nat), v = .int .i64 j ∧ a + s.length = j ∧ Hid (p = s ++ r) ∧ Hid (∀ c ∈ r, e.t < c.t) ∧ Hid (Row B g cap n w2 (x ++ (s ++ e :: (r ++ (q1 ++ z))))) ∧ Hid (Below B w w2)) (fun v _ => (intOf v).toNat)
      case atStart => exact ⟨p, [], i, rfl, HPL.out, (by simp [Hid]), (by intro c hc; simp at hc), (by simpa [Hid] using HR), HBw⟩
      case round =>
        clear HR HBw
        obtain ⟨s, r, j, rfl, hj, HPE, HE, HR2, HB2⟩ := hrel
        have hsl : s.length ≤ p.length := by rw [HPE.out]; simp
        have hpi := HPL.out
        have hji : j < b := by omega
        clear hpi hsl
        rcases List.eq_nil_or_concat s with rfl | ⟨s', c, rfl⟩
        · have hja : a = j := by simpa using hj
          subst hja
          have hjaz : decide ((a : Int) > (a : Int)) = false := by simp
          go_wp2_with fail
          have HD := Lib.hid (ins_done HS.out HPE.out HE.out (by intro c hc; simp at hc) HA.out)
          have HR3 : Hid (Row B g cap n wr.drew (x ++ (([] ++ e :: r) ++ q1 ++ z))) := by have := HR2.out.keep ((Below.refl wr.heap.size wr).drew); simpa [Hid] using this
          have HB3 : Hid (Below B w wr.drew) := HB2.out.drew
          go_big_region
          all_goals go_wp2
          go_roundw
          case rel => exact ⟨i + 1, [] ++ e :: r, q1, by go_num, by omega, by omega, HD.out.1, HD.out.2, .inr (by have := congrArg List.length HPE.out; have := HPL.out; simp at *; omega), HR3, HB3⟩
          case measure => simp [intOf]; omega
        · rw [List.concat_eq_append] at hj HPE HR2
          have mixed : Tryd.prog.follows .mixedOrders = true := by kernel_rfl
          obtain ⟨jp, rfl⟩ : ∃ jp, j = jp + 1 := ⟨j - 1, by simp at hj; omega⟩
          have hjp : a + s'.length = jp := by simp at hj; omega
          have HRe : Hid (Row B g cap n wr ((x ++ s') ++ c :: ([] ++ e :: (r ++ (q1 ++ z))))) := by simpa [Hid] using HR2
          have r1 : ∀ m os, Row B g cap n (Go.Sort.grow (wr.drewN m) os) ((x ++ s') ++ c :: ([] ++ e :: (r ++ (q1 ++ z)))) := fun m os => HRe.out.keep (below_grown wr m os)
          have lc := fun m os => (r1 m os).at (i := jp) (by simp; omega)
          have le := fun m os => (show Row B g cap n (Go.Sort.grow (wr.drewN m) os) ((x ++ s' ++ [c]) ++ e :: (r ++ (q1 ++ z))) from by simpa using r1 m os).at (i := jp + 1) (by simp; omega)
          have hcg := fun m os => order_any e.k e.t e.v e.x c.k c.t c.v c.x (Go.Sort.grow (wr.drewN m) os)
          have jz : (jp : Int) + 1 < (n : Int) := by omega
          have jz1 : (jp : Int) < (n : Int) := by omega
          have hjaz : (a : Int) < (jp : Int) + 1 := by omega
          have p0 : (0 : Int) ≤ (jp : Int) + 1 := by omega
          have e0 : ((jp : Int) + 1).toNat = jp + 1 := by omega
          have hwp : IntKind.i64.wrap (jp : Int) = (jp : Int) := by rw [IntKind.wrap_i64]; omega
          clear r1
          by_cases hlv : e.t < c.t
          · have ht : Lib.compareInt e.t c.t < 0 := cmp_lt.2 hlv
            generalize Lib.compareInt e.t c.t = cv at hcg ht
            go_wp2_with fail
            go_quiet_grown (first | (go_at_call 30; refine Calls.grown_of (hcg _ _)))
            have HR3 := Lib.hid (HRe.out.keep (below_grown wr nq osq))
            have HB3 : Hid (Below B w (Go.Sort.grow (wr.drewN nq) osq)) := HB2.out.trans ((below_grown wr nq osq).mono (Nat.le_trans HB.out HB2.out.size))
            have HLV := Lib.hid hlv
            clear lc le hcg ht hlv
            go_wp2_with fail
            generalize Go.Sort.grow (wr.drewN nq) osq = w3 at HR3 HB3 ⊢
            obtain ⟨c0, c1, c2, c3⟩ := HR3.out.at (i := jp) (by simp; omega)
            obtain ⟨d0, d1, d2, d3⟩ := (show Row B g cap n w3 ((x ++ s' ++ [c]) ++ e :: (r ++ (q1 ++ z))) from by simpa using HR3.out).at (i := jp + 1) (by simp; omega)
            have HSW := Lib.hid (HR3.out.swap' (i := jp) (j := jp + 1) (by simp; omega) (by simp; omega))
            have f0 : ∀ i, w3.frozen? ⟨g, i, none⟩ = false := fun i => by have := HR3.out.2.frozenAt i; simpa using this
            have HR4 : Hid (Row B g cap n (putE (putE w3 g (jp + 1) c) g jp e).drew (x ++ (s' ++ e :: ((c :: r) ++ (q1 ++ z))))) := by
              have := HSW.out.1.keep ((Below.refl _ _).drew)
              simpa [Hid] using this
            have HB4 : Hid (Below B w (putE (putE w3 g (jp + 1) c) g jp e).drew) := (HB3.out.trans HSW.out.2).drew
            have HPE4 : Hid (p = s' ++ (c :: r)) := by rw [HPE.out]; simp [Hid]
            have HE4 : Hid (∀ d ∈ c :: r, e.t < d.t) := by
              intro d hd
              rcases List.mem_cons.1 hd with rfl | hd
              · exact HLV.out
              · exact HE.out d hd
            go_big_region
            clear f0 c0 c1 c2 c3 d0 d1 d2 d3
            go_wp2
            go_roundw
            case rel => exact ⟨s', c :: r, jp, rfl, hjp, HPE4, HE4, HR4, HB4⟩
            case measure => simp [intOf]
          · have HLV := Lib.hid hlv
            have ht : ¬ Lib.compareInt e.t c.t < 0 := fun h => hlv (cmp_lt.1 h)
            clear hlv
            generalize Lib.compareInt e.t c.t = cv at hcg ht
            go_wp2_with fail
            go_quiet_grown (first | (go_at_call 30; refine Calls.grown_of (hcg _ _)))
            have HD := Lib.hid (ins_done HS.out HPE.out HE.out (ins_stop HS.out HPE.out (by have := HLV.out; omega)) HA.out)
            have HR3 : Hid (Row B g cap n (Go.Sort.grow (wr.drewN nq) osq) (x ++ (((s' ++ [c]) ++ e :: r) ++ q1 ++ z))) := by have := HRe.out.keep (below_grown wr nq osq); simpa [Hid] using this
            have HB3 : Hid (Below B w (Go.Sort.grow (wr.drewN nq) osq)) := HB2.out.trans ((below_grown wr nq osq).mono (Nat.le_trans HB.out HB2.out.size))
            clear lc le hcg
            go_wp2
            go_roundw
            case rel => exact ⟨i + 1, (s' ++ [c]) ++ e :: r, q1, by go_num, by omega, by omega, HD.out.1, HD.out.2, .inr (by have := congrArg List.length HPE.out; have := HPL.out; simp at *; omega), HR3, HB3⟩
            case measure => simp [intOf]; omega
    · go_wp2
      go_end0
      have h0 : q = [] ∨ y = [] := by
        rcases HP.out with h | h
        · exact .inr h
        · have := HA.out.len
          simp at this
          exact .inl (List.length_eq_zero_iff.1 (by omega))
      have h1 : q = [] := by
        rcases h0 with h | h
        · exact h
        · have := HA.out.len
          rw [h] at this
          simp at this
          exact List.length_eq_zero_iff.1 (by omega)
      subst h1
      refine ⟨rfl, HBw.out, p, HS.out, by have := HA.out; rwa [List.append_nil] at this, by have := HR.out; rwa [List.append_nil] at this⟩
end Go.Proofs.YtnggadcoepieaaaDoor
