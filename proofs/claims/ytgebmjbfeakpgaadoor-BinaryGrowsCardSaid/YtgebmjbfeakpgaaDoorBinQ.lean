/- The walk of BinaryBack. -/
import Derived.Test.YtgebmjbfeakpgaaDoorBinI
import Derived.Test.YtgebmjbfeakpgaaDoorBinK
import Derived.Test.YtgebmjbfeakpgaaDoorBinL
import Derived.Test.YtgebmjbfeakpgaaDoorBinP
import Derived.Test.YtgebmjbfeakpgaaDoorBinN
import Derived.Test.YtgebmjbfeakpgaaDoorTxtO
import Derived.Test.YtgebmjbfeakpgaaDoorVarS
import Derived.Lib.ConvBytes
import Derived.RegionTactic
namespace Go.Proofs.YtgebmjbfeakpgaaDoor
open Go.RowKit WPlain VPlain BPlain

/-- a text's bytes -/
def okT (c : UInt8) : Bool := !noTxt c.toNat
theorem dig_ok : ∀ (c : Nat), c < 10 → okT (UInt8.ofNat (48 + c)) = true := by decide
theorem below_bytes (w : World) (e : TypeId) (s : ByteArray) : Below w.heap.size w (Lib.bytesWorld w e s) :=
  ⟨rfl, rfl, rfl, by rw [Lib.bytesWorld_size]; omega, fun k hk => Lib.bytesWorld_at_old w e s k hk⟩
theorem rd_bytes (w : World) (s : ByteArray) (c : Nat) (e : TypeId) : Rd (Lib.bytesWorld w e s) (.slice (some ⟨w.heap.size, 0, none⟩) s.size c) (bs (s.data.toList.map UInt8.toNat)) := by
  have hl : (bs (s.data.toList.map UInt8.toNat)).length = s.size := by rw [bs_len, List.length_map]; exact (Lib.size_eq s).symm
  by_cases h0 : 0 < s.size
  · refine .inr ⟨by rw [hl]; exact h0, w.heap.size, 0, c, by rw [hl], fun i u hu => ?_⟩
    have hi : i < s.size := by rw [← hl]; exact (List.getElem?_eq_some_iff.1 hu).1
    rw [Nat.zero_add, Lib.bytesWorld_cell w e s i hi]
    have hi2 : i < s.data.toList.length := by have := Lib.size_eq s; omega
    simp only [bs, List.map_map, List.getElem?_map, List.getElem?_eq_getElem hi2, Option.map_some, Function.comp] at hu
    rw [List.getD_eq_getElem?_getD, List.getElem?_eq_getElem hi2]
    exact hu
  · refine .inl ⟨List.length_eq_zero_iff.1 (by omega), some ⟨w.heap.size, 0, none⟩, c, by rw [show s.size = 0 from by omega]⟩
theorem digit_ok (c : Nat) (h : c < 10) : okT (UInt8.ofNat (48 + c)) = true := dig_ok c h
theorem dec_ok (u : Nat) : ∀ c ∈ Lib.decDigits u, okT c = true := by
  induction u using Nat.strongRecOn with
  | ind u ih =>
    intro c hc
    rw [Lib.decDigits] at hc
    split at hc
    · rename_i h
      rw [List.mem_singleton.1 hc]; exact digit_ok u h
    · rename_i h
      rcases List.mem_append.1 hc with hc | hc
      · exact ih (u / 10) (by omega) c hc
      · rw [List.mem_singleton.1 hc]; exact digit_ok _ (by omega)
theorem itoa_ok (n : Int) : ∀ c ∈ Lib.itoa n, okT c = true := by
  intro c hc
  unfold Lib.itoa at hc
  split at hc
  · rcases List.mem_cons.1 hc with rfl | hc
    · decide
    · exact dec_ok _ c hc
  · exact dec_ok _ c hc
theorem kword_ok : ∀ k, k < 10 → ∀ c ∈ kwords.getD k [], okT c = true := by decide
theorem evTxt_ok {e : Ev} (he : evOk e = true) : ∀ c ∈ evTxt e, okT c = true := by
  have h := evOk_in he
  intro c hc
  unfold evTxt numTxt at hc
  simp only [List.mem_append, List.mem_singleton] at hc
  rcases hc with ((((hc | rfl) | hc) | hc) | hc) | rfl
  · exact kword_ok _ (by omega) c hc
  · decide
  · exact itoa_ok _ c hc
  · split at hc
    · rcases List.mem_append.1 hc with hc | hc
      · rw [List.mem_singleton.1 hc]; decide
      · exact itoa_ok _ c hc
    · cases hc
  · split at hc
    · rcases List.mem_append.1 hc with hc | hc
      · rw [List.mem_singleton.1 hc]; decide
      · exact itoa_ok _ c hc
    · cases hc
  · decide
theorem printTxt_ok {h : List Ev} (hr : right h = true) : ((printTxt h).map UInt8.toNat).any noTxt = false := by
  obtain ⟨_, hall, _⟩ := right_all hr
  rw [List.any_eq_false]
  intro x hx hn
  obtain ⟨c, hc, rfl⟩ := List.mem_map.1 hx
  obtain ⟨e, he, hce⟩ := List.mem_flatMap.1 hc
  have := evTxt_ok (hall e he) c hce
  rw [okT, hn] at this
  cases this
theorem own_cap {w : World} {B : Nat} {e : TypeId} {z : Nat} {a : Option Addr} {n m c : Nat} {xs : List Value} (h : w.ownsRow B e z (.slice a m c) n xs) (h0 : 0 < n) : n ≤ c ∧ c ≤ 9223372036854775807 := by
  rcases h.2 with ⟨_, h1⟩ | ⟨g, cap, cur, he, _, _, hn, hm, _⟩
  · omega
  · simp only [Value.slice.injEq] at he
    obtain ⟨_, _, rfl⟩ := he
    unfold maxLen at hm
    exact ⟨hn, hm⟩
theorem printB_pos (h : List Ev) : 0 < (printB h).length := by unfold printB; rw [List.length_append]; have := nb_pos h.length; omega
theorem body_byte {e : Ev} (he : evOk e = true) : ∀ c ∈ bodyB e, c < 256 := by
  have h := evOk_in he
  intro c hc
  unfold bodyB at hc
  simp only [List.mem_append, List.mem_cons] at hc
  rcases hc with ((rfl | hc) | hc) | hc
  · omega
  · exact nb_byte _ c hc
  · split at hc
    · exact nb_byte _ c hc
    · cases hc
  · split at hc
    · exact nb_byte _ c hc
    · cases hc
theorem printB_byte {h : List Ev} (hr : right h = true) : ∀ c ∈ printB h, c < 256 := by
  obtain ⟨_, hall, _⟩ := right_all hr
  intro c hc
  unfold printB at hc
  rcases List.mem_append.1 hc with hc | hc
  · exact nb_byte _ c hc
  · obtain ⟨e, he, hce⟩ := List.mem_flatMap.1 hc
    unfold evB at hce
    rcases List.mem_append.1 hce with hc | hc
    · exact nb_byte _ c hc
    · exact body_byte (hall e he) c hc
theorem printB_read {h : List Ev} (hr : right h = true) : parseB (printB h) = (h, 0, 0) :=
  parseB_printB hr (fun e he => by have := bodyB_len ((right_all hr).2.1 e he); omega)
/-- what Print has made is read -/
theorem parse_own {w : World} {B : Nat} {g c : Nat} {h : List Ev} (hr : right h = true) (ho : w.ownsRow B 5 1 (.slice (some ⟨g, 0, none⟩) (printB h).length c) (printB h).length (bs (printB h))) (hK : HasK w) :
    Calls Tryd.prog 7 #[.slice (some ⟨g, 0, none⟩) (printB h).length c] w (Told (h, 0, 0) w) := by
  have hc := own_cap ho (printB_pos h)
  have hp := parseB_any (some ⟨g, 0, none⟩) c (printB h) w (Rd.of_row ho) hc.1 hc.2 (by have := printB_len hr; omega) (printB_byte hr) (fun hh => by cases hh) hK
  rw [printB_read hr] at hp
  exact hp
theorem is_text {w : World} {h : List Ev} (hr : right h = true) (c : Nat) :
    Calls Tryd.prog 12 #[.slice (some ⟨w.heap.size, 0, none⟩) (⟨(printTxt h).toArray⟩ : ByteArray).size c] (Lib.bytesWorld w 5 ⟨(printTxt h).toArray⟩) fun e w' => e = .returned (.bool true) ∧ Lib.bytesWorld w 5 ⟨(printTxt h).toArray⟩ = w' := by
  obtain ⟨h60, hall, _⟩ := right_all hr
  have hl : ((⟨(printTxt h).toArray⟩ : ByteArray).data.toList.map UInt8.toNat).length = (⟨(printTxt h).toArray⟩ : ByteArray).size := by rw [List.length_map]; exact (Lib.size_eq _).symm
  have hL := printTxt_len h (List.all_eq_true.2 hall)
  have hi := is_any (some ⟨w.heap.size, 0, none⟩) c ((⟨(printTxt h).toArray⟩ : ByteArray).data.toList.map UInt8.toNat) (Lib.bytesWorld w 5 ⟨(printTxt h).toArray⟩) (by rw [hl]; exact rd_bytes w _ c _)
    (fun x hx => by obtain ⟨b, _, rfl⟩ := List.mem_map.1 hx; exact UInt8.toNat_lt b) (by simp; omega)
  rw [hl, show ((⟨(printTxt h).toArray⟩ : ByteArray).data.toList.map UInt8.toNat).any noTxt = false from printTxt_ok hr] at hi
  exact hi

set_option maxRecDepth 100000 in
set_option maxHeartbeats 2000000 in
theorem back_nn (a1 a2 : Option Addr) (n1 m1 c1 n2 m2 c2 : Nat) (h : List Ev) (L : List Nat) (w : World) (hK : HasK w) (hP : HasP w) (hn1 : n1 ≤ c1) (hn2 : n2 ≤ c2) (hc2 : c2 ≤ 9223372036854775807) (hz2 : a2 = none → c2 = 0)
    (HAE : Hid ((min (n1 : Int) 65).toNat = m1)) (HBE : Hid ((min (n2 : Int) 900).toNat = m2)) (hv : Evs w (.slice a1 m1 c1) h) (hb : Rd w (.slice a2 m2 c2) (bs L)) (h1 : h.length = m1) (h2 : L.length = m2) (hm1 : m1 ≤ 65) (hm2 : m2 ≤ 900) (hby : ∀ x ∈ L, x < 256) (hr : right h = false) (he : (parseB L).2.2 ≠ 0) :
    Calls Tryd.prog 5 #[.slice a1 n1 c1, .slice a2 n2 c2] w fun e w' => e = .returned (.bool true) ∧ Below w.heap.size w w' := by
  have HK := Lib.hid hK
  have HP := Lib.hid hP
  have HV := Lib.hid hv
  have HBY := Lib.hid hb
  have HR := Lib.hid hr
  have HLE := Lib.hid h1
  have HLB := Lib.hid h2
  have hfit : m2 ≤ c2 := by have := HBE.out; omega
  have hPP := fun (W : World) (hbw : Below w.heap.size w W) => parseB_any a2 c2 L W (by rw [h2]; exact hb.below hbw (Nat.le_refl _)) (by omega) hc2 (by omega) hby hz2 (hK.later hbw (Nat.le_refl _))
  obtain ⟨z, hz⟩ : ∃ z, parseB L = z := ⟨_, rfl⟩
  rw [hz, h2] at hPP
  rw [hz] at he
  have hl0 : z.1 = [] := by
    rw [← hz] at he ⊢
    unfold parseB at he ⊢
    by_cases h5 : (readS L).2.2 = 0
    · rw [if_neg (fun hh => hh h5)] at he; exact absurd rfl he
    · rw [if_pos h5]
  obtain ⟨y0, q0, e0⟩ := z
  dsimp only at he hl0
  subst hl0
  have hne : ((e0 : Int) != 0) = true := by simp; omega
  have HNE := Lib.hid hne
  clear hne
  have HPP := Lib.hid hPP
  clear hK hP hv hb hr h1 h2 hPP hz
  go_enter Tryd.func5, Tryd.ntmps5
  go_wp2
  go_region
  go_wp2_with fail
  rw [HAE.out, HBE.out]
  refine (print_no _ h _ (HK.out.later (below_dr w) (Nat.le_refl _)) (HV.out.below (below_dr w) (Nat.le_refl _)) (by have := HLE.out; omega) HR.out).mono ?_
  rintro e w5 ⟨rfl, hb1⟩
  have HB5 := Lib.hid (below_stp hb1)
  clear hb1
  go_wp2_with fail
  refine (HPP.out _ HB5.out).mono ?_
  rintro e w6 ⟨y, rfl, hy, _, _, hb6⟩
  have HB6 := Lib.hid (HB5.out.trans (hb6.mono HB5.out.size))
  have HY6 := Lib.hid hy
  obtain ⟨ya', yc', rfl⟩ := hy.len
  clear hy hb6 HB5
  have hne := HNE.out
  go_wp2_with fail
  refine (alive_any _ (HK.out.later HB6.out (Nat.le_refl _))).mono ?_
  rintro e w8 ⟨rfl, hb8⟩
  have HB8 := Lib.hid (HB6.out.trans (hb8.mono HB6.out.size))
  go_wp2
  go_ret
  exact ⟨rfl, HB8.out⟩

set_option maxRecDepth 100000 in
set_option maxHeartbeats 2000000 in
theorem back_ny (a1 a2 : Option Addr) (n1 m1 c1 n2 m2 c2 : Nat) (h : List Ev) (L : List Nat) (w : World) (hK : HasK w) (hP : HasP w) (hn1 : n1 ≤ c1) (hn2 : n2 ≤ c2) (hc2 : c2 ≤ 9223372036854775807) (hz2 : a2 = none → c2 = 0)
    (HAE : Hid ((min (n1 : Int) 65).toNat = m1)) (HBE : Hid ((min (n2 : Int) 900).toNat = m2)) (hv : Evs w (.slice a1 m1 c1) h) (hb : Rd w (.slice a2 m2 c2) (bs L)) (h1 : h.length = m1) (h2 : L.length = m2) (hm1 : m1 ≤ 65) (hm2 : m2 ≤ 900) (hby : ∀ x ∈ L, x < 256) (hr : right h = false) (he : (parseB L).2.2 = 0) :
    Calls Tryd.prog 5 #[.slice a1 n1 c1, .slice a2 n2 c2] w fun e w' => e = .returned (.bool true) ∧ Below w.heap.size w w' := by
  have HK := Lib.hid hK
  have HP := Lib.hid hP
  have HV := Lib.hid hv
  have HBY := Lib.hid hb
  have HR := Lib.hid hr
  have HLE := Lib.hid h1
  have HLB := Lib.hid h2
  have hfit : m2 ≤ c2 := by have := HBE.out; omega
  have hPP := fun (W : World) (hbw : Below w.heap.size w W) => parseB_any a2 c2 L W (by rw [h2]; exact hb.below hbw (Nat.le_refl _)) (by omega) hc2 (by omega) hby hz2 (hK.later hbw (Nat.le_refl _))
  obtain ⟨z, hz⟩ : ∃ z, parseB L = z := ⟨_, rfl⟩
  rw [hz, h2] at hPP
  obtain ⟨hok, hpr⟩ := parseB_ok hby he
  rw [hz] at he hok hpr
  obtain ⟨y0, q0, e0⟩ := z
  dsimp only at he hok hpr
  subst he
  have hq0 : q0 = 0 := by
    have h3 := congrArg (fun z => z.2.1) hz
    have h4 := congrArg (fun z => z.2.2) hz
    dsimp only at h3 h4
    unfold parseB at h3 h4
    by_cases h5 : (readS L).2.2 = 0
    · rw [if_neg (fun hh => hh h5)] at h3; exact h3.symm
    · rw [if_pos h5] at h4; exact absurd h4 h5
  subst hq0
  have HOK := Lib.hid hok
  have HPR := Lib.hid hpr
  clear hok hpr
  have HPP := Lib.hid hPP
  clear hK hP hv hb hr h1 h2 hPP hz
  go_enter Tryd.func5, Tryd.ntmps5
  go_wp2
  go_region
  go_wp2_with fail
  rw [HAE.out, HBE.out]
  refine (print_no _ h _ (HK.out.later (below_dr w) (Nat.le_refl _)) (HV.out.below (below_dr w) (Nat.le_refl _)) (by have := HLE.out; omega) HR.out).mono ?_
  rintro e w5 ⟨rfl, hb1⟩
  have HB5 := Lib.hid (below_stp hb1)
  clear hb1
  go_wp2_with fail
  refine (HPP.out _ HB5.out).mono ?_
  rintro e w6 ⟨y, rfl, hy, _, _, hb6⟩
  have HB6 := Lib.hid (HB5.out.trans (hb6.mono HB5.out.size))
  have HY6 := Lib.hid hy
  obtain ⟨ya', yc', rfl⟩ := hy.len
  clear hy hb6 HB5
  go_wp2_with fail
  refine (print_yes _ y0 _ (HK.out.later HB6.out (Nat.le_refl _)) HY6.out HOK.out).mono ?_
  rintro e w7 ⟨x, rfl, hx, hb7⟩
  have HB7 := Lib.hid (HB6.out.trans (hb7.mono HB6.out.size))
  have HY7 := Lib.hid (HY6.out.below hb7 (Nat.le_refl _))
  have HX7 := Lib.hid (Rd.of_row hx)
  obtain ⟨xa, xc, rfl⟩ := row_slice hx
  clear hx hb7 HB6 HY6
  go_wp2_with fail
  refine (alive_any _ (HK.out.later HB7.out (Nat.le_refl _))).mono ?_
  rintro e w8 ⟨rfl, hb8⟩
  have HB8 := Lib.hid (HB7.out.trans (hb8.mono HB7.out.size))
  have HY8 := Lib.hid (HY7.out.below hb8 (Nat.le_refl _))
  have HX8 := Lib.hid (HX7.out.below hb8 (Nat.le_refl _))
  clear hb8 HB7 HY7 HX7
  go_wp2_with fail
  refine (right_any _ y0 _ (HK.out.later HB8.out (Nat.le_refl _)) HY8.out (by have := (right_all HOK.out).1; omega)).mono ?_
  rintro e w9 ⟨rfl, hb9⟩
  rw [HOK.out]
  have HB9 := Lib.hid (HB8.out.trans (hb9.mono HB8.out.size))
  have HX9 := Lib.hid (HX8.out.below hb9 (Nat.le_refl _))
  clear hb9 HB8 HY8 HX8
  go_wp2_with fail
  refine (sameB_any _ _ (printB y0) L _ HX9.out (HBY.out.below HB9.out (Nat.le_refl _)) (by have := printB_len HOK.out; omega) (by have := HLB.out; omega)).mono ?_
  rintro e w10 ⟨rfl, nd2, rfl⟩
  rw [decide_eq_true HPR.out]
  go_wp2
  go_ret
  exact ⟨rfl, below_drewN HB9.out nd2⟩

set_option maxRecDepth 100000 in
set_option maxHeartbeats 2000000 in
theorem back_yn (a1 a2 : Option Addr) (n1 m1 c1 n2 m2 c2 : Nat) (h : List Ev) (L : List Nat) (w : World) (hK : HasK w) (hP : HasP w) (hn1 : n1 ≤ c1) (hn2 : n2 ≤ c2) (hc2 : c2 ≤ 9223372036854775807) (hz2 : a2 = none → c2 = 0)
    (HAE : Hid ((min (n1 : Int) 65).toNat = m1)) (HBE : Hid ((min (n2 : Int) 900).toNat = m2)) (hv : Evs w (.slice a1 m1 c1) h) (hb : Rd w (.slice a2 m2 c2) (bs L)) (h1 : h.length = m1) (h2 : L.length = m2) (_hm1 : m1 ≤ 65) (hm2 : m2 ≤ 900) (hby : ∀ x ∈ L, x < 256) (hr : right h = true) (he : (parseB L).2.2 ≠ 0) :
    Calls Tryd.prog 5 #[.slice a1 n1 c1, .slice a2 n2 c2] w fun e w' => e = .returned (.bool true) ∧ Below w.heap.size w w' := by
  have HK := Lib.hid hK
  have HP := Lib.hid hP
  have HV := Lib.hid hv
  have HBY := Lib.hid hb
  have HR := Lib.hid hr
  have HLE := Lib.hid h1
  have HLB := Lib.hid h2
  have hfit : m2 ≤ c2 := by have := HBE.out; omega
  have hPP := fun (W : World) (hbw : Below w.heap.size w W) => parseB_any a2 c2 L W (by rw [h2]; exact hb.below hbw (Nat.le_refl _)) (by omega) hc2 (by omega) hby hz2 (hK.later hbw (Nat.le_refl _))
  obtain ⟨z, hz⟩ : ∃ z, parseB L = z := ⟨_, rfl⟩
  rw [hz, h2] at hPP
  rw [hz] at he
  have hl0 : z.1 = [] := by
    rw [← hz] at he ⊢
    unfold parseB at he ⊢
    by_cases h5 : (readS L).2.2 = 0
    · rw [if_neg (fun hh => hh h5)] at he; exact absurd rfl he
    · rw [if_pos h5]
  obtain ⟨y0, q0, e0⟩ := z
  dsimp only at he hl0
  subst hl0
  have hne : ((e0 : Int) != 0) = true := by simp; omega
  have HNE := Lib.hid hne
  clear hne
  have HPP := Lib.hid hPP
  clear hK hP hv hb hr h1 h2 hPP hz
  have hcv := fun (W : World) => Lib.run_convert_string_bytes (P := Tryd.prog) W 9 22 5 ⟨(printTxt h).toArray⟩ Tryd.underlying9 Tryd.underlying22 Tryd.underlying5
  have HCV := Lib.hid hcv
  clear hcv
  go_enter Tryd.func5, Tryd.ntmps5
  go_wp2
  go_region
  go_wp2_with fail
  rw [HAE.out, HBE.out]
  refine (print_yes _ h _ (HK.out.later (below_dr w) (Nat.le_refl _)) (HV.out.below (below_dr w) (Nat.le_refl _)) HR.out).mono ?_
  rintro e w1 ⟨x, rfl, hx, hb1⟩
  obtain ⟨gx, cx, rfl⟩ := own_src hx (printB_pos h)
  have HB1 := Lib.hid (below_stp hb1)
  have HPA := Lib.hid (parse_own HR.out hx (HK.out.later HB1.out (Nat.le_refl _)))
  clear hx hb1
  go_wp2_with fail
  refine HPA.out.mono ?_
  rintro e w2 ⟨y, rfl, hy, _, _, hb2⟩
  have HB2 := Lib.hid (HB1.out.trans (hb2.mono HB1.out.size))
  have HY2 := Lib.hid hy
  obtain ⟨ya, yc, rfl⟩ := hy.len
  clear hy hb2 HPA HB1
  go_wp2_with fail
  refine (tprint_yes _ h _ (HK.out.later HB2.out (Nat.le_refl _)) (HP.out.later HB2.out (Nat.le_refl _)) (HV.out.below HB2.out (Nat.le_refl _)) HR.out).mono ?_
  rintro e w3 ⟨rfl, hb3⟩
  have HB3 := Lib.hid (HB2.out.trans (hb3.mono HB2.out.size))
  have HY3 := Lib.hid (HY2.out.below hb3 (Nat.le_refl _))
  clear hb3 HB2 HY2
  go_wp2_with fail
  refine (same_any _ _ h h _ HY3.out (HV.out.below HB3.out (Nat.le_refl _)) (by have := HLE.out; omega) (by have := HLE.out; omega)).mono ?_
  rintro e w4 ⟨rfl, nd, rfl⟩
  rw [decide_eq_true rfl]
  have HB4 := Lib.hid (below_drewN HB3.out nd)
  generalize w3.drewN nd = w4 at *
  have hcw := HCV.out w4
  have HIT := Lib.hid (fun c => is_text (w := w4) HR.out c)
  have HB5 := Lib.hid (HB4.out.trans ((below_bytes w4 5 ⟨(printTxt h).toArray⟩).mono HB4.out.size))
  clear HY3 HB3 HB4
  go_wp2_with fail
  clear hcw
  refine (HIT.out _).mono ?_
  rintro e w5 ⟨rfl, rfl⟩
  clear HIT
  generalize Lib.bytesWorld w4 5 ⟨(printTxt h).toArray⟩ = w5 at *
  go_wp2_with fail
  refine (HPP.out _ HB5.out).mono ?_
  rintro e w6 ⟨y, rfl, hy, _, _, hb6⟩
  have HB6 := Lib.hid (HB5.out.trans (hb6.mono HB5.out.size))
  have HY6 := Lib.hid hy
  obtain ⟨ya', yc', rfl⟩ := hy.len
  clear hy hb6 HB5
  have hne := HNE.out
  go_wp2_with fail
  refine (alive_any _ (HK.out.later HB6.out (Nat.le_refl _))).mono ?_
  rintro e w8 ⟨rfl, hb8⟩
  have HB8 := Lib.hid (HB6.out.trans (hb8.mono HB6.out.size))
  go_wp2
  go_ret
  exact ⟨rfl, HB8.out⟩

set_option maxRecDepth 100000 in
set_option maxHeartbeats 2000000 in
theorem back_yy (a1 a2 : Option Addr) (n1 m1 c1 n2 m2 c2 : Nat) (h : List Ev) (L : List Nat) (w : World) (hK : HasK w) (hP : HasP w) (hn1 : n1 ≤ c1) (hn2 : n2 ≤ c2) (hc2 : c2 ≤ 9223372036854775807) (hz2 : a2 = none → c2 = 0)
    (HAE : Hid ((min (n1 : Int) 65).toNat = m1)) (HBE : Hid ((min (n2 : Int) 900).toNat = m2)) (hv : Evs w (.slice a1 m1 c1) h) (hb : Rd w (.slice a2 m2 c2) (bs L)) (h1 : h.length = m1) (h2 : L.length = m2) (_hm1 : m1 ≤ 65) (hm2 : m2 ≤ 900) (hby : ∀ x ∈ L, x < 256) (hr : right h = true) (he : (parseB L).2.2 = 0) :
    Calls Tryd.prog 5 #[.slice a1 n1 c1, .slice a2 n2 c2] w fun e w' => e = .returned (.bool true) ∧ Below w.heap.size w w' := by
  have HK := Lib.hid hK
  have HP := Lib.hid hP
  have HV := Lib.hid hv
  have HBY := Lib.hid hb
  have HR := Lib.hid hr
  have HLE := Lib.hid h1
  have HLB := Lib.hid h2
  have hfit : m2 ≤ c2 := by have := HBE.out; omega
  have hPP := fun (W : World) (hbw : Below w.heap.size w W) => parseB_any a2 c2 L W (by rw [h2]; exact hb.below hbw (Nat.le_refl _)) (by omega) hc2 (by omega) hby hz2 (hK.later hbw (Nat.le_refl _))
  obtain ⟨z, hz⟩ : ∃ z, parseB L = z := ⟨_, rfl⟩
  rw [hz, h2] at hPP
  obtain ⟨hok, hpr⟩ := parseB_ok hby he
  rw [hz] at he hok hpr
  obtain ⟨y0, q0, e0⟩ := z
  dsimp only at he hok hpr
  subst he
  have hq0 : q0 = 0 := by
    have h3 := congrArg (fun z => z.2.1) hz
    have h4 := congrArg (fun z => z.2.2) hz
    dsimp only at h3 h4
    unfold parseB at h3 h4
    by_cases h5 : (readS L).2.2 = 0
    · rw [if_neg (fun hh => hh h5)] at h3; exact h3.symm
    · rw [if_pos h5] at h4; exact absurd h4 h5
  subst hq0
  have HOK := Lib.hid hok
  have HPR := Lib.hid hpr
  clear hok hpr
  have HPP := Lib.hid hPP
  clear hK hP hv hb hr h1 h2 hPP hz
  have hcv := fun (W : World) => Lib.run_convert_string_bytes (P := Tryd.prog) W 9 22 5 ⟨(printTxt h).toArray⟩ Tryd.underlying9 Tryd.underlying22 Tryd.underlying5
  have HCV := Lib.hid hcv
  clear hcv
  go_enter Tryd.func5, Tryd.ntmps5
  go_wp2
  go_region
  go_wp2_with fail
  rw [HAE.out, HBE.out]
  refine (print_yes _ h _ (HK.out.later (below_dr w) (Nat.le_refl _)) (HV.out.below (below_dr w) (Nat.le_refl _)) HR.out).mono ?_
  rintro e w1 ⟨x, rfl, hx, hb1⟩
  obtain ⟨gx, cx, rfl⟩ := own_src hx (printB_pos h)
  have HB1 := Lib.hid (below_stp hb1)
  have HPA := Lib.hid (parse_own HR.out hx (HK.out.later HB1.out (Nat.le_refl _)))
  clear hx hb1
  go_wp2_with fail
  refine HPA.out.mono ?_
  rintro e w2 ⟨y, rfl, hy, _, _, hb2⟩
  have HB2 := Lib.hid (HB1.out.trans (hb2.mono HB1.out.size))
  have HY2 := Lib.hid hy
  obtain ⟨ya, yc, rfl⟩ := hy.len
  clear hy hb2 HPA HB1
  go_wp2_with fail
  refine (tprint_yes _ h _ (HK.out.later HB2.out (Nat.le_refl _)) (HP.out.later HB2.out (Nat.le_refl _)) (HV.out.below HB2.out (Nat.le_refl _)) HR.out).mono ?_
  rintro e w3 ⟨rfl, hb3⟩
  have HB3 := Lib.hid (HB2.out.trans (hb3.mono HB2.out.size))
  have HY3 := Lib.hid (HY2.out.below hb3 (Nat.le_refl _))
  clear hb3 HB2 HY2
  go_wp2_with fail
  refine (same_any _ _ h h _ HY3.out (HV.out.below HB3.out (Nat.le_refl _)) (by have := HLE.out; omega) (by have := HLE.out; omega)).mono ?_
  rintro e w4 ⟨rfl, nd, rfl⟩
  rw [decide_eq_true rfl]
  have HB4 := Lib.hid (below_drewN HB3.out nd)
  generalize w3.drewN nd = w4 at *
  have hcw := HCV.out w4
  have HIT := Lib.hid (fun c => is_text (w := w4) HR.out c)
  have HB5 := Lib.hid (HB4.out.trans ((below_bytes w4 5 ⟨(printTxt h).toArray⟩).mono HB4.out.size))
  clear HY3 HB3 HB4
  go_wp2_with fail
  clear hcw
  refine (HIT.out _).mono ?_
  rintro e w5 ⟨rfl, rfl⟩
  clear HIT
  generalize Lib.bytesWorld w4 5 ⟨(printTxt h).toArray⟩ = w5 at *
  go_wp2_with fail
  refine (HPP.out _ HB5.out).mono ?_
  rintro e w6 ⟨y, rfl, hy, _, _, hb6⟩
  have HB6 := Lib.hid (HB5.out.trans (hb6.mono HB5.out.size))
  have HY6 := Lib.hid hy
  obtain ⟨ya', yc', rfl⟩ := hy.len
  clear hy hb6 HB5
  go_wp2_with fail
  refine (print_yes _ y0 _ (HK.out.later HB6.out (Nat.le_refl _)) HY6.out HOK.out).mono ?_
  rintro e w7 ⟨x, rfl, hx, hb7⟩
  have HB7 := Lib.hid (HB6.out.trans (hb7.mono HB6.out.size))
  have HY7 := Lib.hid (HY6.out.below hb7 (Nat.le_refl _))
  have HX7 := Lib.hid (Rd.of_row hx)
  obtain ⟨xa, xc, rfl⟩ := row_slice hx
  clear hx hb7 HB6 HY6
  go_wp2_with fail
  refine (alive_any _ (HK.out.later HB7.out (Nat.le_refl _))).mono ?_
  rintro e w8 ⟨rfl, hb8⟩
  have HB8 := Lib.hid (HB7.out.trans (hb8.mono HB7.out.size))
  have HY8 := Lib.hid (HY7.out.below hb8 (Nat.le_refl _))
  have HX8 := Lib.hid (HX7.out.below hb8 (Nat.le_refl _))
  clear hb8 HB7 HY7 HX7
  go_wp2_with fail
  refine (right_any _ y0 _ (HK.out.later HB8.out (Nat.le_refl _)) HY8.out (by have := (right_all HOK.out).1; omega)).mono ?_
  rintro e w9 ⟨rfl, hb9⟩
  rw [HOK.out]
  have HB9 := Lib.hid (HB8.out.trans (hb9.mono HB8.out.size))
  have HX9 := Lib.hid (HX8.out.below hb9 (Nat.le_refl _))
  clear hb9 HB8 HY8 HX8
  go_wp2_with fail
  refine (sameB_any _ _ (printB y0) L _ HX9.out (HBY.out.below HB9.out (Nat.le_refl _)) (by have := printB_len HOK.out; omega) (by have := HLB.out; omega)).mono ?_
  rintro e w10 ⟨rfl, nd2, rfl⟩
  rw [decide_eq_true HPR.out]
  go_wp2
  go_ret
  exact ⟨rfl, below_drewN HB9.out nd2⟩

theorem back_any (a1 a2 : Option Addr) (n1 c1 c2 : Nat) (h : List Ev) (L : List Nat) (w : World) (hK : HasK w) (hP : HasP w) (hn1 : n1 ≤ c1) (hn2 : L.length ≤ c2) (hc2 : c2 ≤ 9223372036854775807) (hz2 : a2 = none → c2 = 0)
    (hv : Evs w (.slice a1 (min (n1 : Int) 65).toNat c1) h) (hb : Rd w (.slice a2 L.length c2) (bs L)) (hby : ∀ x ∈ L, x < 256) :
    Calls Tryd.prog 5 #[.slice a1 n1 c1, .slice a2 L.length c2] w fun e w' => e = .returned (.bool true) ∧ Below w.heap.size w w' := by
  obtain ⟨m1, e1⟩ : ∃ m1, (min (n1 : Int) 65).toNat = m1 := ⟨_, rfl⟩
  obtain ⟨m2, e2⟩ : ∃ m2, (min (L.length : Int) 900).toNat = m2 := ⟨_, rfl⟩
  rw [e1] at hv
  have hlen : h.length = m1 := by
    obtain ⟨a', c', he⟩ := hv.len
    simp only [Value.slice.injEq] at he
    exact he.2.1.symm
  have k2 : m2 ≤ L.length := by omega
  have r2 := rd_cut hb m2 k2
  rw [show (bs L).take m2 = bs (L.take m2) from by simp [bs, List.map_take]] at r2
  have t2 : (L.take m2).length = m2 := by rw [List.length_take]; omega
  have u2 : ∀ z ∈ L.take m2, z < 256 := fun z hz => hby z (List.mem_of_mem_take hz)
  by_cases he : (parseB (L.take m2)).2.2 = 0
  · cases hr : right h with
    | true => exact back_yy a1 a2 n1 m1 c1 L.length m2 c2 h (L.take m2) w hK hP hn1 hn2 hc2 hz2 e1 e2 hv r2 hlen t2 (by omega) (by omega) u2 hr he
    | false => exact back_ny a1 a2 n1 m1 c1 L.length m2 c2 h (L.take m2) w hK hP hn1 hn2 hc2 hz2 e1 e2 hv r2 hlen t2 (by omega) (by omega) u2 hr he
  · cases hr : right h with
    | true => exact back_yn a1 a2 n1 m1 c1 L.length m2 c2 h (L.take m2) w hK hP hn1 hn2 hc2 hz2 e1 e2 hv r2 hlen t2 (by omega) (by omega) u2 hr he
    | false => exact back_nn a1 a2 n1 m1 c1 L.length m2 c2 h (L.take m2) w hK hP hn1 hn2 hc2 hz2 e1 e2 hv r2 hlen t2 (by omega) (by omega) u2 hr he
end Go.Proofs.YtgebmjbfeakpgaaDoor
