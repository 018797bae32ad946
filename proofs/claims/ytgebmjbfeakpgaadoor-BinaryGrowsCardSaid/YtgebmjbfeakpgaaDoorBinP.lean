/- Plain words: what is read may be; what is printed is read; what is read, printed, is those bytes. -/
import Derived.Test.YtgebmjbfeakpgaaDoorBinA
namespace Go.Proofs.YtgebmjbfeakpgaaDoor.BPlain
open WPlain VPlain

theorem right_iff (h : List Ev) : right h = true ↔ h.length ≤ 60 ∧ (∀ e ∈ h, evOk e = true) ∧ (namesOf h).length ≤ 6 := by
  simp only [right, Bool.and_eq_true, decide_eq_true_eq, List.all_eq_true, and_assoc]
theorem right_swap {h : List Ev} {e f : Ev} (hf : f.t = e.t) (he : evOk f = true) (hr : right (h ++ [e]) = true) : right (h ++ [f]) = true := by
  rw [right_iff] at hr ⊢
  obtain ⟨h1, h2, h3⟩ := hr
  refine ⟨by simpa using h1, fun x hx => ?_, ?_⟩
  · rcases List.mem_append.1 hx with hx | hx
    · exact h2 x (List.mem_append_left _ hx)
    · rw [List.mem_singleton.1 hx]; exact he
  · rw [namesOf_snoc] at h3 ⊢
    rw [hf]; exact h3
theorem evOk_mk {k t v : Nat} {x : Int} (hk : k < 10) (ht : t ≤ 9999) (hv : v ≤ 7) (hx : -2147483648 ≤ x ∧ x ≤ 2147483647) (hV : hasV k = false → v = 0) (hX : hasX k = false → x = 0) : evOk ⟨k, t, v, x⟩ = true := by
  simp only [evOk, inB, Bool.and_eq_true, Bool.or_eq_true, decide_eq_true_eq, beq_iff_eq, Int.toNat_natCast]
  refine ⟨⟨⟨by omega, by omega⟩, ?_, ?_⟩, ⟨⟨by omega, by omega⟩, by omega, by omega⟩, hx.1, hx.2⟩
  · cases h : hasV k with
    | true => exact .inl rfl
    | false => exact .inr (by have := hV h; omega)
  · cases h : hasX k with
    | true => exact .inl rfl
    | false => exact .inr (hX h)
theorem zag_range {n : Nat} (h : n ≤ 4294967295) : -2147483648 ≤ zagI n ∧ zagI n ≤ 2147483647 := by unfold zagI; split <;> omega
theorem zag_out {n : Nat} (h : 4294967295 < n) : zagI n < -2147483648 ∨ 2147483647 < zagI n := by unfold zagI; split <;> omega
theorem nameS_right {L : List Nat} {i : Nat} {h : List Ev} (he : (nameS L i h).2.2 = 0) : right (h ++ [⟨0, ((nameS L i h).1 : Nat), 0, 0⟩]) = true ∧ nameS L i h = upS L i 9999 3 := by
  unfold nameS at *
  split at he
  · rename_i h1; exact absurd he h1
  · rename_i h1
    rw [if_neg h1]
    split at he
    · rename_i h2
      rw [if_pos h2]
      exact ⟨h2, rfl⟩
    · simp at he
theorem upS_ok {L : List Nat} {i m b : Nat} (h : (upS L i m b).2.2 = 0) (hb : b ≠ 0) : upS L i m b = numS L i ∧ (numS L i).1 ≤ m := by
  unfold upS at *
  split at h
  · exact absurd h hb
  · rename_i h1
    rw [if_neg h1]
    refine ⟨rfl, ?_⟩
    have : ¬ m < (numS L i).1 := fun hh => h1 ⟨h, hh⟩
    omega
theorem numS_bytes {L : List Nat} (hb : ∀ x ∈ L, x < 256) {i : Nat} (h : (numS L i).2.2 = 0) : L.drop i = nb (numS L i).1 ++ L.drop (numS L i).2.1 := by
  have h1 := (nb_getL (L.drop i) (fun c hc => hb c (List.mem_of_mem_drop hc)) 0 h).1
  show L.drop i = nb (getL 0 (L.drop i)).1 ++ L.drop (i + (getL 0 (L.drop i)).2.1)
  rw [h1, ← List.drop_drop]
  exact (List.take_append_drop _ _).symm
/-- an event is read: its bytes, and it may be -/
theorem numsS_ok {L : List Nat} (hb : ∀ x ∈ L, x < 256) {i k : Nat} {h : List Ev} (hk : k < 10) (he : (numsS L i k h).2.2 = 0) :
    right (h ++ [(numsS L i k h).1]) = true ∧ (numsS L i k h).1.k = k ∧ k :: L.drop i = bodyB (numsS L i k h).1 ++ L.drop (numsS L i k h).2.1 := by
  have hz := he
  unfold numsS at he ⊢
  by_cases h1 : (nameS L i h).2.2 = 0
  · obtain ⟨hr, hu⟩ := nameS_right h1
    have hm := nameS_most h1
    have hn := numS_bytes hb (i := i) (by rw [hu] at h1; rw [← (upS_ok h1 (by decide)).1]; exact h1)
    have hue : nameS L i h = numS L i := by rw [hu] at h1 ⊢; exact (upS_ok h1 (by decide)).1
    rw [← hue] at hn
    rw [if_neg (fun hh => hh h1)] at he ⊢
    generalize nameS L i h = N at *
    obtain ⟨t, i1, e1⟩ := N
    dsimp only at *
    cases hV : hasV k with
    | true =>
      rw [hV, if_pos rfl] at he
      rw [if_pos rfl]
      by_cases h2 : (upS L i1 7 3).2.2 = 0
      · obtain ⟨hu2, hm2⟩ := upS_ok h2 (by decide)
        have hn2 := numS_bytes hb (i := i1) (by rw [← hu2]; exact h2)
        rw [if_neg (fun hh => hh h2)] at he ⊢
        rw [hu2] at he ⊢
        rw [← hu2] at hm2
        rw [hu2] at hm2
        generalize numS L i1 = N2 at *
        obtain ⟨v, i2, e2⟩ := N2
        dsimp only at *
        cases hX : hasX k with
        | true =>
          rw [hX, if_pos rfl] at he
          rw [if_pos rfl]
          by_cases h3 : (valS L i2).2.2 = 0
          · obtain ⟨hu3, hm3⟩ := upS_ok (L := L) (i := i2) (m := 4294967295) (b := 3) h3 (by decide)
            have hn3 := numS_bytes hb (i := i2) (by rw [← hu3]; exact h3)
            rw [if_neg (fun hh => hh h3)]
            have hval : valS L i2 = numS L i2 := hu3
            rw [hval]
            generalize numS L i2 = N3 at *
            obtain ⟨x, i3, e3⟩ := N3
            dsimp only at *
            refine ⟨right_swap (e := ⟨0, (t : Nat), 0, 0⟩) rfl (evOk_mk hk hm hm2 (zag_range hm3) (fun hh => by rw [hV] at hh; cases hh) (fun hh => by rw [hX] at hh; cases hh)) hr, rfl, ?_⟩
            rw [hn, hn2, hn3]
            simp [bodyB, hV, hX, zig_zag]
          · rw [if_pos h3] at he
            exact absurd he h3
        | false =>
          rw [if_neg (by decide)]
          refine ⟨right_swap (e := ⟨0, (t : Nat), 0, 0⟩) rfl (evOk_mk hk hm hm2 ⟨by omega, by omega⟩ (fun hh => by rw [hV] at hh; cases hh) (fun _ => rfl)) hr, rfl, ?_⟩
          rw [hn, hn2]
          simp [bodyB, hV, hX]
      · rw [if_pos h2] at he
        exact absurd he h2
    | false =>
      rw [hV, if_neg (by decide)] at he
      rw [if_neg (by decide)]
      cases hX : hasX k with
      | true =>
        rw [hX, if_pos rfl] at he
        rw [if_pos rfl]
        by_cases h3 : (valS L i1).2.2 = 0
        · obtain ⟨hu3, hm3⟩ := upS_ok (L := L) (i := i1) (m := 4294967295) (b := 3) h3 (by decide)
          have hn3 := numS_bytes hb (i := i1) (by rw [← hu3]; exact h3)
          rw [if_neg (fun hh => hh h3)]
          have hval : valS L i1 = numS L i1 := hu3
          rw [hval]
          generalize numS L i1 = N3 at *
          obtain ⟨x, i3, e3⟩ := N3
          dsimp only at *
          refine ⟨right_swap (e := ⟨0, (t : Nat), 0, 0⟩) rfl (evOk_mk (v := 0) hk hm (by omega) (zag_range hm3) (fun _ => rfl) (fun hh => by rw [hX] at hh; cases hh)) hr, rfl, ?_⟩
          rw [hn, hn3]
          simp [bodyB, hV, hX, zig_zag]
        · rw [if_pos h3] at he
          exact absurd he h3
      | false =>
        rw [if_neg (by decide)]
        refine ⟨right_swap (e := ⟨0, (t : Nat), 0, 0⟩) rfl (evOk_mk (v := 0) (x := 0) hk hm (by omega) ⟨by omega, by omega⟩ (fun _ => rfl) (fun _ => rfl)) hr, rfl, ?_⟩
        rw [hn]
        simp [bodyB, hV, hX]
  · rw [if_pos h1] at he
    exact absurd he h1
theorem drop_more {L A R : List Nat} {i : Nat} (h : L.drop i = A ++ R) : L.drop (i + A.length) = R := by
  rw [← List.drop_drop, h, List.drop_left]
theorem drop_len {L A R : List Nat} {i : Nat} (h : L.drop i = A ++ R) (hi : i ≤ L.length) : L.length = i + A.length + R.length := by
  have := congrArg List.length h
  rw [List.length_drop, List.length_append] at this
  omega
theorem bodyS_ok {L : List Nat} (hb : ∀ x ∈ L, x < 256) {i : Nat} {h : List Ev} (hi : i < L.length) (he : (bodyS L i h).2.2 = 0) :
    ∃ e, (bodyS L i h).1 = h ++ [e] ∧ right (h ++ [e]) = true ∧ L.drop i = bodyB e ∧ (bodyS L i h).2.1 = L.length := by
  have hg : L.getD i 0 = L[i] := by simp [hi]
  have hd : L.drop i = L[i] :: L.drop (i + 1) := List.drop_eq_getElem_cons hi
  unfold bodyS at he ⊢
  rw [hg] at he ⊢
  by_cases h10 : 10 ≤ L[i]
  · rw [if_pos h10] at he
    simp at he
  · rw [if_neg h10] at he ⊢
    by_cases h0 : (numsS L (i + 1) L[i] h).2.2 = 0
    · rw [if_neg (fun hh => hh h0)] at he ⊢
      obtain ⟨h1, _, h3⟩ := numsS_ok hb (i := i + 1) (k := L[i]) (h := h) (by omega) h0
      have hle := numsS_le L[i] h (show i + 1 ≤ L.length from hi)
      dsimp only at he
      split at he
      · simp at he
      · rename_i hn
        refine ⟨_, rfl, h1, ?_, by show (numsS L (i + 1) L[i] h).2.1 = _; omega⟩
        rw [hd, h3, List.drop_eq_nil_of_le (by omega), List.append_nil]
    · rw [if_pos h0] at he
      exact absurd he h0
theorem eventS_ok {L : List Nat} (hb : ∀ x ∈ L, x < 256) {i : Nat} {h : List Ev} (hi : i ≤ L.length) (he : (eventS L i h).2.2 = 0) :
    ∃ e, (eventS L i h).1 = h ++ [e] ∧ right (h ++ [e]) = true ∧ L.drop i = evB e ++ L.drop (eventS L i h).2.1 := by
  have hle := numS_le hi
  unfold eventS at he ⊢
  by_cases h0 : (numS L i).2.2 = 0
  · have hn := numS_bytes hb h0
    rw [if_neg (fun hh => hh h0)] at he ⊢
    generalize numS L i = N at *
    obtain ⟨n, i1, er⟩ := N
    dsimp only at *
    by_cases h1 : L.length - i1 < n
    · rw [if_pos h1] at he; simp at he
    · rw [if_neg h1] at he ⊢
      by_cases h2 : n = 0
      · rw [if_pos h2] at he; simp at he
      · rw [if_neg h2] at he ⊢
        have hl : (L.take (i1 + n)).length = i1 + n := by rw [List.length_take]; omega
        obtain ⟨e, a1, a2, a3, a4⟩ := bodyS_ok (fun x hx => hb x (List.mem_of_mem_take hx)) (h := h) (show i1 < (L.take (i1 + n)).length by omega) he
        refine ⟨e, a1, a2, ?_⟩
        rw [a4, hl, hn]
        rw [List.drop_take, show i1 + n - i1 = n from by omega] at a3
        have hbl : (bodyB e).length = n := by rw [← a3, List.length_take, List.length_drop]; omega
        have h4 : L.drop i1 = bodyB e ++ L.drop (i1 + n) := by rw [← a3, ← List.drop_drop]; exact (List.take_append_drop n (L.drop i1)).symm
        unfold evB
        rw [h4, hbl, List.append_assoc]
  · rw [if_pos h0] at he
    exact absurd he h0
theorem eventsS_ok {L : List Nat} (hb : ∀ x ∈ L, x < 256) : ∀ (n i : Nat) (h : List Ev), i ≤ L.length → right h = true → (eventsS L n i h).2.2 = 0 →
    ∃ g, (eventsS L n i h).1 = h ++ g ∧ g.length = n ∧ right (h ++ g) = true ∧ L.drop i = g.flatMap evB := by
  intro n
  induction n with
  | zero =>
    intro i h hi hr he
    refine ⟨[], by simp [eventsS], rfl, by simpa using hr, ?_⟩
    have h1 : ¬ i < L.length := by
      intro hh
      simp [eventsS, hh] at he
    simp [List.drop_eq_nil_of_le (show L.length ≤ i by omega)]
  | succ n ih =>
    intro i h hi hr he
    unfold eventsS at he ⊢
    by_cases h0 : (eventS L i h).2.2 = 0
    · rw [if_neg (fun hh => hh h0)] at he ⊢
      obtain ⟨e, a1, a2, a3⟩ := eventS_ok hb hi h0
      have hle := eventS_le h hi
      rw [a1] at he ⊢
      obtain ⟨g, b1, b2, b3, b4⟩ := ih _ _ hle.2 a2 he
      refine ⟨e :: g, by rw [b1]; simp, by simp [b2], by rw [List.append_assoc] at b3; exact b3, ?_⟩
      rw [a3, b4]; simp
    · rw [if_pos h0] at he
      exact absurd he h0
/-- what is read may be, and, printed, is those bytes -/
theorem parseB_ok {L : List Nat} (hb : ∀ x ∈ L, x < 256) (he : (parseB L).2.2 = 0) : right (parseB L).1 = true ∧ printB (parseB L).1 = L := by
  by_cases hz : (readS L).2.2 = 0
  · have e1 : parseB L = ((readS L).1, 0, 0) := by unfold parseB; rw [if_neg (fun hh => hh hz)]
    rw [e1]
    dsimp only
    unfold readS at hz ⊢
    by_cases h0 : (upS L 0 60 5).2.2 = 0
    · rw [if_neg (fun hh => hh h0)] at hz ⊢
      obtain ⟨hu, _⟩ := upS_ok h0 (by decide)
      rw [hu] at h0 hz ⊢
      have hn := numS_bytes hb h0
      have hle := numS_le (L := L) (Nat.zero_le L.length)
      obtain ⟨g, b1, b2, b3, b4⟩ := eventsS_ok hb _ _ [] hle.2 (by decide) hz
      rw [b1]
      simp only [List.nil_append] at b3 ⊢
      refine ⟨b3, ?_⟩
      rw [List.drop_zero] at hn
      unfold printB
      rw [b2, ← b4, ← hn]
    · rw [if_pos h0] at hz
      exact absurd hz h0
  · exfalso
    unfold parseB at he
    rw [if_pos hz] at he
    exact hz he

theorem numS_at {L R : List Nat} {i n : Nat} (h : L.drop i = nb n ++ R) (hn : n < 18446744073709551616) : numS L i = (n, i + (nb n).length, 0) := by
  unfold numS
  rw [h, getL_nb R n 0 (by omega) (by simpa using hn) (fun hh => by omega)]
theorem upS_at {L R : List Nat} {i n m b : Nat} (h : L.drop i = nb n ++ R) (hn : n < 18446744073709551616) (hm : n ≤ m) : upS L i m b = (n, i + (nb n).length, 0) := by
  unfold upS
  rw [numS_at h hn, if_neg (by simp; omega)]
theorem addName_geB (a : List Int) (n : Int) : a.length ≤ (addName a n).length := by unfold addName; split <;> simp
theorem names_ge (g : List Ev) : ∀ h : List Ev, (namesOf h).length ≤ (namesOf (h ++ g)).length := by
  induction g with
  | nil => intro h; simp
  | cons e r ih =>
    intro h
    have h1 := ih (h ++ [e])
    rw [namesOf_snoc] at h1
    have h2 := addName_geB (namesOf h) e.t
    rw [List.append_assoc] at h1
    exact Nat.le_trans h2 h1
theorem right_ahead {h g : List Ev} (hr : right (h ++ g) = true) : right h = true := by
  rw [right_iff] at hr ⊢
  obtain ⟨h1, h2, h3⟩ := hr
  rw [List.length_append] at h1
  exact ⟨by omega, fun e he => h2 e (List.mem_append_left _ he), Nat.le_trans (names_ge g h) h3⟩
theorem zig_in {m : Int} (h0 : -2147483648 ≤ m) (h1 : m ≤ 2147483647) : zigI m ≤ 4294967295 := by unfold zigI; split <;> omega
theorem numsS_at {L R : List Nat} {i : Nat} {h : List Ev} {k t v : Nat} {x : Int} (hr : right (h ++ [⟨k, t, v, x⟩]) = true) (hd : k :: L.drop i = bodyB ⟨k, t, v, x⟩ ++ R) :
    numsS L i k h = (⟨k, t, v, x⟩, i + (bodyB ⟨k, t, v, x⟩).length - 1, 0) := by
  obtain ⟨hl, hall, _⟩ := (right_iff _).1 hr
  have hok := hall ⟨k, t, v, x⟩ (by simp)
  have hok2 := hok
  simp only [evOk, inB, Bool.and_eq_true, Bool.or_eq_true, decide_eq_true_eq, beq_iff_eq, Int.toNat_natCast] at hok2
  obtain ⟨⟨⟨k0, k1⟩, hv0, hx0⟩, ⟨⟨t0, t1⟩, v0, v1⟩, x0, x1⟩ := hok2
  have hz := zig_in x0 x1
  have hr0 : right (h ++ [⟨0, t, 0, 0⟩]) = true := right_swap (e := ⟨k, t, v, x⟩) rfl (evOk_mk (k := 0) (t := t) (v := 0) (x := 0) (by omega) (by omega) (by omega) ⟨by omega, by omega⟩ (fun _ => rfl) (fun _ => rfl)) hr
  have hd' : L.drop i = nb t ++ ((if hasV k = true then nb v else []) ++ ((if hasX k = true then nb (zigI x) else []) ++ R)) := by
    have h1 := congrArg List.tail hd
    simpa [bodyB, List.append_assoc] using h1
  have hN : nameS L i h = (t, i + (nb t).length, 0) := by
    unfold nameS
    rw [upS_at hd' (by omega) (by omega)]
    rw [if_neg (fun hh => hh rfl), if_pos hr0]
  have hd2 := drop_more hd'
  have htl := nb_pos t
  unfold numsS
  rw [hN, if_neg (fun hh => hh rfl)]
  dsimp only
  cases hV : hasV k with
  | true =>
    rw [hV, if_pos rfl] at hd2
    rw [if_pos rfl, upS_at hd2 (by omega) (by omega), if_neg (fun hh => hh rfl)]
    have hd3 := drop_more hd2
    dsimp only
    cases hX : hasX k with
    | true =>
      rw [hX, if_pos rfl] at hd3
      rw [if_pos rfl]
      unfold valS
      rw [upS_at hd3 (by omega) (by omega), if_neg (fun hh => hh rfl)]
      simp [bodyB, hV, hX, zag_zig] <;> omega
    | false =>
      rw [if_neg (by decide)]
      have := hx0.resolve_left (by rw [hX]; decide)
      subst this
      simp [bodyB, hV, hX] <;> omega
  | false =>
    rw [hV, if_neg (by decide), List.nil_append] at hd2
    rw [if_neg (by decide)]
    have hvz := hv0.resolve_left (by rw [hV]; decide)
    obtain rfl : v = 0 := by omega
    cases hX : hasX k with
    | true =>
      rw [hX, if_pos rfl] at hd2
      rw [if_pos rfl]
      unfold valS
      rw [upS_at hd2 (by omega) (by omega), if_neg (fun hh => hh rfl)]
      simp [bodyB, hV, hX, zag_zig] <;> omega
    | false =>
      rw [if_neg (by decide)]
      have := hx0.resolve_left (by rw [hX]; decide)
      subst this
      simp [bodyB, hV, hX] <;> omega
theorem bodyS_at {L : List Nat} {i : Nat} {h : List Ev} {e : Ev} (hr : right (h ++ [e]) = true) (hd : L.drop i = bodyB e) (hi : i ≤ L.length) : bodyS L i h = (h ++ [e], L.length, 0) := by
  obtain ⟨_, hall, _⟩ := (right_iff _).1 hr
  have hok := hall e (by simp)
  simp only [evOk, inB, Bool.and_eq_true, Bool.or_eq_true, decide_eq_true_eq, beq_iff_eq] at hok
  obtain ⟨⟨⟨k0, k1⟩, _, _⟩, ⟨⟨t0, _⟩, v0, _⟩, _, _⟩ := hok
  obtain ⟨k, t, v, x⟩ := e
  dsimp only at k0 k1 t0 v0
  obtain ⟨kk, rfl⟩ : ∃ n : Nat, k = n := ⟨k.toNat, by omega⟩
  obtain ⟨tt, rfl⟩ : ∃ n : Nat, t = n := ⟨t.toNat, by omega⟩
  obtain ⟨vv, rfl⟩ : ∃ n : Nat, v = n := ⟨v.toNat, by omega⟩
  have hlen := congrArg List.length hd
  rw [List.length_drop] at hlen
  have hbp : 0 < (bodyB ⟨kk, tt, vv, x⟩).length := by simp [bodyB]
  have hil : i < L.length := by omega
  have hg : L.getD i 0 = kk := by
    have h1 : L.drop i = L[i] :: L.drop (i + 1) := List.drop_eq_getElem_cons hil
    rw [hd] at h1
    have h2 : some kk = some L[i] := by
      have := congrArg List.head? h1
      simpa only [bodyB, List.cons_append, List.head?_cons, Int.toNat_natCast] using this
    rw [List.getD_eq_getElem?_getD, List.getElem?_eq_getElem hil, ← h2]; rfl
  have hdd : kk :: L.drop (i + 1) = bodyB ⟨kk, tt, vv, x⟩ ++ [] := by
    rw [List.append_nil, ← hd, List.drop_eq_getElem_cons hil]
    congr 1
    have : L.getD i 0 = L[i] := by simp [hil]
    rw [← this, hg]
  unfold bodyS
  rw [hg, if_neg (by omega), numsS_at hr hdd, if_neg (fun hh => hh rfl)]
  have he : i + 1 + (bodyB ⟨kk, tt, vv, x⟩).length - 1 = L.length := by omega
  dsimp only
  rw [he, if_neg (by omega)]
theorem eventS_at {L R : List Nat} {i : Nat} {h : List Ev} {e : Ev} (hr : right (h ++ [e]) = true) (hd : L.drop i = evB e ++ R) (hi : i ≤ L.length) (hsm : (bodyB e).length ≤ 100) : eventS L i h = (h ++ [e], i + (evB e).length, 0) := by
  have hlen := drop_len hd hi
  have hbp : 0 < (bodyB e).length := by simp [bodyB]
  have hd' : L.drop i = nb (bodyB e).length ++ (bodyB e ++ R) := by rw [hd]; simp [evB, List.append_assoc]
  have hn := numS_at hd' (by omega)
  have hd2 := drop_more hd'
  have hev : (evB e).length = (nb (bodyB e).length).length + (bodyB e).length := by simp [evB]
  unfold eventS
  rw [hn, if_neg (fun hh => hh rfl)]
  dsimp only
  rw [if_neg (by omega), if_neg (by omega)]
  have hlt : (L.take (i + (nb (bodyB e).length).length + (bodyB e).length)).length = i + (nb (bodyB e).length).length + (bodyB e).length := by rw [List.length_take]; omega
  rw [bodyS_at hr ?_ (by omega)]
  · rw [hlt, hev, Nat.add_assoc]
  · rw [List.drop_take, show i + (nb (bodyB e).length).length + (bodyB e).length - (i + (nb (bodyB e).length).length) = (bodyB e).length from by omega, hd2, List.take_left]
theorem eventsS_at {L : List Nat} : ∀ (g : List Ev) (i : Nat) (h : List Ev), right (h ++ g) = true → (∀ e ∈ g, (bodyB e).length ≤ 100) → L.drop i = g.flatMap evB → i ≤ L.length → eventsS L g.length i h = (h ++ g, L.length, 0) := by
  intro g
  induction g with
  | nil =>
    intro i h hr _ hd hi
    have h1 := congrArg List.length hd
    rw [List.length_drop] at h1
    simp at h1
    obtain rfl : i = L.length := by omega
    simp [eventsS]
  | cons e r ih =>
    intro i h hr hs hd hi
    have hr1 : right (h ++ [e]) = true := right_ahead (g := r) (by rw [List.append_assoc]; exact hr)
    have hd1 : L.drop i = evB e ++ r.flatMap evB := by rw [hd]; simp
    have he := eventS_at hr1 hd1 hi (hs e (List.mem_cons_self ..))
    have hl := drop_len hd1 hi
    show eventsS L (r.length + 1) i h = _
    unfold eventsS
    rw [he, if_neg (fun hh => hh rfl)]
    dsimp only
    rw [ih _ _ (by rw [List.append_assoc]; exact hr) (fun x hx => hs x (List.mem_cons_of_mem _ hx)) (drop_more hd1) (by omega), List.append_assoc]
    rfl
/-- what is printed is read -/
theorem parseB_printB {h : List Ev} (hr : right h = true) (hs : ∀ e ∈ h, (bodyB e).length ≤ 100) : parseB (printB h) = (h, 0, 0) := by
  have h60 := ((right_iff h).1 hr).1
  have hd : (printB h).drop 0 = nb h.length ++ h.flatMap evB := rfl
  have hl := drop_len hd (Nat.zero_le _)
  have hE := eventsS_at h (0 + (nb h.length).length) [] (by simpa using hr) hs (drop_more hd) (by omega)
  have hR : readS (printB h) = (h, (printB h).length, 0) := by
    unfold readS
    rw [upS_at hd (by omega) h60, if_neg (fun hh => hh rfl)]
    simpa using hE
  unfold parseB
  rw [hR, if_neg (fun hh => hh rfl)]
end Go.Proofs.YtgebmjbfeakpgaaDoor.BPlain
